/-
  'For every input the Go function milestonelaw15.SourceOf returns true, and each argument reads behind the call as it read before.'
  Conditions: none but the row's own (linux/amd64, sizes of what is read within the address space).
-/
import Derived.Test.YtldaggcopbnehaaRows
import Derived.WalkKit
import Derived.ProofKit
import Derived.OpenShut
import Derived.ShutString
import Derived.ChangeOld
import Derived.Below
import Derived.Lib.SmallJoins
import Derived.Lib.Hide
import Derived.Test.YtldaggcopbnehaaSh
import Derived.Test.YtldaggcopbnehaaHo
namespace Go.Proofs.Ytldaggcopbnehaa.sourceOf
open Pre
open Ser
open Chg
open Src hiding ActD IsActs acts_of AAt three add_zero'
open Go.Sort
open Go.ChangeShapes Go.WideShapes Go.ChangeAt Go.RowKit
open Go.ChangeMaps (open_string shut_string)
set_option linter.unusedVariables false
set_option maxRecDepth 100000

theorem own : ownKnob Try.prog.godebug = none := by kernel_rfl
theorem laidOut : laidOutB Try.prog = true := by kernel_rfl

theorem walk (a0 : Option Addr) (len0 cap0 : Nat) (z0 : List ActD) (w : World) (w0 : IsActs w a0 len0 cap0 z0) :
    Calls Try.prog 5 #[.slice a0 len0 cap0] w fun e w' => e = .returned (.bool true) ∧ Below w.heap.size w w' := by
  obtain ⟨hl1, hl2, hl3, HA, hnil⟩ := w0
  unfold maxLen at hl3
  by_cases h2 : 40 < len0
  · have hd : decide ((40 : Int) < (len0 : Int)) = true := by simp; omega
    clear h2 hl1 HA
    go_enter Try.func5, Try.ntmps5
    go_wp2_with fail
    refine (awake_any _).mono ?_
    rintro e w1 ⟨rfl, h1⟩
    go_wp2_with fail
    refine (awake_any _).mono ?_
    rintro e w2 ⟨rfl, h2⟩
    go_wp2_with fail
    go_ret
    exact ⟨rfl, h1.trans (h2.mono h1.size)⟩
  have hd : decide ((40 : Int) < (len0 : Int)) = false := by simp; omega
  have hl60 : len0 ≤ 60 := by omega
  have HL := Lib.hid (And.intro hl1 HA)
  clear h2 hl1 HA hnil
  go_enter Try.func5, Try.ntmps5
  go_upto_region 6 with (first
    | (go_at_call 6; (with_reducible refine (awake_any _).mono ?_); rintro e w1 ⟨rfl, B1⟩; have HB1 := Lib.hid B1; clear B1)
    | (go_at_call 19; (with_reducible refine (Tab.history_exact _ a0 len0 cap0 z0 HL.out.1 hl60 (HL.out.2.below HB1.out)).mono ?_); rintro e w2 ⟨v2, cs, rfl, O2, L2, G2, B2⟩; obtain ⟨A1, c1, hv2, hsl, -⟩ := O2.form; rw [L2] at hv2; subst hv2; have HH := Lib.hid (And.intro hsl (And.intro L2 (And.intro (G2.gd (by have := HL.out.1; omega)) (HB1.out.trans (B2.mono HB1.out.size))))); clear O2 L2 G2 B2 hsl)
    | (go_at_call 18; (with_reducible refine (Tab.rrows_any _ A1 len0 c1 cs HH.out.2.1.symm hl60 HH.out.1 HH.out.2.2.1).mono ?_); rintro e w3 ⟨v3, rfl, O3, B3⟩; obtain ⟨A3, c3, hv3, hs3, -⟩ := O3.form; obtain ⟨m, hm⟩ : ∃ m, m = (Tab.tabOf cs).rows.length := ⟨_, rfl⟩; rw [← hm] at hv3; subst hv3; have hto := Tab.take_ok HH.out.2.2.1 cs.length (Nat.le_refl _); rw [List.take_length, HH.out.2.1] at hto; have HT := Lib.hid (And.intro hs3 (And.intro (HH.out.2.2.2.trans (B3.mono HH.out.2.2.2.size)) (And.intro hto hm))); clear hto hs3 O3 B3; have hm60 : m ≤ 60 := (by rw [HT.out.2.2.2]; have := HT.out.2.2.1.2.1; omega); clear hm)
    | (go_at_call 20; (with_reducible refine (Of_any _ A3 m c3 _ HT.out.2.2.2 hm60 HT.out.1 HT.out.2.2.1.1.up HT.out.2.2.1.1.ok).mono ?_); rintro e w4 ⟨rfl, S4, B4⟩; have H4 := Lib.hid (And.intro S4 (And.intro (HT.out.1.below B4) (HT.out.2.1.trans (B4.mono HT.out.2.1.size)))); clear S4 B4))
  generalize hrs : (Tab.tabOf cs).rows = rs at *
  generalize w3.heap.size = q at *
  go_wp2
  go_loopw [5] (fun i wr => ∃ j : Nat, j ≤ m ∧ i = .int .i64 j ∧ Hid (Below w4.heap.size w4 wr)) (fun i _ => m - (intOf i).toNat)
  case atStart => exact ⟨0, Nat.zero_le _, rfl, Below.refl _ _⟩
  case round =>
    obtain ⟨j, hj, rfl, HR⟩ := hrel
    rcases Nat.lt_or_ge j m with hlt | hge
    · have hlt' : (j : Int) < m := by omega
      have hjr : j < rs.length := by rw [← HT.out.2.2.2]; exact hlt
      obtain ⟨b, o, rfl, hb, hA⟩ := (H4.out.2.1.below HR.out) j hjr
      have hO := HT.out.2.2.1.1.ok _ (by rw [hrs]; exact List.getElem_mem hjr)
      have hat := FO_at (hrs ▸ HT.out.2.2.1.1.up) (fun r h => by have := (HT.out.2.2.1.1.ok r (by rw [hrs]; exact h)).2.1; omega) j hjr rs.length hjr (Nat.le_refl _)
      rw [List.take_length] at hat
      have h1 := hO.1
      have h2 : rs[j].len < 256 := by have := hO.2.1; omega
      obtain ⟨r, hr⟩ : ∃ r, r = rs[j] := ⟨_, rfl⟩
      rw [← hr] at hat hA h1 h2
      clear hO hr
      have CM : Hid (∀ W, Below w4.heap.size w4 W → Calls Try.prog 13 #[.pointer (some ⟨q, 0, none⟩), .agg #[.int .u32 (r.addr : Int), .int .u8 (r.len : Int)]] W fun e w' => e = .returned (.tuple #[.agg #[.int .u16 (r.ms : Int), .int .u16 (r.mm : Int)], .bool true]) ∧ Below W.heap.size W w') := Lib.hid fun W hW => by
        have := Mark_any W q _ m (H4.out.1.below hW) r.addr r.len h1 h2
        rw [hat] at this
        exact this
      have HA := Lib.hid (And.intro hb hA)
      obtain ⟨k0, k1, k2, k3, k4, k5, k6, k7, k8, k9⟩ := hA
      clear hat h1 h2 k2 k3 k4 k5 k6 k7 k8 k9
      go_upto_region 9 with (go_at_call 13; (with_reducible refine (CM.out _ HR.out).mono ?_); rintro e w5 ⟨rfl, B5⟩; have H5 := Lib.hid (And.intro (HR.out.trans (B5.mono HR.out.size)) (And.intro ((HA.out.2.keep (B5.block _ HA.out.1)).keep ((Below.refl w5.heap.size w5).alloc (Nat.le_refl _) (.cells #[.int .u16 (r.ms : Int), .int .u16 (r.mm : Int)] 28) |>.block b (Nat.lt_of_lt_of_le HA.out.1 B5.size))) (heap_alloc_new w5 (.cells #[.int .u16 (r.ms : Int), .int .u16 (r.mm : Int)] 28)))); clear B5)
      have HZ5 := Lib.hid (H5.out.1.alloc H5.out.1.size (.cells #[.int .u16 (r.ms : Int), .int .u16 (r.mm : Int)] 28))
      obtain ⟨p0, p1, -⟩ := Src.row2 H5.out.2.2
      have k8 := H5.out.2.1.k8
      have k9 := H5.out.2.1.k9
      generalize w5.alloc (.cells #[.int .u16 (r.ms : Int), .int .u16 (r.mm : Int)] 28) = w6 at *
      generalize w5.heap.size = z at *
      have e0 := cell_regrown p0
      have e1 := cell_regrown p1
      have e8 := cell_regrown k8
      have e9 := cell_regrown k9
      clear p0 p1 k8 k9 k0 k1
      refine wp_region_quiet_below (by kernel_rfl) (by kernel_rfl) ?_
      repeat (quiet_step (fail))
      refine wpQuiet_nil ?_
      intro _ hw'
      obtain ⟨⟨dq, osq⟩, hw''⟩ := hw'
      subst hw''
      have HB := Lib.hid (below_regrown w6 dq osq)
      clear e0 e1 e8 e9
      go_wp2
      go_roundw
      case rel => exact ⟨j + 1, hlt, by go_num, HZ5.out.trans (HB.out.mono HZ5.out.size)⟩
      case measure => simp [intOf]; omega
    · obtain rfl : j = m := by omega
      have hge' : ¬ (j : Int) < j := by omega
      go_wp2_with (go_at_call 17; (with_reducible refine (Len_any _ q _ j (H4.out.1.below HR.out)).mono ?_); rintro e w3 ⟨rfl, rfl⟩)
      go_ret
      exact ⟨rfl, H4.out.2.2.trans (HR.out.mono H4.out.2.2.size)⟩

set_option maxRecDepth 100000 in
theorem lifted (os : Os) (started : os.Started) (H : Type) (enc : TypeId × Value → H) :
    ReturnsInHanded {} Try.checked os 5 .any (Rows.sourceOfSpec.pre6 enc Try.prog Try.f5 Rows.sourceOfRow.domain false) (Rows.sourceOfSpec.post enc Try.prog Try.f5 false true false false) := by
  refine returnsInHanded_of_change (C := Try.checked) own started (by kernel_rfl) Try.func5
    (ChangeSpec.witness6 (enc := enc) (C := Try.checked) false ⟨#[], #[.slice none 0 0], []⟩ 8 (by kernel_rfl) (by kernel_rfl) (by kernel_rfl) (by kernel_rfl)) ?_
  intro W base args ds gs before hval0 hW hcnd _
  have hval : ∀ (j : Nat) t v, Try.f5.params[j]? = some t → args[j]? = some v → Value.okWide Try.prog W .any base t v := hval0
  have hW' := hW
  obtain ⟨p, q, hA0, hV, rfl, hfz, hnd⟩ := hW
  have hA : DataW.TrodAll enc Try.prog W 0 (fun _ => true) true Try.f5.params.toList args.toList ds p := hA0
  rw [Try.params5] at hA hval
  obtain ⟨v0, vs0, d0, ds0, p0, q0, hargs, rfl, rfl, h0, r0⟩ := trodAll_cons hA
  obtain ⟨rfl, rfl, rfl⟩ := trodAll_nil r0
  obtain rfl : args = #[v0] := by cases args; simp_all
  obtain ⟨rfl, rfl⟩ := trodVars_none hV
  obtain ⟨a0, len0, cap0, rfl⟩ := okWide_slice Try.underlying51 (hval 0 51 v0 rfl rfl)
  have k0 := h0
  have lt0 : ∀ x ∈ p0, x.block < W.heap.size := by obtain ⟨m, hm⟩ := k0; exact DataW.trod_lt m _ _ _ hm
  obtain ⟨z0, w0⟩ : ∃ zs, IsActs W a0 len0 cap0 zs := by
    obtain ⟨fuel, hf⟩ := h0
    obtain ⟨a, l, c, ds, hcs, hds⟩ := acts_of hf
    simp [Value.cells] at hcs
    obtain ⟨rfl, rfl, rfl⟩ := hcs
    exact ⟨ds, hds⟩
  clear hA0 hval0
  refine (walk a0 len0 cap0 z0 W w0).mono fun e W' ⟨he, bel⟩ => ?_
  subst he
  exact ⟨_, rfl, _, _, _, [], _, [], hW', trodAll_mk1 (shut_bool Try.underlying4 _), (trodAll_cons_mk (Below.trod laidOut (by kernel_rfl) (of_decide_eq_true (by kernel_rfl)) k0 bel lt0) trodAll_mk0), rfl, bel.frame _, fun h => by cases h⟩

theorem over : Rows.sourceOfRow.holds Try.pinned (OpenSpec.ofChange Rows.sourceOfSpec) :=
  OpenClaim.holds_of_wide 5 Try.f5 rfl rfl rfl rfl rfl rfl rfl ⟨rfl, rfl, rfl, rfl, rfl⟩ rfl rfl rfl rfl rfl (by kernel_rfl) Try.func5 (by kernel_rfl)
    (of_decide_eq_true (by kernel_rfl)) (by unfold Func.isWrapper; first | (rw [if_pos (by decide +kernel)]; kernel_rfl) | (rw [if_neg (by decide +kernel)]; exact ⟨rfl, rfl⟩))
    (fun os started H enc _ => lifted os started H enc)

theorem proved : Rows.SourceOfSaid := over
#print axioms proved
end Go.Proofs.Ytldaggcopbnehaa.sourceOf
