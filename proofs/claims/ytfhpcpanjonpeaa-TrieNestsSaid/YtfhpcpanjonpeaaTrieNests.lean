/-
  'For every input the Go function milestonelaw09.TrieNests returns true, and each argument reads behind the call as it read before.'
  Conditions: none but the row's own (linux/amd64, sizes of what is read within the address space).
-/
import Derived.Test.YtfhpcpanjonpeaaRows
import Derived.WalkKit
import Derived.ProofKit
import Derived.OpenShut
import Derived.ShutString
import Derived.ChangeOld
import Derived.Below
import Derived.Lib.SmallJoins
import Derived.Lib.Hide
import Derived.Test.YtfhpcpanjonpeaaTh
import Derived.Test.YtfhpcpanjonpeaaTn
import Derived.Deep.DeepCutAuto
import Derived.Deep.CutBlock
namespace Go.Proofs.Ytfhpcpanjonpeaa.trieNests
open Tri
open Pre
open Go.ChangeShapes Go.WideShapes Go.ChangeAt Go.RowKit
open Go.ChangeMaps (open_string shut_string)
set_option linter.unusedVariables false

theorem own : ownKnob Try.prog.godebug = none := by kernel_rfl
theorem laidOut : laidOutB Try.prog = true := by kernel_rfl

set_option maxRecDepth 8000 in
set_option maxHeartbeats 8000000 in
theorem walk (a0 : Option Addr) (len0 cap0 : Nat) (z0 : List ActD) (a1 : Int) (w : World) (w0 : IsActs w a0 len0 cap0 z0) (w1 : (Lit.int .u32 a1).wf = true) :
    Calls Try.prog 6 #[.slice a0 len0 cap0, .int .u32 a1] w fun e w' => e = .returned (.bool true) ∧ Below w.heap.size w w' := by
  obtain ⟨hl1, hl2, hl3, HA, hnil⟩ := w0
  unfold maxLen at hl3
  have hb1 := bounds_u32 w1
  clear w1
  obtain ⟨b, rfl⟩ := Int.eq_ofNat_of_zero_le hb1.1
  have hb : b < 4294967296 := by omega
  clear hb1
  by_cases h2 : 40 < len0
  · have h2' : (40 : Int) < len0 := by omega
    clear h2 hl1 HA
    go_enter Try.func6, Try.ntmps6
    go_wp2_with fail
    refine (awake_any _).mono ?_
    rintro e w1 ⟨rfl, h1⟩
    go_wp2_with fail
    refine (awake_any _).mono ?_
    rintro e w2 ⟨rfl, h2⟩
    go_wp2_with fail
    go_ret
    exact ⟨rfl, h1.trans (h2.mono h1.size)⟩
  have h2' : ¬ (40 : Int) < len0 := by omega
  have hl40 : len0 ≤ 40 := by omega
  have HL := Lib.hid hl1
  clear h2 hl1
  go_enter Try.func6, Try.ntmps6
  go_upto_region 3 with (first
    | (go_at_call 7; refine (awake_any _).mono ?_; rintro e wz ⟨rfl, B0⟩))
  have HS := Lib.hid (HA.below B0)
  have HOK := Lib.hid (rtl_ok z0 HA.oks)
  have HW := Lib.hid B0
  have HO : Hid (OfAt wz (wz.alloc (.cells #[.pointer none, .int .i64 0] 28)) wz.heap.size (rtl z0) 0) := Lib.hid ⟨(Below.refl _ _).alloc (Nat.le_refl _) _, [], TrAt.new wz, by simp⟩
  clear HA B0
  go_upto_block 0 with (fail)
  generalize wz.alloc _ = wg at *
  go_cut [] (fun wx => Hid (OfAt wz wx wz.heap.size (rtl z0) len0))
  case first =>
    go_wp2
    go_loopw [6] (fun i wr => ∃ k : Nat, k ≤ len0 ∧ i = .int .i64 k ∧ Hid (OfAt wz wr wz.heap.size (rtl z0) k)) (fun i _ => len0 - (intOf i).toNat)
    case atStart => exact ⟨0, by omega, rfl, HO⟩
    case round =>
      obtain ⟨k, hk, rfl, HR⟩ := hrel
      clear HO
      by_cases hlt : k < len0
      · have hkz : k < z0.length := by rw [← HL.out]; exact hlt
        obtain ⟨b0, o0, ea, hb0, hc⟩ := HS.out k hkz
        subst ea
        obtain ⟨hbe, bs, htr, hbs⟩ := HR.out
        replace hc := hc.keep (hbe.block b0 hb0)
        have hrk := rtl_get z0 k hkz
        have hwf := puts_wf HOK.out k (by rw [rtl_len]; omega)
        have hpl := puts_le (rtl z0) k
        obtain ⟨d, hd⟩ : ∃ d, d = z0[k] := ⟨_, rfl⟩
        rw [← hd] at hc hrk
        have hpo := place_ok d hc.ok
        have c8 := fun W => place_any d hc.ok W
        obtain ⟨k0, k1, k2, k3, _⟩ := hc
        obtain ⟨X, hX⟩ : ∃ X, X = d.pa := ⟨_, rfl⟩
        obtain ⟨Y, hY⟩ : ∃ Y, Y = d.pk := ⟨_, rfl⟩
        rw [← hX, ← hY] at c8 hrk hpo
        have HK := Lib.hid (And.intro hrk hbs)
        have HTR := Lib.hid (And.intro htr hwf)
        have HPO := Lib.hid hpo
        clear hX hY hd hrk hbs hbe htr hwf hpo
        go_wp2_with (first
          | (go_at_call 8; (with_reducible refine (c8 _).mono ?_); rintro e w2 ⟨rfl, B2⟩; have HB2 := Lib.hid B2; clear B2 c8; have c10 := Put_any (HTR.out.1.below HB2.out) HTR.out.2 ⟨X, Y, (k : Int), 0, 0⟩ HPO.out (by omega); unfold R.cl at c10; dsimp only at c10)
          | (go_at_call 10; (with_reducible refine c10.mono ?_); rintro e w3 ⟨rfl, bs', T3, fr3, G3⟩))
        go_roundw
        case rel => exact ⟨k + 1, by omega, by go_num, Lib.hid (HR.out.next HB2.out HK.out.1 HK.out.2 T3 fr3 G3)⟩
        case measure => simp [intOf]; omega
      · obtain rfl : k = len0 := by omega
        go_wp2
        go_meet
        case rel => exact HR
  case rest =>
    have HN : Hid (NB wz wc wz.heap.size b 0 99) := Lib.hid (hcut.out.nb hl40 HOK.out (by rw [rtl_len, ← HL.out]; exact Nat.le_refl _))
    clear hcut HO
    generalize wc = wq at *
    go_wp2
    go_loopw [7, 8] (fun v7 v8 wr => ∃ i : Nat, i ≤ 40 ∧ v8 = .int .i64 i ∧ ∃ last : Nat, v7 = .int .u8 last ∧ Hid (NB wz wr wz.heap.size b i last)) (fun _ i _ => 40 - (intOf i).toNat)
    case atStart => exact ⟨0, by omega, rfl, 99, rfl, HN⟩
    case round =>
      obtain ⟨i, hi, rfl, last, rfl, HR⟩ := hrel
      clear HN
      obtain ⟨hbe, ⟨t, bs, htr, hbs, hwf, hlen, hnf⟩, hli⟩ := HR.out
      have hi33 : i ≤ 33 := by omega
      have hi40 : (i : Int) < 40 := by omega
      have c14 := Look_any htr hwf b hb
      have hlong := look_longest b hwf none
      have HT := Lib.hid (And.intro htr (And.intro hbs (And.intro hwf (And.intro hlen hnf))))
      have HBE := Lib.hid hbe
      cases ho : t.look b none with
      | none =>
        have hno : ∀ y, t.Mem y → ¬ alike y.a b y.n = true := by
          rcases hlong with h | ⟨y, h, _⟩
          · exact h.1
          · rw [ho] at h; cases h
        have HNO := Lib.hid hno
        rw [ho] at c14
        unfold ocl at c14
        dsimp only [Option.isSome] at c14
        clear hlong ho hno htr hbs hwf hlen hnf hbe hli
        go_upto_region 14 with (first
          | (go_at_call 14; (with_reducible refine c14.mono ?_); rintro e w2 ⟨rfl, B2⟩; clear c14))
        have B3 := B2.trans ((Below.refl w2.heap.size w2).alloc (Nat.le_refl _) (.cells #[.int .u32 0, .int .u8 0, .int .i64 0, .int .u16 0, .int .u16 0] 39) |>.mono B2.size)
        have c17 := All_any (HT.out.1.below B3) (by have := HT.out.2.2.2.1; omega)
        have HB3 := Lib.hid (HBE.out.trans (B3.mono HBE.out.size))
        clear B2 B3
        generalize w2.alloc _ = w3 at *
        go_upto_region 15 with (first
          | (go_at_call 17; (with_reducible refine c17.mono ?_); rintro e w4 ⟨v4, rfl, O4, B4⟩; clear c17; obtain ⟨A4', c4, hv4, S4⟩ := O4.form; obtain ⟨n4, hn4⟩ : ∃ n, n = t.list.length := ⟨_, rfl⟩; rw [← hn4] at hv4; subst hv4; have HS4 := Lib.hid S4; have HB4 := Lib.hid (HB3.out.trans (B4.mono HB3.out.size)); have HN4 := Lib.hid hn4; clear O4 B4 S4 hn4))
        have hn4b : n4 ≤ 40 := by rw [HN4.out]; exact HT.out.2.2.2.1
        go_wp2
        go_loopw [12] (fun j wr => ∃ k : Nat, k ≤ n4 ∧ j = .int .i64 k ∧ Hid (Below w4.heap.size w4 wr)) (fun j _ => n4 - (intOf j).toNat)
        case atStart => exact ⟨0, by omega, rfl, Lib.hid (Below.refl _ _)⟩
        case round =>
          rename_i wr5 _
          obtain ⟨k, hk, rfl, HR5⟩ := hrel
          by_cases hlt : k < n4
          · have hkl : k < t.list.length := by rw [← HN4.out]; exact hlt
            obtain ⟨b5, o5, ea, hb5, hc5⟩ := HS4.out k hkl
            subst ea
            have hy : t.Mem t.list[k] := list_mem.1 (List.getElem_mem hkl)
            obtain ⟨y, hye⟩ : ∃ y, y = t.list[k] := ⟨_, rfl⟩
            rw [← hye] at hy hc5
            have hyo := mem_ok HT.out.2.2.1 hy
            have hna := Bool.eq_false_iff.2 (HNO.out y hy)
            have c19 := fun W => has_any y.a y.n b hyo.1 (by have := hyo.2.1; omega) hb W
            rw [hna] at c19
            obtain ⟨q0, q1, q2, q3, q4⟩ := hc5.keep (HR5.out.block b5 hb5)
            clear hye hy hyo hna hc5
            go_wp2_with (first
              | (go_at_call 19; (with_reducible refine (c19 _).mono ?_); rintro e w6 ⟨rfl, B6⟩; have HB6 := Lib.hid B6; clear B6))
            go_roundw
            case rel => exact ⟨k + 1, by omega, by go_num, Lib.hid (HR5.out.trans (HB6.out.mono HR5.out.size))⟩
            case measure => simp [intOf]; omega
          · obtain rfl : k = n4 := by omega
            go_wp2
            go_ret
            have h5 := HB4.out.trans (HR5.out.mono HB4.out.size)
            exact ⟨rfl, HW.out.trans (h5.mono HW.out.size)⟩
      | some y =>
        have hly : t.Mem y ∧ alike y.a b y.n = true ∧ ∀ z, t.Mem z → alike z.a b z.n = true → z.n ≤ y.n := by
          rcases hlong with h | ⟨y', h, h'⟩
          · rw [ho] at h; cases h.2
          · rw [ho] at h; injection h with h; subst h; exact h'
        have hyo := mem_ok hwf hly.1
        have hyl := hnf y hly.1 hly.2.1
        have hwas : (t.drop y.a y.n).2 = true := (drop_was y.a y.n hwf).2 ⟨y, hly.1, rfl, rfl⟩
        have hpos := drop_len t y.a y.n hwas
        have HY := Lib.hid (And.intro hly (And.intro hyl hwas))
        have c19 := fun W => has_any y.a y.n b hyo.1 (by have := hyo.2.1; omega) hb W
        rw [hly.2.1] at c19
        have c11 := fun W (TW : TrAt W wz.heap.size t t.list.length bs) => Drop_there TW hwf y.a y.n hyo.1 hwas (by omega)
        rw [ho] at c14
        unfold ocl R.cl at c14
        dsimp only [Option.isSome] at c14
        have hyl2 : ¬ (last : Int) ≤ y.n := by omega
        have hn32 : y.n ≤ 32 := hyo.2.1
        clear hlong ho hly hyo hyl hwas hpos htr hbs hwf hlen hnf hbe hli
        go_upto_region 13 with (first
          | (go_at_call 14; (with_reducible refine c14.mono ?_); rintro e w2 ⟨rfl, B2⟩; clear c14))
        have B3 := B2.trans ((Below.refl w2.heap.size w2).alloc (Nat.le_refl _) (.cells #[.int .u32 (y.a : Int), .int .u8 (y.n : Int), .int .i64 y.via, .int .u16 y.mt, .int .u16 y.sq] 39) |>.mono B2.size)
        have HGB := Lib.hid (show w2.heap.size ∉ wz.heap.size :: bs from fun e => by have h5 := HT.out.1.ins _ e; have h6 := B2.size; omega)
        have RN := Lib.hid (heap_alloc_new w2 (.cells #[.int .u32 (y.a : Int), .int .u8 (y.n : Int), .int .i64 y.via, .int .u16 y.mt, .int .u16 y.sq] 39))
        have HB3 := Lib.hid B3
        clear B2 B3
        generalize hg3 : w2.heap.size = g3 at *
        generalize World.alloc w2 _ = w3 at *
        clear hg3
        obtain ⟨y0, y1, y2, y3, y4⟩ := row5 RN.out
        go_upto_region 23 with (first
          | (go_at_call 19; (with_reducible refine (c19 _).mono ?_); rintro e w6 ⟨rfl, B6⟩; clear y0 y1 y2 y3 y4 c19; have HB6 := Lib.hid (HB3.out.trans (B6.mono HB3.out.size)); have RN6 := Lib.hid ((B6.block _ (Array.getElem?_eq_some_iff.1 RN.out).1).trans RN.out); clear B6; obtain ⟨y0, y1, y2, y3, y4⟩ := row5 RN6.out; have c11' := c11 _ (HT.out.1.below HB6.out); clear c11)
          | (go_at_call 11; (with_reducible refine c11'.mono ?_); rintro e w7 ⟨rfl, bs', T7, fr7, G7⟩; clear y0 y1 y2 y3 y4 c11'; have RN7 := Lib.hid ((G7.block _ (Array.getElem?_eq_some_iff.1 RN6.out).1 (HGB.out)).trans RN6.out); obtain ⟨y0, y1, y2, y3, y4⟩ := row5 RN7.out))
        have HNX := Lib.hid (HR.out.next HB6.out HT.out.2.1 HT.out.2.2.1 HT.out.2.2.2.1 HY.out.1.1 HY.out.1.2.1 HY.out.1.2.2 HY.out.2.1 T7 fr7 G7)
        clear T7 fr7 G7
        go_wp2
        go_roundw
        case rel => exact ⟨i + 1, by omega, by go_num, y.n, rfl, HNX⟩
        case measure => simp [intOf]; omega

set_option maxRecDepth 100000 in
theorem lifted (os : Os) (started : os.Started) (H : Type) (enc : TypeId × Value → H) :
    ReturnsInHanded {} Try.checked os 6 .any (Rows.trieNestsSpec.pre6 enc Try.prog Try.f6 Rows.trieNestsRow.domain false) (Rows.trieNestsSpec.post enc Try.prog Try.f6 false true false false) := by
  refine returnsInHanded_of_change (C := Try.checked) own started (by kernel_rfl) Try.func6
    (ChangeSpec.witness6 (enc := enc) (C := Try.checked) false ⟨#[], #[.slice none 0 0, .int .u32 0], []⟩ 8 (by kernel_rfl) (by kernel_rfl) (by kernel_rfl) (by kernel_rfl)) ?_
  intro W base args ds gs before hval0 hW hcnd _
  have hval : ∀ (j : Nat) t v, Try.f6.params[j]? = some t → args[j]? = some v → Value.okWide Try.prog W .any base t v := hval0
  have hW' := hW
  obtain ⟨p, q, hA0, hV, rfl, hfz, hnd⟩ := hW
  have hA : DataW.TrodAll enc Try.prog W 0 (fun _ => true) true Try.f6.params.toList args.toList ds p := hA0
  rw [Try.params6] at hA hval
  obtain ⟨v0, vs0, d0, ds0, p0, q0, hargs, rfl, rfl, h0, r0⟩ := trodAll_cons hA
  obtain ⟨v1, vs1, d1, ds1, p1, q1, rfl, rfl, rfl, h1, r1⟩ := trodAll_cons r0
  obtain ⟨rfl, rfl, rfl⟩ := trodAll_nil r1
  obtain rfl : args = #[v0, v1] := by cases args; simp_all
  obtain ⟨rfl, rfl⟩ := trodVars_none hV
  obtain ⟨a0, len0, cap0, rfl⟩ := okWide_slice Try.underlying22 (hval 0 22 v0 rfl rfl)
  have k0 := h0
  have lt0 : ∀ x ∈ p0, x.block < W.heap.size := by obtain ⟨m, hm⟩ := k0; exact DataW.trod_lt m _ _ _ hm
  obtain ⟨z0, w0⟩ : ∃ zs, IsActs W a0 len0 cap0 zs := by
    obtain ⟨fuel, hf⟩ := h0
    obtain ⟨a, l, c, ds, hcs, hds⟩ := acts_of hf
    simp [Value.cells] at hcs
    obtain ⟨rfl, rfl, rfl⟩ := hcs
    exact ⟨ds, hds⟩
  obtain ⟨a1, rfl, rfl, rfl, w1⟩ := open_int Try.underlying30 (hval 1 30 v1 rfl rfl) h1
  clear hA0 hval0
  refine (walk a0 len0 cap0 z0 a1 W w0 w1).mono fun e W' ⟨he, bel⟩ => ?_
  subst he
  exact ⟨_, rfl, _, _, _, [], _, [], hW', trodAll_mk1 (shut_bool Try.underlying4 _), (trodAll_cons_mk (Below.trod laidOut (by kernel_rfl) (of_decide_eq_true (by kernel_rfl)) k0 bel lt0) (trodAll_cons_mk (shut_int Try.underlying30 w1) trodAll_mk0)), rfl, bel.frame _, fun h => by cases h⟩

theorem over : Rows.trieNestsRow.holds Try.pinned (OpenSpec.ofChange Rows.trieNestsSpec) :=
  OpenClaim.holds_of_wide 6 Try.f6 rfl rfl rfl rfl rfl rfl rfl ⟨rfl, rfl, rfl, rfl, rfl⟩ rfl rfl rfl rfl rfl (by kernel_rfl) Try.func6 (by kernel_rfl)
    (of_decide_eq_true (by kernel_rfl)) (by unfold Func.isWrapper; first | (rw [if_pos (by decide +kernel)]; kernel_rfl) | (rw [if_neg (by decide +kernel)]; exact ⟨rfl, rfl⟩))
    (fun os started H enc _ => lifted os started H enc)

theorem proved : Rows.TrieNestsSaid := over
#print axioms proved
end Go.Proofs.Ytfhpcpanjonpeaa.trieNests
