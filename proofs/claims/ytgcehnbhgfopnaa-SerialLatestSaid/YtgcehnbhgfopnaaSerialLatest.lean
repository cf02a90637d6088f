/-
  'For every input the Go function milestonelaw02.SerialLatest returns true, and each argument reads behind the call as it read before.'
  Conditions: none but the row's own (linux/amd64, sizes of what is read within the address space).
-/
import Derived.Test.YtgcehnbhgfopnaaRows
import Derived.WalkKit
import Derived.ProofKit
import Derived.OpenShut
import Derived.ShutString
import Derived.ChangeOld
import Derived.Below
import Derived.Lib.SmallJoins
import Derived.Lib.Hide
import Derived.Test.YtgcehnbhgfopnaaLat
import Derived.OwnWalk
import Derived.Maps.AppendAt
import Derived.Lib.QuietBelow
import Derived.Handy
namespace Go.Proofs.Ytgcehnbhgfopnaa.serialLatest
open Ser
open Go.Sort
open Go.ChangeShapes Go.WideShapes Go.ChangeAt Go.RowKit
open Go.ChangeMaps (open_string shut_string)
set_option linter.unusedVariables false

theorem own : ownKnob Try.prog.godebug = none := by kernel_rfl
theorem laidOut : laidOutB Try.prog = true := by kernel_rfl

/-- What the walk is told of a slice of integers that came in. -/
def IsRow (k : IntKind) (w : World) (a : Option Addr) (len cap : Nat) (zs : List Int) : Prop :=
  (a = none ∧ len = 0 ∧ cap = 0 ∧ zs = []) ∨
  ∃ x, a = some x ∧ len ≤ cap ∧ cap ≤ maxLen ∧ zs.length = cap ∧ (∀ i, i < zs.length → w.cell? (x.add i) = some (.int k (zs.getD i 0))) ∧ ∀ n ∈ zs, (Lit.int k n).wf = true

theorem bdz {zs : List Int} (h : ∀ n ∈ zs, (Lit.int .u16 n).wf = true) (j : Nat) : 0 ≤ zs.getD j 0 ∧ zs.getD j 0 ≤ 65535 := by
  rcases Nat.lt_or_ge j zs.length with hj | hj
  · have e : zs.getD j 0 = zs[j] := by simp [List.getD, hj]
    rw [e]; exact bounds_u16 (h _ (List.getElem_mem hj))
  · have e : zs.getD j 0 = 0 := by simp [List.getD, hj]
    rw [e]; omega
/-- The serials that the statement hands in: k of them. -/
def els (f : Int) (zs : List Int) (k : Nat) : List Value := (List.range k).map fun j => Value.int .u16 (IntKind.u16.wrap (f + zs.getD j 0 % 32000))
theorem add_at (b o j : Nat) : (⟨b, o, none⟩ : Addr).add j = ⟨b, o + j, none⟩ := by
  unfold Addr.add; split <;> simp_all
theorem bstepL {w W w1 : World} (h : Below w.heap.size w W) (hb : Below w.heap.size W w1) : Below w.heap.size w w1 := h.trans hb
theorem els_succ (f : Int) (zs : List Int) (k : Nat) : els f zs (k + 1) = els f zs k ++ [Value.int .u16 (IntKind.u16.wrap (f + zs.getD k 0 % 32000))] := by
  simp [els, List.range_succ]
theorem els_at (f : Int) (zs : List Int) (k j : Nat) (h : j < k) : (els f zs k)[j]? = some (Value.int .u16 (IntKind.u16.wrap (f + zs.getD j 0 % 32000))) := by
  simp [els, h]

set_option maxHeartbeats 2000000 in
theorem walk (a0 : Int) (a1 : Option Addr) (len1 cap1 : Nat) (z1 : List Int) (w : World) (w0 : (Lit.int .u16 a0).wf = true) (w1 : IsRow .u16 w a1 len1 cap1 z1) :
    Calls Try.prog 4 #[.int .u16 a0, .slice a1 len1 cap1] w fun e w' => e = .returned (.bool true) ∧ Below w.heap.size w w' := by
  have b0 := bounds_u16 w0
  rcases w1 with ⟨rfl, rfl, rfl, rfl⟩ | ⟨x, rfl, hl, hm, hz, hcell, hwz⟩
  · go_enter Try.func4, Try.ntmps4
    go_wp2_with (go_at_call 9; refine (awake_any _).mono ?_; rintro e w' ⟨rfl, rfl⟩)
    refine wp_loop_rounds 1 ?_
    rw [rounds_succ]
    go_wp2_with (first | (go_at_call 9; refine (awake_any _).mono ?_; rintro e w' ⟨rfl, rfl⟩) | (go_at_call 13; refine (latest_nil _).mono ?_; rintro e w' ⟨rfl, rfl⟩))
    go_ret
    exact ⟨rfl, Below.refl _ _⟩
  · by_cases h50 : 50 < len1
    · have h50' : (50 : Int) < (len1 : Int) := by omega
      clear hcell hwz
      unfold maxLen at hm
      go_enter Try.func4, Try.ntmps4
      go_wp2_with (go_at_call 9; refine (awake_any _).mono ?_; rintro e w' ⟨rfl, rfl⟩)
      go_ret
      exact ⟨rfl, Below.refl _ _⟩
    · by_cases h0 : len1 = 0
      · subst h0
        clear hcell hwz
        unfold maxLen at hm
        go_enter Try.func4, Try.ntmps4
        go_wp2_with (go_at_call 9; refine (awake_any _).mono ?_; rintro e w' ⟨rfl, rfl⟩)
        refine wp_loop_rounds 1 ?_
        rw [rounds_succ]
        go_wp2_with (first | (go_at_call 9; refine (awake_any _).mono ?_; rintro e w' ⟨rfl, rfl⟩) | (go_at_call 13; refine (latest_nil _).mono ?_; rintro e w' ⟨rfl, rfl⟩))
        go_ret
        exact ⟨rfl, Below.refl _ _⟩
      · obtain ⟨b, off, spot⟩ := x
        have hspot : spot = none := by simpa [Addr.add] using World.cell?_spot (hcell 0 (by omega))
        subst hspot
        have hbl : b < w.heap.size := block_lt_of_cell (by simpa [Addr.add] using hcell 0 (by omega) : w.cell? ⟨b, off + 0, none⟩ = some (.int .u16 (z1.getD 0 0)))
        have hcl : ∀ j, j < cap1 → w.cell? ⟨b, off + j, none⟩ = some (.int .u16 (z1.getD j 0)) := fun j hj => by
          have := hcell j (by omega); rwa [add_at] at this
        have hbz := bdz hwz
        obtain ⟨i0, hi, hz0, hz1, hz2⟩ := info_parts (P := Try.prog) (e := 22) (z := .int .u16 0) (size := 1) (bytes := 2) (by kernel_rfl)
        have HC := Lib.hid hcl
        have HW := Lib.hid hbz
        have hne : ((len1 : Int) == 0) = false := by simp; omega
        unfold maxLen at hm
        clear hcell hcl hwz hbz w0 hz
        have hnn : ¬ (50 : Int) < (len1 : Int) := by omega
        have hnb : decide ((50 : Int) < (len1 : Int)) = false := by simpa using hnn
        clear hnn
        go_enter Try.func4, Try.ntmps4
        go_wp2_with (go_at_call 9; refine (awake_any _).mono ?_; rintro e w' ⟨rfl, rfl⟩)
        go_loopw [5, 6, 7] (fun v s i wr => ∃ k : Nat, k ≤ len1 ∧ i = .int .i64 k ∧ wr.ownsRow w.heap.size 22 1 v k (els a0 z1 k) ∧ s = .int .u16 (mxd (fun j => z1.getD j 0 % 32000) k) ∧ Below w.heap.size w wr) (fun _ _ i _ => len1 - (intOf i).toNat)
        case atStart => exact ⟨0, by omega, rfl, World.ownsRow_nil _ _ _ _, rfl, Below.refl _ _⟩
        case round =>
          obtain ⟨k, hk, rfl, hown, rfl, hbel⟩ := hrel
          have hsz := hbel.size
          have hmb := mxd_bd (fun j => z1.getD j 0 % 32000) k fun j _ => by show 0 ≤ z1.getD j 0 % 32000 ∧ z1.getD j 0 % 32000 < 32000; have := HW.out j; omega
          by_cases hlt : k < len1
          · have hc := (hbel.cell (p := ⟨b, off + k, none⟩) hbl).trans (HC.out k (by omega))
            have hzk := HW.out k
            have hs : mxd (fun j => z1.getD j 0 % 32000) (k + 1) = max (mxd (fun j => z1.getD j 0 % 32000) k) (z1.getD k 0 % 32000) := rfl
            have hself : z1.getD k 0 = z1.getD k 0 := rfl
            generalize hzz : z1.getD k 0 = zk at *
            have HZ := Lib.hid hzz
            have HS := Lib.hid hs
            clear hs hself hzz
            generalize mxd (fun j => z1.getD j 0 % 32000) k = Mx at *
            by_cases hgt : Mx < zk % 32000
            · go_wp2_with (at_builtin; refine wpList_append_own _ rfl _ _ 27 rfl w.heap.size 22 i0 (.int .u16 0) 1 2 Try.underlying27 hi hz0 hz1 hz2 rfl (by decide) _ _ _ rfl (hown.alloc _) ⟨wr.heap.size, 0, none⟩ 1 1 [.int .u16 (IntKind.u16.wrap (a0 + zk % 32000))] rfl rfl (Go.cell_one_new _ _ _) (fun x hx => by simp at hx; subst hx; rfl) (by unfold maxLen; omega) (by omega) (by simp; omega) ?_; intro v3 w3 hown3 hgrow3 hnil3)
              go_roundw
              case rel => exact ⟨k + 1, by omega, by go_num, by rw [els_succ, HZ.out]; exact hown3, by rw [HS.out, show max Mx (zk % 32000) = zk % 32000 by omega], bstepL hbel (((Below.refl _ wr).alloc hsz _).grown hgrow3 (by simp; omega) (fun j hj => (hown.lt j hj).1))⟩
              case measure => simp [intOf]; omega

            · go_wp2_with (at_builtin; refine wpList_append_own _ rfl _ _ 27 rfl w.heap.size 22 i0 (.int .u16 0) 1 2 Try.underlying27 hi hz0 hz1 hz2 rfl (by decide) _ _ _ rfl (hown.alloc _) ⟨wr.heap.size, 0, none⟩ 1 1 [.int .u16 (IntKind.u16.wrap (a0 + zk % 32000))] rfl rfl (Go.cell_one_new _ _ _) (fun x hx => by simp at hx; subst hx; rfl) (by unfold maxLen; omega) (by omega) (by simp; omega) ?_; intro v3 w3 hown3 hgrow3 hnil3)
              go_roundw
              case rel => exact ⟨k + 1, by omega, by go_num, by rw [els_succ, HZ.out]; exact hown3, by rw [HS.out, show max Mx (zk % 32000) = Mx by omega], bstepL hbel (((Below.refl _ wr).alloc hsz _).grown hgrow3 (by simp; omega) (fun j hj => (hown.lt j hj).1))⟩
              case measure => simp [intOf]; omega

          · obtain rfl : k = len1 := by omega
            obtain ⟨g, cap, hv⟩ := Joins.ownsRow_form hown (by omega)
            subst hv
            have hcells := hown.cells (g := g) rfl
            have hcap : k ≤ cap ∧ cap ≤ maxLen := by
              rcases hown.2 with ⟨h, _⟩ | ⟨g', cap', cur, h, _, _, h1, h2, _⟩
              · cases h
              · cases h; exact ⟨h1, h2⟩
            have hlat := latest_any a0 (fun j => z1.getD j 0 % 32000) k cap g (by omega) hcap.1 hcap.2 (fun j _ => by show 0 ≤ z1.getD j 0 % 32000 ∧ z1.getD j 0 % 32000 < 32000; have := HW.out j; omega) wr (fun j hj => by
              have := hcells j _ (els_at a0 z1 k j hj)
              rw [add_at, Nat.zero_add] at this; exact this)
            generalize mxd (fun j => z1.getD j 0 % 32000) k = Mx at *
            have HL := Lib.hid hlat
            clear hlat hcells hcap hown
            go_wp2_with (go_at_call 13; refine HL.out.mono ?_; rintro e w' ⟨rfl, rfl⟩)
            go_ret
            exact ⟨rfl, hbel⟩

set_option maxRecDepth 100000 in
theorem lifted (os : Os) (started : os.Started) (H : Type) (enc : TypeId × Value → H) :
    ReturnsInHanded {} Try.checked os 4 .any (Rows.serialLatestSpec.pre6 enc Try.prog Try.f4 Rows.serialLatestRow.domain false) (Rows.serialLatestSpec.post enc Try.prog Try.f4 false true false false) := by
  refine returnsInHanded_of_change (C := Try.checked) own started (by kernel_rfl) Try.func4
    (ChangeSpec.witness6 (enc := enc) (C := Try.checked) false ⟨#[], #[.int .u16 0, .slice none 0 0], []⟩ 8 (by kernel_rfl) (by kernel_rfl) (by kernel_rfl) (by kernel_rfl)) ?_
  intro W base args ds gs before hval0 hW hcnd _
  have hval : ∀ (j : Nat) t v, Try.f4.params[j]? = some t → args[j]? = some v → Value.okWide Try.prog W .any base t v := hval0
  have hW' := hW
  obtain ⟨p, q, hA0, hV, rfl, hfz, hnd⟩ := hW
  have hA : DataW.TrodAll enc Try.prog W 0 (fun _ => true) true Try.f4.params.toList args.toList ds p := hA0
  rw [Try.params4] at hA hval
  obtain ⟨v0, vs0, d0, ds0, p0, q0, hargs, rfl, rfl, h0, r0⟩ := trodAll_cons hA
  obtain ⟨v1, vs1, d1, ds1, p1, q1, rfl, rfl, rfl, h1, r1⟩ := trodAll_cons r0
  obtain ⟨rfl, rfl, rfl⟩ := trodAll_nil r1
  obtain rfl : args = #[v0, v1] := by cases args; simp_all
  obtain ⟨rfl, rfl⟩ := trodVars_none hV
  obtain ⟨a0, rfl, rfl, rfl, w0⟩ := open_int Try.underlying22 (hval 0 22 v0 rfl rfl) h0
  obtain ⟨a1, len1, cap1, rfl⟩ := okWide_slice Try.underlying27 (hval 1 27 v1 rfl rfl)
  have k1 := h1
  have lt1 : ∀ x ∈ p1, x.block < W.heap.size := by obtain ⟨m, hm⟩ := k1; exact DataW.trod_lt m _ _ _ hm
  obtain ⟨z1, w1⟩ : ∃ zs, IsRow .u16 W a1 len1 cap1 zs := by
    obtain ⟨fuel, hf⟩ := h1
    rcases open_ints Try.underlying27 Try.underlying22 (by kernel_rfl) hf with ⟨hcs, _⟩ | ⟨x, l, c, zs, hcs, _, hl, hm, hz, _, hcell, hwz⟩
    · simp [Value.cells] at hcs
      obtain ⟨rfl, rfl, rfl⟩ := hcs
      exact ⟨[], .inl ⟨rfl, rfl, rfl, rfl⟩⟩
    · simp [Value.cells] at hcs
      obtain ⟨rfl, rfl, rfl⟩ := hcs
      exact ⟨zs, .inr ⟨_, rfl, hl, hm, by simpa using hz, hcell, hwz⟩⟩
  clear hA0 hval0
  refine (walk a0 a1 len1 cap1 z1 W w0 w1).mono fun e W' ⟨he, bel⟩ => ?_
  subst he
  exact ⟨_, rfl, _, _, _, [], _, [], hW', trodAll_mk1 (shut_bool Try.underlying4 _), (trodAll_cons_mk (shut_int Try.underlying22 w0) (trodAll_cons_mk (Below.trod laidOut (by kernel_rfl) (of_decide_eq_true (by kernel_rfl)) k1 bel lt1) trodAll_mk0)), rfl, bel.frame _, fun h => by cases h⟩

theorem over : Rows.serialLatestRow.holds Try.pinned (OpenSpec.ofChange Rows.serialLatestSpec) :=
  OpenClaim.holds_of_wide 4 Try.f4 rfl rfl rfl rfl rfl rfl rfl ⟨rfl, rfl, rfl, rfl, rfl⟩ rfl rfl rfl rfl rfl (by kernel_rfl) Try.func4 (by kernel_rfl)
    (of_decide_eq_true (by kernel_rfl)) (by unfold Func.isWrapper; first | (rw [if_pos (by decide +kernel)]; kernel_rfl) | (rw [if_neg (by decide +kernel)]; exact ⟨rfl, rfl⟩))
    (fun os started H enc _ => lifted os started H enc)

theorem proved : Rows.SerialLatestSaid := over
#print axioms proved
end Go.Proofs.Ytgcehnbhgfopnaa.serialLatest
