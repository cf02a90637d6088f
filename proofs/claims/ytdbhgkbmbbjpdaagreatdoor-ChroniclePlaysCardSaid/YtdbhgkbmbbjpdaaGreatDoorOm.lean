/- The law's bytes of a record. told, where nothing is folded. Base, Full, endedBy. -/
import Derived.Test.YtdbhgkbmbbjpdaaGreatDoorOg
namespace Go.Proofs.YtdbhgkbmbbjpdaaGreatDoor.Chr
open Go.ChangeShapes Go.WideShapes Go.ChangeAt Go.RowKit
open Shf (S str)
open Coin (Rd Row Own sz coin got Pur takeV endV CoinSaid)
open Frm (pack err size kind cnt body noItem itemV OneSaid)
set_option maxRecDepth 8000
set_option linter.unusedVariables false
open Shf (Tag Ext Rep M RdN get Fine)
def byJ (n k j : Nat) : S := (List.range k).map fun i => if i < j then UInt8.ofNat (n + i) else 0
def byL (n : Nat) : S := byJ n (n % 17) (n % 17)
theorem byJ_len (n k j : Nat) : (byJ n k j).length = k := by unfold byJ; simp
theorem byL_len (n : Nat) : (byL n).length ≤ 16 := by unfold byL; rw [byJ_len]; omega
theorem byJ_zero (n k : Nat) : byJ n k 0 = List.replicate k 0 := by
  unfold byJ
  apply List.ext_getElem <;> simp
theorem byJ_set (n k j : Nat) (hj : j < k) : (byJ n k j).set j (UInt8.ofNat (n + j)) = byJ n k (j + 1) := by
  unfold byJ
  apply List.ext_getElem
  · simp
  · intro i h1 h2
    simp only [List.length_set, List.length_map, List.length_range] at h1
    rw [List.getElem_set]
    simp only [List.getElem_map, List.getElem_range]
    by_cases h : j = i
    · subst h
      simp
    · rw [if_neg h]
      by_cases h3 : i < j
      · rw [if_pos h3, if_pos (by omega)]
      · rw [if_neg h3, if_neg (by omega)]
theorem row_set {w : World} {g j : Nat} {l : S} (h : Row w g l) (hj : j < l.length) (b : UInt8) : Row (w.setCell ⟨g, j, none⟩ (Coin.b8 b)) g (l.set j b) := by
  have e := heap_setCell_same w g j _ 5 (Coin.b8 b) h
  show _ = _
  rw [e]
  congr 2
  apply Array.ext'
  rw [Array.toList_setIfInBounds]
  simp [List.map_set]
set_option maxHeartbeats 2000000 in
theorem by_any (w : World) (n : Nat) (hn : n < 256) : Calls Tryz.prog 22 #[.int .u8 (n : Int)] w fun e w' => ∃ g k, e = .returned (.slice (some ⟨g, 0, none⟩) k k) ∧ k = (byL n).length ∧ Row w' g (byL n) ∧ w.heap.size ≤ g ∧ Below w.heap.size w w' := by
  obtain ⟨k, hk⟩ : ∃ k, k = n % 17 := ⟨_, rfl⟩
  have hk17 : k < 17 := by omega
  have hrem : (n : Int).tmod 17 = (k : Int) := by rw [hk, Int.tmod_eq_emod_of_nonneg (by omega)]; omega
  have hmk : ∀ w : World, (Instr.makeSlice 30 (.int .u8 (k : Int)) (.int .u8 (k : Int))).run Tryz.prog w = .ok (.slice (some ⟨w.heap.size, 0, none⟩) k k) (w.alloc (.cells (madeCells #[.int .u8 0] k) 5)) := fun w => run_make_row' (P := Tryz.prog) 30 5 (.int .u8 0) 1 Tryz.underlying30 Coin.info5 rfl .u8 .u8 k (by omega) (by omega) w
  have N1 : Row (w.alloc (.cells (madeCells #[.int .u8 0] k) 5)) w.heap.size (byJ n k 0) := by rw [byJ_zero]; exact Coin.Row.new w k
  have B1 : Below w.heap.size w (w.alloc (.cells (madeCells #[.int .u8 0] k) 5)) := (Below.refl _ _).alloc (Nat.le_refl _) _
  obtain ⟨g, hg⟩ : ∃ g, g = w.heap.size := ⟨_, rfl⟩
  rw [← hg] at N1
  have HS0 : Hid (Row (w.alloc (.cells (madeCells #[.int .u8 0] k) 5)) g (byJ n k 0) ∧ Below w.heap.size w (w.alloc (.cells (madeCells #[.int .u8 0] k) 5))) := ⟨N1, B1⟩
  have HK := Lib.hid (And.intro hk (And.intro hg hk17))
  clear N1 B1 hk
  go_enter Tryz.func22, Tryz.ntmps22
  go_upto_region 2 with (fail)
  rw [← hg]
  clear hg hmk hrem
  go_wp2
  go_loopw [4] (fun i wr => ∃ j : Nat, i = .int .i64 (j : Int) ∧ j ≤ k ∧ Hid (Row wr g (byJ n k j) ∧ Below w.heap.size w wr)) (fun i _ => k - (intOf i).toNat)
  case atStart => exact ⟨0, rfl, Nat.zero_le _, HS0⟩
  case round =>
    clear HS0
    obtain ⟨j, rfl, hjk, HJ⟩ := hrel
    by_cases hj : j < k
    · have hj' : (j : Int) < k := by omega
      have hw1 : IntKind.i64.wrap ((j : Int) + 1) = ((j + 1 : Nat) : Int) := by rw [IntKind.wrap_i64]; omega
      have hc1 : IntKind.u8.wrap (j : Int) = (j : Int) := by rw [IntKind.wrap_u8]; omega
      have hc2 : IntKind.u8.wrap ((n : Int) + (j : Int)) = ((n + j) % 256 : Nat) := by rw [IntKind.wrap_u8]; omega
      have hl : j < (byJ n k j).length := by rw [byJ_len]; exact hj
      obtain ⟨u0, y0⟩ : ∃ u, wr.cell? ⟨g, j, none⟩ = some u := ⟨Coin.b8 (byJ n k j)[j], by
        rw [cell_of_row wr g j _ 5 (0, 0) HJ.out.1, List.getElem?_toArray, List.getElem?_map, List.getElem?_eq_getElem hl]
        rfl⟩
      have yf : wr.frozen? ⟨g, j, none⟩ = false := frozen_of_row wr g j _ 5 HJ.out.1
      have R2 := row_set HJ.out.1 hl (UInt8.ofNat (n + j))
      rw [byJ_set n k j hj] at R2
      have eb : Coin.b8 (UInt8.ofNat (n + j)) = .int .u8 (((n + j) % 256 : Nat) : Int) := by unfold Coin.b8; simp
      rw [eb] at R2
      have G := Shf.grown_set wr g j (.int .u8 (((n + j) % 256 : Nat) : Int))
      have HJ2 : Hid (Row (wr.setCell ⟨g, j, none⟩ (.int .u8 (((n + j) % 256 : Nat) : Int))) g (byJ n k (j + 1)) ∧ Below w.heap.size w (wr.setCell ⟨g, j, none⟩ (.int .u8 (((n + j) % 256 : Nat) : Int)))) := ⟨R2, Coin.below_grown HJ.out.2 G (by rw [HK.out.2.1]; exact Nat.le_refl _)⟩
      have HJK := Lib.hid hj
      clear hl R2 eb G hj hjk
      go_wp2
      go_roundw
      case rel => exact ⟨j + 1, rfl, HJK.out, HJ2⟩
      case measure => have := HJK.out; simp [intOf]; omega
    · have hj' : ¬ (j : Int) < k := by omega
      have hjk' : j = k := by omega
      have HF : Hid (Row wr g (byL n) ∧ k = (byL n).length) := ⟨by
        have h := HJ.out.1
        rw [hjk'] at h
        show Row wr g (byJ n (n % 17) (n % 17))
        rw [← HK.out.1]
        exact h, by unfold byL; rw [byJ_len, HK.out.1]⟩
      clear hjk' hj hjk
      go_wp2
      go_ret
      exact ⟨g, k, rfl, HF.out.2, HF.out.1, by rw [HK.out.2.1]; exact Nat.le_refl _, HJ.out.2⟩
set_option linter.unusedVariables false
open Shf (Tag Ext Rep M RdN get Fine)
variable {lo : Nat}
theorem cells3 {w : World} {g : Nat} {t : TypeId} {x0 x1 x2 : Value} (h : w.heap[g]? = some (.cells #[x0, x1, x2] t)) : w.cell? ⟨g, 0, none⟩ = some x0 ∧ w.cell? ⟨g, 1, none⟩ = some x1 ∧ w.cell? ⟨g, 2, none⟩ = some x2 ∧ ∀ i, w.frozen? ⟨g, i, none⟩ = false :=
  ⟨cell_of_row w g 0 _ t (0, 0) h, cell_of_row w g 1 _ t (0, 0) h, cell_of_row w g 2 _ t (0, 0) h, fun i => frozen_of_row w g i _ t h⟩
theorem head_c (w : World) (T : Nat → Tag) (p q : Nat) (c : CD) (h : CAt lo w T p q c) : Calls Tryz.prog 20 #[.pointer (some ⟨p, 0, none⟩)] w fun e w' => e = .returned (.agg #[.int .u64 (c.hF : Int), .int .u64 (c.hB : Int), .int .u64 (c.hU : Int)]) ∧ Below w.heap.size w w' := by
  obtain ⟨bA, bc, vv, gv, h⟩ := h
  have B0 : Below w.heap.size w (w.alloc (.cells #[.int .u64 0, .int .u64 0, .int .u64 0] 45)) := (Below.refl _ _).alloc (Nat.le_refl _) _
  have hr := (B0.block p (Array.getElem?_eq_some_iff.1 h.row).1).trans h.row
  unfold cC at hr
  obtain ⟨p0, p1, p2, p3, p4, p5, p6, p7, -⟩ := row8 hr
  have N1 := heap_alloc_new w (.cells #[.int .u64 (c.hF : Int), .int .u64 (c.hB : Int), .int .u64 (c.hU : Int)] 45)
  have B1 : Below w.heap.size w (w.alloc (.cells #[.int .u64 (c.hF : Int), .int .u64 (c.hB : Int), .int .u64 (c.hU : Int)] 45)) := (Below.refl _ _).alloc (Nat.le_refl _) _
  clear hr h B0
  go_enter Tryz.func20, Tryz.ntmps20
  go_wp2
  (try simp only [Exit.inBlock, Exit.then])
  refine bodyPost_ret (results_cell_row rfl _ _ w.heap.size 45 _ (0, 0) _ rfl N1 Tryz.underlying45 rfl (by kernel_rfl)) rfl ?_
  exact ⟨rfl, B1⟩
theorem base_c0 (w : World) (T : Nat → Tag) (p q : Nat) (c : CD) (h : CAt lo w T p q c) (hB : c.hB = 0) : Calls Tryz.prog 36 #[.pointer (some ⟨p, 0, none⟩)] w fun e w' => e = .returned (.tuple #[.slice none 0 0, .int .i64 2]) ∧ w = w' := by
  obtain ⟨bA, bc, vv, gv, h⟩ := h
  have hr := h.row
  unfold cC at hr
  rw [hB] at hr
  obtain ⟨p0, p1, p2, p3, p4, p5, p6, p7, -⟩ := row8 hr
  clear hr h
  go_enter Tryz.func36, Tryz.ntmps36
  go_wp2
  go_ret2
  exact ⟨rfl, rfl⟩
structure Has (c : CD) (l : S) : Prop where
  hU : c.hU = 0
  hB : c.hB = 0
  next : c.next = l.length + 1
  recs : c.recs.map (fun x => (x.k.toNat, x.p)) = l.map fun b => (107 + b.toNat % 3, byL b.toNat)
  len : l.length ≤ 900
set_option linter.unusedVariables false
open Shf (Tag Ext Rep M RdN get Fine)
theorem full_c (w : World) (T : Nat → Tag) (p q : Nat) (c : CD) (h : CAt lo w T p q c) : Calls Tryz.prog 14 #[.pointer (some ⟨p, 0, none⟩)] w fun e w' => e = .returned (.bool c.full) ∧ w = w' := by
  obtain ⟨bA, bc, vv, gv, h⟩ := h
  have hr := h.row
  unfold cC at hr
  obtain ⟨p0, p1, p2, p3, p4, p5, p6, p7, -⟩ := row8 hr
  clear hr h
  go_enter Tryz.func14, Tryz.ntmps14
  go_wp2
  go_ret
  exact ⟨rfl, rfl⟩
end Go.Proofs.YtdbhgkbmbbjpdaaGreatDoor.Chr
