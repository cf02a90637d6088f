/- Contracts: the bytes of a prefix that have begun; how many two have alike; numbers, one behind the other. -/
import Derived.Test.YtmkclggnbnomhaaCs
namespace Go.Proofs.Ytmkclggnbnomhaa.Chg
open Coin
open Go.ChangeShapes Go.WideShapes Go.ChangeAt Go.RowKit

theorem b8_byte (a k : Nat) : Value.int .u8 ((a : Int) / (2 ^ k : Nat) % 256) = b8 (UInt8.ofNat (a / 2 ^ k)) := by rw [b8_ofNat]; simp
/-- Bytes that have begun, in new memory of four. -/
def BegunSaid (w : World) (l : List UInt8) (e : Ending) (w' : World) : Prop := ∃ g, w.heap.size ≤ g ∧ e = .returned (.slice (some ⟨g, 0, none⟩) l.length 4) ∧ Rd w' w'.heap.size (some ⟨g, 0, none⟩) l ∧ Below w.heap.size w w'

theorem rbegun_any (a n : Nat) (ha : a < 4294967296) (hn : n ≤ 32) (w : World) :
    Calls Try.prog 26 #[.agg #[.int .u32 a, .int .u8 n]] w (BegunSaid w (begun a n)) := by
  have hl := begun_len a n hn
  have hk4 : (n + 7) / 8 ≤ 4 := by omega
  have hk : ((n : Int) + 7).tdiv 8 = (((n + 7) / 8 : Nat) : Int) := by rw [Int.tdiv_eq_ediv_of_nonneg (by omega)]; omega
  have hu := fun g W => upto_any (A := some ⟨g, 0, none⟩) 4 4 ((n + 7) / 8) (by simp) (by omega) hk4 W
  have R := Row.lit (w.alloc (.cells #[.int .u32 a, .int .u8 n] 29)) (be 4 a)
  have hb : ((be 4 a).map b8).toArray = #[.int .u8 ((a : Int) / 16777216), .int .u8 ((a : Int) / 65536 % 256), .int .u8 ((a : Int) / 256 % 256), .int .u8 ((a : Int) % 256)] := by
    rw [be4]; simp only [List.map_cons, List.map_nil, b8_ofNat]; simp; omega
  rw [hb] at R
  have hbe : (begun a n) = (be 4 a).take ((n + 7) / 8) := rfl
  rw [hbe] at hl ⊢
  have RB := Lib.hid (And.intro hl R)
  clear hl R hb hbe
  generalize (n + 7) / 8 = k at *
  have hw : wrap64 (k : Int) = k := IntWalk.wrap64_in _ ⟨by omega, by omega⟩
  go_enter Try.func26, Try.ntmps26
  go_wp2
  go_ret
  refine ⟨w.heap.size + 1, by omega, ?_, ?_, ((Below.refl _ _).alloc (Nat.le_refl _) _).alloc (by simp) _⟩
  · rw [RB.out.1]; rfl
  · have := RB.out.2.rd
    simpa using this.take k
theorem set_begun (a k : Nat) (hk : k < 4) : ((be 4 a).take k ++ List.replicate (4 - k) (0 : UInt8)).set k (UInt8.ofNat (a / 256 ^ (3 - k))) = (be 4 a).take (k + 1) ++ List.replicate (4 - (k + 1)) 0 := by
  rw [be_get 4 a k hk]
  have h1 : ((be 4 a).take k).length = k := by rw [List.length_take, length_be]; omega
  have h2 : List.replicate (4 - k) (0 : UInt8) = 0 :: List.replicate (4 - (k + 1)) 0 := by rw [show 4 - k = (4 - (k + 1)) + 1 by omega, List.replicate_succ]
  rw [h2, List.set_append_right _ _ (by omega), h1, Nat.sub_self, List.set_cons_zero, List.append_assoc]
  simp
/-- A block of an array's bytes. -/
def Arr (w : World) (g : Nat) (l : List UInt8) : Prop := w.heap[g]? = some (.cells (l.map b8).toArray 72 (0, 0))
theorem Arr.lt {w : World} {g : Nat} {l : List UInt8} (h : Arr w g l) : g < w.heap.size := (Array.getElem?_eq_some_iff.1 h).1
theorem Arr.cell {w : World} {g : Nat} {l : List UInt8} (h : Arr w g l) (j : Nat) (hj : j < l.length) : w.cell? ⟨g, j, none⟩ = some (b8 l[j]) := by
  rw [cell_of_row w g j _ 72 (0, 0) h]; simp [hj]
theorem Arr.frozen {w : World} {g : Nat} {l : List UInt8} (h : Arr w g l) (j : Nat) : w.frozen? ⟨g, j, none⟩ = false := frozen_of_row w g j _ 72 h
theorem Arr.rd {w : World} {g : Nat} {l : List UInt8} (h : Arr w g l) : Rd w w.heap.size (some ⟨g, 0, none⟩) l := fun _ =>
  ⟨_, rfl, h.lt, fun j hj => by rw [zero_add']; exact h.cell j hj⟩
theorem Arr.set {w : World} {g : Nat} {l : List UInt8} (h : Arr w g l) (j : Nat) (b : UInt8) : Arr (w.setCell ⟨g, j, none⟩ (b8 b)) g (l.set j b) := by
  unfold Arr
  rw [heap_setCell_same w g j _ 72 (b8 b) h]
  congr 2
  simp
theorem Arr.set' {w : World} {g : Nat} {l : List UInt8} (h : Arr w g l) (j x : Nat) : Arr (w.setCell ⟨g, j, none⟩ (.int .u8 ((x : Int) % 256))) g (l.set j (UInt8.ofNat x)) := by
  rw [← b8_ofNat]; exact h.set j _
theorem len72 : Try.prog.arrayLen 72 = 4 := by kernel_rfl
theorem arr_all (g : Nat) (W : World) : (Instr.sliceAt 72 (.pointer (some ⟨g, 0, none⟩)) none none none).run Try.prog W = .ok (.slice (some ⟨g, 0, none⟩) 4 4) W := by
  rw [run_sliceAt_array_all W 72 ⟨g, 0, none⟩ (by kernel_rfl), len72]; simp [go_sem, slicedAt, Addr.add]
theorem arr_upto (g k : Nat) (hk : k ≤ 4) (W : World) : (Instr.sliceAt 72 (.pointer (some ⟨g, 0, none⟩)) none (some (.int .i64 (k : Int))) none).run Try.prog W = .ok (.slice (some ⟨g, 0, none⟩) k 4) W := by
  rw [run_sliceAt_array_h W 72 ⟨g, 0, none⟩ (by kernel_rfl) .i64 (k : Int) (by omega) (by rw [len72]; omega), len72]; simp [go_sem, slicedAt, Addr.add]
theorem arr_from (g k : Nat) (hk : k ≤ 4) (W : World) : (Instr.sliceAt 72 (.pointer (some ⟨g, 0, none⟩)) (some (.int .i64 (k : Int))) none none).run Try.prog W = .ok (.slice (some ⟨g, if k = 4 then 0 else k, none⟩) (4 - k) (4 - k)) W := by
  rw [run_sliceAt_array_l W 72 ⟨g, 0, none⟩ (by kernel_rfl) .i64 (k : Int) (by omega) (by rw [len72]; omega), len72]
  by_cases h : k = 4
  · subst h; simp [go_sem, slicedAt]
  · have h' : ¬ (4 : Nat) = k := fun e => h e.symm
    by_cases h0 : k = 0
    · subst h0; simp [go_sem, slicedAt, Addr.add]
    · simp [go_sem, slicedAt, Addr.add, h, h', h0]
set_option maxRecDepth 4000 in
theorem begun_any (a n : Nat) (ha : a < 4294967296) (hn : n ≤ 32) (w : World) :
    Calls Try.prog 15 #[.agg #[.int .u32 a, .int .u8 n]] w (BegunSaid w (begun a n)) := by
  have hl := begun_len a n hn
  have hk4 : (n + 7) / 8 ≤ 4 := by omega
  have hk : ((n : Int) + 8 - 1).tdiv 8 = (((n + 7) / 8 : Nat) : Int) := by rw [Int.tdiv_eq_ediv_of_nonneg (by omega)]; omega
  have hbe : (begun a n) = (be 4 a).take ((n + 7) / 8) := rfl
  rw [hbe] at hl ⊢
  have HL := Lib.hid hl
  clear hl hbe
  generalize (n + 7) / 8 = k at *
  have hw : wrap64 (k : Int) = k := IntWalk.wrap64_in _ ⟨by omega, by omega⟩
  have hmn : min (k : Int) 4 = k := by omega
  have X0 : ((w.alloc (.cells #[.int .u32 a, .int .u8 n] 29)).alloc (.cells #[.int .u8 0, .int .u8 0, .int .u8 0, .int .u8 0] 72)).heap[w.heap.size]? = some (.cells #[.int .u32 a, .int .u8 n] 29 (0, 0)) :=
    (heap_alloc_old _ _ (Array.getElem?_eq_some_iff.1 (heap_alloc_new w (.cells #[.int .u32 a, .int .u8 n] 29))).1).trans (heap_alloc_new w _)
  have X1 : Arr ((w.alloc (.cells #[.int .u32 a, .int .u8 n] 29)).alloc (.cells #[.int .u8 0, .int .u8 0, .int .u8 0, .int .u8 0] 72)) (w.heap.size + 1) ((be 4 a).take 0 ++ List.replicate (4 - 0) 0) := by
    have := heap_alloc_new (w.alloc (.cells #[.int .u32 a, .int .u8 n] 29)) (.cells #[.int .u8 0, .int .u8 0, .int .u8 0, .int .u8 0] 72)
    have e : (w.alloc (.cells #[.int .u32 a, .int .u8 n] 29)).heap.size = w.heap.size + 1 := by simp
    rw [e] at this
    exact this
  have X2 : Below w.heap.size w ((w.alloc (.cells #[.int .u32 a, .int .u8 n] 29)).alloc (.cells #[.int .u8 0, .int .u8 0, .int .u8 0, .int .u8 0] 72)) := ((Below.refl _ _).alloc (Nat.le_refl _) _).alloc (by simp) _
  have HX := Lib.hid (And.intro X0 (And.intro X1 X2))
  clear X0 X1 X2
  go_enter Try.func15, Try.ntmps15
  go_wp2
  generalize (w.alloc (.cells #[.int .u32 a, .int .u8 n] 29)).alloc (.cells #[.int .u8 0, .int .u8 0, .int .u8 0, .int .u8 0] 72) = w1 at *
  go_loopw [6] (fun i wr => ∃ j : Nat, j ≤ 4 ∧ i = .int .i64 j ∧ Hid (wr.heap[w.heap.size]? = some (.cells #[.int .u32 a, .int .u8 n] 29 (0, 0)) ∧ Arr wr (w.heap.size + 1) ((be 4 a).take j ++ List.replicate (4 - j) 0) ∧ Below w.heap.size w wr)) (fun i _ => 4 - (intOf i).toNat)
  case atStart => exact ⟨0, by omega, rfl, HX⟩
  case round =>
    obtain ⟨j, hj, rfl, HR⟩ := hrel
    clear HX
    have r0 : wr.cell? ⟨w.heap.size, 0, none⟩ = some (.int .u32 a) := (cell_of_row wr _ 0 _ 29 (0, 0) HR.out.1).trans rfl
    have r1 : wr.cell? ⟨w.heap.size, 1, none⟩ = some (.int .u8 n) := (cell_of_row wr _ 1 _ 29 (0, 0) HR.out.1).trans rfl
    by_cases hlt : j < 4
    · obtain ⟨u, hu⟩ : ∃ u : Int, wr.cell? ⟨w.heap.size + 1, j, none⟩ = some (.int .u8 u) := ⟨_, HR.out.2.1.cell j (by rw [List.length_append, List.length_take, length_be, List.length_replicate]; omega)⟩
      have hf := HR.out.2.1.frozen j
      have A1 := HR.out.2.1.set' j (a / 256 ^ (3 - j))
      rw [set_begun a j hlt] at A1
      have N1 : ∀ v, (wr.setCell ⟨w.heap.size + 1, j, none⟩ v).heap[w.heap.size]? = some (.cells #[.int .u32 a, .int .u8 n] 29 (0, 0)) := fun v => (Below.heap_setCell wr ⟨w.heap.size + 1, j, none⟩ v w.heap.size (by simp)).trans HR.out.1
      have B1 := fun v => HR.out.2.2.setCell (p := ⟨w.heap.size + 1, j, none⟩) (by simp) v
      have e : (a / 256 ^ (3 - j) : Nat) = a / 2 ^ (8 * (3 - j)) := by rw [Nat.pow_mul]
      rw [e] at A1
      have HA := Lib.hid A1
      clear A1 e
      rcases (by omega : j = 0 ∨ j = 1 ∨ j = 2 ∨ j = 3) with rfl | rfl | rfl | rfl
      all_goals
        go_wp2
        go_roundw
        case rel =>
          refine ⟨_, ?_, rfl, ⟨N1 _, ?_, B1 _⟩⟩
          · simp
          · have := HA.out
            have e0 : (a : Int) / 16777216 % 256 = (a : Int) / 16777216 := by omega
            simp at this ⊢
            try rw [e0] at this
            exact this
        case measure => simp [intOf]
    · obtain rfl : j = 4 := by omega
      have hu := arr_upto (w.heap.size + 1) k hk4
      go_wp2
      go_ret
      have h4 : (be 4 a).take 4 ++ List.replicate (4 - 4) 0 = be 4 a := by rw [be4]; rfl
      have R := HR.out.2.1
      rw [h4] at R
      refine ⟨w.heap.size + 1, by omega, ?_, R.rd.take k, HR.out.2.2⟩
      rw [HL.out]; rfl
end Go.Proofs.Ytmkclggnbnomhaa.Chg
