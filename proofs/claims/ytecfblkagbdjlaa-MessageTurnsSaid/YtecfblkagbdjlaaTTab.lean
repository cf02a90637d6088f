/- What tally's lines are. -/
import Derived.Test.YtecfblkagbdjlaaRows
import Derived.Test.YtecfblkagbdjlaaTMath
import Derived.WalkKit
import Derived.ProofKit
import Derived.OpenShut
import Derived.ShutString
import Derived.WalkLawsBesides
import Derived.Lib.Hide
import Derived.Laws.BitsAllLaws
import Derived.Below
import Derived.Laws.Rows
import Derived.Deep.MidRow
import Derived.Laws.CopyOwn
import Derived.StillTailTactics
namespace Go.Proofs.Ytecfblkagbdjlaa.Tal
open Go.ChangeShapes Go.WideShapes Go.ChangeAt Go.RowKit

theorem ret_bool {a b : Bool} (h : a = b) : Ending.returned (.bool a) = .returned (.bool b) := by rw [h]
theorem ret_int {k : IntKind} {a b : Int} (h : a = b) : Ending.returned (.int k a) = .returned (.int k b) := by rw [h]

theorem lower_any (x : Nat) (hx : x < 4294967296) (w : World) : Calls Try.prog 53 #[.int .u32 x] w fun e w' => e = .returned (.int .u32 (low x : Nat)) ∧ w = w' := by
  have ha : bits .and .u32 (x : Int) 1 = ((x % 2 : Nat) : Int) := by
    have := u32_and_nat x 1 hx (by decide)
    rw [Nat.and_one_is_mod] at this
    exact this
  have hxor : bits .xor .u32 ((x : Int) / 2) 2197175160 = ((x / 2 ^^^ 2197175160 : Nat) : Int) := by
    have := u32_xor_nat (x / 2) 2197175160 (by omega) (by decide)
    exact this
  by_cases h : x % 2 = 1
  · have e : low x = x / 2 ^^^ 2197175160 := by unfold low; rw [if_pos h]
    rw [e]
    generalize x / 2 ^^^ 2197175160 = y at *
    go_enter Try.func53, Try.ntmps53
    go_wp2
    go_ret
    exact ⟨rfl, rfl⟩
  · have e : low x = x / 2 := by unfold low; rw [if_neg h]
    rw [e]
    go_enter Try.func53, Try.ntmps53
    go_wp2
    go_ret
    exact ⟨ret_int (by omega), rfl⟩
/-- A row of 256 numbers. -/
def cellsOf (f : Nat → Nat) : Array Value := ((List.range 256).map fun b => Value.int .u32 (f b : Nat)).toArray
theorem size_cellsOf (f : Nat → Nat) : (cellsOf f).size = 256 := by simp [cellsOf]
theorem get_cellsOf (f : Nat → Nat) (b : Nat) (h : b < 256) : (cellsOf f)[b]? = some (.int .u32 (f b : Nat)) := by simp [cellsOf, h]
theorem cellsOf_congr (f g : Nat → Nat) (h : ∀ b, b < 256 → f b = g b) : cellsOf f = cellsOf g := by
  unfold cellsOf
  congr 1
  apply List.map_congr_left
  intro b hb
  rw [h b (by simpa using hb)]
def upd (f : Nat → Nat) (b x : Nat) : Nat → Nat := fun j => if j = b then x else f j
theorem set_cellsOf (f : Nat → Nat) (b x : Nat) : (cellsOf f).setIfInBounds b (.int .u32 (x : Nat)) = cellsOf (upd f b x) := by
  apply Array.ext_getElem?
  intro j
  rw [Array.getElem?_setIfInBounds]
  by_cases hj : j < 256
  · rw [get_cellsOf _ _ hj, get_cellsOf _ _ hj, size_cellsOf]
    by_cases h : b = j
    · subst h; simp [upd, hj]
    · rw [if_neg h]; simp [upd, Ne.symm h]
  · rw [Array.getElem?_eq_none (by rw [size_cellsOf]; omega), Array.getElem?_eq_none (by rw [size_cellsOf]; omega), size_cellsOf]
    split
    · rw [if_neg (by omega)]
    · rfl
/-- A block that holds just these numbers. -/
def Row (w : World) (g : Nat) (f : Nat → Nat) : Prop := w.heap[g]? = some (.cells (cellsOf f) 87 (0, 0))
theorem Row.lt {w : World} {g : Nat} {f : Nat → Nat} (h : Row w g f) : g < w.heap.size := by
  rcases Nat.lt_or_ge g w.heap.size with hlt | hge
  · exact hlt
  · unfold Row at h; rw [Array.getElem?_eq_none hge] at h; cases h
theorem Row.cell {w : World} {g : Nat} {f : Nat → Nat} (h : Row w g f) (b : Nat) (hb : b < 256) : w.cell? ⟨g, b, none⟩ = some (.int .u32 (f b : Nat)) := by
  rw [cell_of_row w g b _ 87 (0, 0) h, get_cellsOf f b hb]
theorem Row.frozen {w : World} {g : Nat} {f : Nat → Nat} (h : Row w g f) (b : Nat) : w.frozen? ⟨g, b, none⟩ = false := frozen_of_row w g b _ 87 h
theorem Row.set {w : World} {g : Nat} {f : Nat → Nat} (h : Row w g f) (b x : Nat) : Row (w.setCell ⟨g, b, none⟩ (.int .u32 (x : Nat))) g (upd f b x) := by
  unfold Row at h ⊢
  rw [heap_setCell_same w g b _ 87 _ h, set_cellsOf]
theorem Row.congr {w : World} {g : Nat} {f f' : Nat → Nat} (h : Row w g f) (e : ∀ b, b < 256 → f b = f' b) : Row w g f' := by
  unfold Row at h ⊢
  rw [← cellsOf_congr f f' e]; exact h
theorem Row.below {w w' : World} {g B : Nat} {f : Nat → Nat} (h : Row w g f) (hb : Below B w w') (hg : g < B) : Row w' g f := (hb.block g hg).trans h
theorem zero33 (w : World) : (zeroValue 87).run Try.prog w = .ok (.agg (cellsOf fun _ => 0)) w := by kernel_rfl
theorem size33 : (Try.prog.info? 87).map (·.size) = some 256 := by kernel_rfl
theorem under33 : Try.prog.underlying 87 = some (.array 256 23) := by kernel_rfl
theorem one_cellsOf (f : Nat → Nat) : (cellsOf f).all (·.oneCell') = true := by
  unfold cellsOf
  apply all_oneCell_toArray
  intro v hv
  obtain ⟨b, _, rfl⟩ := List.mem_map.1 hv
  rfl
/-- A whole row is stored over another one. -/
theorem store_row {w : World} {ops : Array Oper} {rest : List Oper} {op : Oper} {a : Act} {Q : Exit → Act → World → Prop} (hgd : op.guard = none) (x y : Operand) (ho : op.op = .store 87 x y)
    (g : Nat) (f f0 : Nat → Nat) (hx : a.eval x = .pointer (some ⟨g, 0, none⟩)) (hy : a.eval y = .agg (cellsOf f)) (hg : Row w g f0) (B : Nat) (w0 : World) (hb : Below B w0 w) (hB : B ≤ g)
    (h : ∀ w', Row w' g f → Below B w0 w' → (∀ k, k ≠ g → w'.heap[k]? = w.heap[k]?) → w'.heap.size = w.heap.size → wpList Try.prog ops Q rest (a.put op.dst undef) w') : wpList Try.prog ops Q (op :: rest) a w := by
  refine wpList_store_row hgd 87 x y ho g (cellsOf f) hx hy 87 (cellsOf f0) hg (by rw [size_cellsOf]; exact size33) (by rw [size_cellsOf, size_cellsOf]) (one_cellsOf f) ?_
  refine h _ (setRow_heap w g _ _ 87 _ hg) (below_setRow hb hB _) (fun k hk => setRow_other w g k _ hk) (by simp [World.setRow])
end Go.Proofs.Ytecfblkagbdjlaa.Tal
