/- A Purse's Bytes, and NewPurse. -/
import Derived.Test.YtcgncecjbkpmkaaPur
namespace Go.Proofs.Ytcgncecjbkpmkaa.Coin
open Go.ChangeShapes Go.WideShapes Go.ChangeAt Go.RowKit

/-- What NewPurse answers. -/
def NewSaid (w : World) (l : List UInt8) (e : Ending) (w' : World) : Prop := ∃ q, e = .returned (.pointer (some ⟨q, 0, none⟩)) ∧ Pur w' q l 0 ∧ w.heap.size ≤ q ∧ q < w'.heap.size ∧ Below w.heap.size w w'
theorem new_any (A : Option Addr) (cap : Nat) (l : List UInt8) (w : World) (hl : l.length ≤ 900000) (hr : Rd w w.heap.size A l) :
    Calls Try.prog 32 #[.slice A l.length cap] w (NewSaid w l) := by
  obtain ⟨m, hm⟩ : ∃ m, m = l.length := ⟨_, rfl⟩
  have hmk := make_any m (by omega) w
  have R0 := Row.new w m
  have B1 : Below w.heap.size w (w.alloc (.cells (madeCells #[.int .u8 0] m) 5)) := (Below.refl _ _).alloc (Nat.le_refl _) _
  have R1 : Rd (w.alloc (.cells (madeCells #[.int .u8 0] m) 5)) w.heap.size A l := hr.below B1 (Nat.le_refl _)
  obtain ⟨w1, hw1⟩ : ∃ w1, w1 = w.alloc (.cells (madeCells #[.int .u8 0] m) 5) := ⟨_, rfl⟩
  rw [← hw1] at R0 R1 B1 hmk
  rw [← hm]
  have HM := Lib.hid hm
  clear hm hw1
  go_enter Try.func32, Try.ntmps32
  go_wp2_with (first | (with_reducible refine copy_row rfl (.tmp 7) (.tmp 8) rfl w.heap.size m m cap A rfl rfl l ?c1 _ R1 R0 w.heap.size w B1 (Nat.le_refl _) ?_))
  case c1 => rw [← HM.out]; exact (Nat.min_self _).symm
  intro w2 R2 B2
  clear R0 B1 R1 hmk
  rw [← HM.out, Nat.sub_self, List.replicate_zero, List.append_nil] at R2
  rw [← HM.out]
  go_wp2
  go_ret
  have hg := R2.lt
  have B3 := B2.alloc (by have := B2.size; omega) (.cells #[.slice (some ⟨w.heap.size, 0, none⟩) m m, .int .i64 0] 101)
  refine ⟨w2.heap.size, rfl, ⟨w.heap.size, 0, m, ?_, by have := HM.out; omega, by have := HM.out; omega, hg, fun j hj => ?_⟩, by have := B2.size; omega, by simp, B3⟩
  · rw [heap_alloc_new, HM.out]; rfl
  · rw [World.cell?_of_block (w := w2) (a := ⟨w.heap.size, 0 + j, none⟩) (Below.heap_alloc w2 _ w.heap.size hg), Nat.zero_add, R2.cell j hj]

def bytesV (l : List UInt8) (f : Nat) (n : Int) : List UInt8 × List UInt8 × Nat :=
  if n < 0 ∨ f ≠ 0 then ([], l, f) else if (l.length : Int) < n then ([], l, 5) else (l.take n.toNat, l.drop n.toNat, 0)
/-- What Bytes answers. -/
def BytesSaid (w : World) (q : Nat) (t : List UInt8 × List UInt8 × Nat) (e : Ending) (w' : World) : Prop := ∃ A c, e = .returned (.slice A t.1.length c) ∧ Rd w' w'.heap.size A t.1 ∧ Pur w' q t.2.1 t.2.2 ∧ w.grownBy w' (some q)
end Go.Proofs.Ytcgncecjbkpmkaa.Coin
