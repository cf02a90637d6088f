/- What a Purse answers, and what becomes of it. -/
import Derived.Test.YtjhkgdgbmmpegaaGet
namespace Go.Proofs.Ytjhkgdgbmmpegaa.Coin
open Go.ChangeShapes Go.WideShapes Go.ChangeAt Go.RowKit


def endV (l : List UInt8) (f : Nat) : Nat := if f = 0 ∧ 0 < l.length then 4 else f

/-- What Take answers, what is left, and the fault. -/
def takeV (l : List UInt8) (f most : Nat) : Nat × List UInt8 × Nat :=
  if f ≠ 0 then (0, l, f) else if (got l).2.2 ≠ 0 then (0, l, (got l).2.2) else if most < (got l).1 then (0, l, 6) else ((got l).1, l.drop (got l).2.1, 0)

theorem grown_trans {a b c : World} {q : Nat} (h : a.grownBy b (some q)) (k : b.grownBy c (some q)) : a.grownBy c (some q) :=
  ⟨k.os.trans h.os, k.tape.trans h.tape, k.output.trans h.output, Nat.le_trans h.size k.size, fun i hi hne => (k.block i (Nat.lt_of_lt_of_le hi h.size) hne).trans (h.block i hi hne)⟩
theorem grown_drewN (w : World) (n : Nat) (r : Option Nat) : w.grownBy (w.drewN n) r := ⟨rfl, rfl, rfl, Nat.le_refl _, fun _ _ _ => rfl⟩
theorem grown_set (w : World) (q i : Nat) (v : Value) : w.grownBy (w.setCell ⟨q, i, none⟩ v) (some q) :=
  ⟨rfl, rfl, rfl, by simp [World.setCell], fun k _ hne => heap_setCell_other w ⟨q, i, none⟩ k v (fun e => hne (by rw [e]))⟩

end Go.Proofs.Ytjhkgdgbmmpegaa.Coin
