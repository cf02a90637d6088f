/- The document's own answer: the number ahead of some bytes. -/
import Derived.Test.YtecfblkagbdjlaaRco
import Derived.Deep.RegionWith
import Derived.Deep.RegionHeld3
namespace Go.Proofs.Ytecfblkagbdjlaa.Coin
open Go.ChangeShapes Go.WideShapes Go.ChangeAt Go.RowKit
set_option maxRecDepth 4000

/-- What is told of some bytes. -/
def TakeSaid (w : World) (l : List UInt8) (e : Ending) (w' : World) : Prop := e = .returned (.tuple #[.int .u64 (got l).1, .int .i64 (got l).2.1, .int .i64 (got l).2.2]) ∧ Below w.heap.size w w'
theorem lead_step (b k : Nat) (hb : b < 256) (h1 : 1 ≤ k) (h : k < lead b) : 128 ≤ b * 2 ^ (k - 1) % 256 ∧ k < 9 ∧ b * 2 ^ (k - 1) % 256 * 2 % 256 = b * 2 ^ k % 256 := by
  have h9 := (lead_le b).2
  have h := (by decide +kernel : ∀ b : Fin 256, ∀ k : Fin 10, 1 ≤ k.val → k.val < lead b.val → 128 ≤ b.val * 2 ^ (k.val - 1) % 256 ∧ k.val < 9 ∧ b.val * 2 ^ (k.val - 1) % 256 * 2 % 256 = b.val * 2 ^ k.val % 256) ⟨b, hb⟩ ⟨k, by omega⟩ h1 h
  exact h
theorem lead_end (b : Nat) (hb : b < 256) : lead b = 9 ∨ b * 2 ^ (lead b - 1) % 256 < 128 := by
  have h := (by decide +kernel : ∀ b : Fin 256, lead b.val = 9 ∨ b.val * 2 ^ (lead b.val - 1) % 256 < 128) ⟨b, hb⟩
  exact h
theorem sub_step (i : Nat) (h1 : 1 ≤ i) (h8 : i ≤ 8) : ones (i - 1) + 128 / 2 ^ (i - 1) = ones i ∧ 0 < 128 / 2 ^ (i - 1) ∧ 128 / 2 ^ (i - 1) / 2 = 128 / 2 ^ (i + 1 - 1) ∧ 128 / 2 ^ (i - 1) ≤ 128 := by
  have h := (by decide +kernel : ∀ i : Fin 9, 1 ≤ i.val → ones (i.val - 1) + 128 / 2 ^ (i.val - 1) = ones i.val ∧ 0 < 128 / 2 ^ (i.val - 1) ∧ 128 / 2 ^ (i.val - 1) / 2 = 128 / 2 ^ (i.val + 1 - 1) ∧ 128 / 2 ^ (i.val - 1) ≤ 128) ⟨i, by omega⟩ h1
  exact h
theorem ones_mono (i j : Nat) (h : i ≤ j) : ones i ≤ ones j := by
  unfold ones
  have := Nat.pow_le_pow_right (n := 2) (by decide) (show 8 - j ≤ 8 - i by omega)
  omega

end Go.Proofs.Ytecfblkagbdjlaa.Coin
