/- What coin's texts would bring. -/
import Derived.Test.YtldaggcopbnehaaMath
import Derived.Test.YtldaggcopbnehaaPFns
import Derived.Below
import Derived.BigQuiet
import Derived.Deep.OwnRows
import Derived.Deep.QuietTactic
import Derived.Deep.RegionHeld3
import Derived.Deep.RegionWith
import Derived.Laws.AppendOwnNone
import Derived.Laws.BitsAllLaws
import Derived.Laws.CopyOwn
import Derived.Laws.DeepStrings4
import Derived.Laws.IdiomStrings
import Derived.Laws.OwnMore
import Derived.Lib.Hide
import Derived.Lib.ItoaNum
import Derived.OpenShut
import Derived.OwnWalk
import Derived.PlainAid
import Derived.ProofKit
import Derived.ShutString
import Derived.StillTailTactics
import Derived.WalkKit
import Derived.WalkLawsBesides
namespace Go.Proofs.Ytldaggcopbnehaa.Coin
open Go.ChangeShapes Go.WideShapes Go.ChangeAt Go.RowKit
theorem below_grown {w W W' : World} {q : Nat} (hb : Below w.heap.size w W) (hg : W.grownBy W' (some q)) (hq : w.heap.size ≤ q) : Below w.heap.size w W' :=
  hb.grown hg hb.size fun k h => by injection h with h; omega
theorem zero_add' (g j : Nat) : (⟨g, 0, none⟩ : Addr).add j = ⟨g, j, none⟩ := by
  unfold Addr.add; split <;> simp_all

end Go.Proofs.Ytldaggcopbnehaa.Coin
