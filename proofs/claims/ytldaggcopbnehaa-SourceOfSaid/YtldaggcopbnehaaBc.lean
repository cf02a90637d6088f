/- prefix.Compare in table's seat. -/
import Derived.Test.YtldaggcopbnehaaPg
import Derived.Deep.RegionHeld3
namespace Go.Proofs.Ytldaggcopbnehaa.Pre
open Go.ChangeShapes Go.WideShapes Go.ChangeAt Go.RowKit
set_option maxRecDepth 4000

/-- Compare's answer. -/
def cmpV (x y : Nat) : Int := if x < y then -1 else if y < x then 1 else 0
def orV (x y : Int) : Int := if x = 0 then y else x
/-- Compare's answer of two prefixes: by Addr, then Len. -/
def cmpP (p m q n : Nat) : Int := orV (cmpV p q) (cmpV m n)
end Go.Proofs.Ytldaggcopbnehaa.Pre
