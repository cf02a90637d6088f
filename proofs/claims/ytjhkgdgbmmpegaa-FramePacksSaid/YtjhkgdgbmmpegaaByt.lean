/- A Purse's Bytes, and NewPurse. -/
import Derived.Test.YtjhkgdgbmmpegaaPur
namespace Go.Proofs.Ytjhkgdgbmmpegaa.Coin
open Go.ChangeShapes Go.WideShapes Go.ChangeAt Go.RowKit


def bytesV (l : List UInt8) (f : Nat) (n : Int) : List UInt8 × List UInt8 × Nat :=
  if n < 0 ∨ f ≠ 0 then ([], l, f) else if (l.length : Int) < n then ([], l, 5) else (l.take n.toNat, l.drop n.toNat, 0)
end Go.Proofs.Ytjhkgdgbmmpegaa.Coin
