/- The listed table: a world that holds it. -/
import Derived.Test.YtmpcfnlddpofgaaDoorRows
import Derived.Test.YtmpcfnlddpofgaaDoorLa
import Derived.LaidLaws
import Derived.Handed
import Derived.Stop.LaidErr
import Derived.Lib.LaidTab
import Derived.ChangeVars
import Derived.JoinedOf
import Derived.OpenVars
namespace Go.Proofs.YtmpcfnlddpofgaaDoor.Lk
open Go.ChangeShapes Go.WideShapes Go.ChangeAt Go.RowKit

/-- The integers of a table, as cells. -/
def cellsOf (d : DataW Unit) : Array Value :=
  match d with
  | .agg l => (l.map fun x => match x with | .lit (.int k n) => Value.int k n | _ => undef).toArray
  | _ => #[]

/-- The settled world, the listed table laid. -/
noncomputable def laidWorld (os : Os) : World :=
  let w0 := World.holding Tryd.prog os ⟨#[], #[], []⟩
  { w0 with heap := w0.heap.modify 0 fun
      | .cells _ t frozen => .cells (cellsOf Rows.laid_math_bits_deBruijn32tab) t frozen
      | o => o }

theorem laid_met (os : Os) (args : Array Value) : laidMet Tryd.prog Rows.linkPlaysRow.laid ((laidWorld os).forCall (fun _ _ => 0) ⟨#[], args, []⟩).memory :=
  laidMet_of_run' 8 (by kernel_rfl) (by kernel_rfl)

theorem tab_of_laid {W : World} (h : laidMet Tryd.prog Rows.linkPlaysRow.laid W) : Tab W :=
  Lib.tabIs_of_head (g := 0) (t := 45) (e := 5) (n := 32) (by kernel_rfl) (by kernel_rfl) Tryd.underlying45 Tryd.underlying5 (by kernel_rfl) (by kernel_rfl) h
end Go.Proofs.YtmpcfnlddpofgaaDoor.Lk
