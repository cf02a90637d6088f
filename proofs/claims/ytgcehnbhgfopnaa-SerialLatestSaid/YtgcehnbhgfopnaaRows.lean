/-
  No cell of these rows narrows 'for every input' (looked for: loops, veiled, ifaces, maps, wideKeys, modest, calm, conditions, laid).
  DERIVED. THE GIVEN ROWS OF THIS SEAT. 6 by the template 'for every input the law returns true; each argument reads behind the call as it read before'; 0 by the template 'total and deterministic' (their statements: YtgcehnbhgfopnaaTotals.lean).
  GIVEN WITH THE SEED: the statements are not yours to turn. If you find one false, say at which input.
  Laid BY PROGRAM, IN A SANDBOX (cutbox-rows.mjs): the forced cells as the released guide's own fill.sh prints them over the translation 39473fa69e5500a1… (all of the seat's roots in one cut). By AI agents, Wed Nov 11 2026. No macro, syntax, notation, axiom, sorry.
-/
import Derived.Test.YtgcehnbhgfopnaaChecked
import GoSem.Claim
import GoSem.ClaimJoined
import GoSem.ClaimMapViews
import Derived.JoinedTies
import Derived.KernelRfl
namespace Go.Proofs.Ytgcehnbhgfopnaa
/- THE CELL 'sum', in the pinned program and in every row, IS THE sha256 OF THE DUMP (.gsa) THAT YtgcehnbhgfopnaaProg.lean LOADS. Nothing in Lean hashes anything: it is a label: what it is worth is what the hold of that sum in a sandbox is worth. -/
noncomputable def Try.pinned : Pinned := { name := "ytgcehnbhgfopnaa", sum := "39473fa69e5500a1f5b20b40511432942ba37cb92c1370a4edccf21c28215e56", checked := Try.checked }
namespace Rows
def none {H : Type} : Left H := { results := [], args := [] }

/-- 'milestonelaw02.SerialNewer': WHATEVER THE INPUT: true; the input reads as it did. -/
def serialNewerSpec : ChangeSpec := { name := "serialNewer", fn := fun _ => fun
  | [d1, d2, d3] => { results := [.lit (.bool true)], args := [d1, d2, d3] }
  | _ => none }
def serialNewerRow : OpenClaim := { program := "ytgcehnbhgfopnaa", sum := "39473fa69e5500a1f5b20b40511432942ba37cb92c1370a4edccf21c28215e56", func := "milestone/milestonelaw02.SerialNewer", spec := "serialNewer", apart := false }
def SerialNewerSaid : Prop := serialNewerRow.holds Try.pinned (OpenSpec.ofChange serialNewerSpec)

/-- ITS FALSE NEIGHBOUR: 'it returns false'. Refute it at one input. -/
def serialNewerWrong : ChangeSpec := { name := "serialNewer", fn := fun _ => fun
  | [d1, d2, d3] => { results := [.lit (.bool false)], args := [d1, d2, d3] }
  | _ => none }
def SerialNewerWrongFalsely : Prop := serialNewerRow.holds Try.pinned (OpenSpec.ofChange serialNewerWrong)

/-- 'milestonelaw02.SerialLatest': WHATEVER THE INPUT: true; the input reads as it did. -/
def serialLatestSpec : ChangeSpec := { name := "serialLatest", fn := fun _ => fun
  | [d1, d2] => { results := [.lit (.bool true)], args := [d1, d2] }
  | _ => none }
def serialLatestRow : OpenClaim := { program := "ytgcehnbhgfopnaa", sum := "39473fa69e5500a1f5b20b40511432942ba37cb92c1370a4edccf21c28215e56", func := "milestone/milestonelaw02.SerialLatest", spec := "serialLatest", apart := false }
def SerialLatestSaid : Prop := serialLatestRow.holds Try.pinned (OpenSpec.ofChange serialLatestSpec)

/-- ITS FALSE NEIGHBOUR: 'it returns false'. Refute it at one input. -/
def serialLatestWrong : ChangeSpec := { name := "serialLatest", fn := fun _ => fun
  | [d1, d2] => { results := [.lit (.bool false)], args := [d1, d2] }
  | _ => none }
def SerialLatestWrongFalsely : Prop := serialLatestRow.holds Try.pinned (OpenSpec.ofChange serialLatestWrong)

/-- 'milestonelaw02.SerialMarks': WHATEVER THE INPUT: true; the input reads as it did. -/
def serialMarksSpec : ChangeSpec := { name := "serialMarks", fn := fun _ => fun
  | [d1, d2, d3] => { results := [.lit (.bool true)], args := [d1, d2, d3] }
  | _ => none }
def serialMarksRow : OpenClaim := { program := "ytgcehnbhgfopnaa", sum := "39473fa69e5500a1f5b20b40511432942ba37cb92c1370a4edccf21c28215e56", func := "milestone/milestonelaw02.SerialMarks", spec := "serialMarks", apart := false }
def SerialMarksSaid : Prop := serialMarksRow.holds Try.pinned (OpenSpec.ofChange serialMarksSpec)

/-- ITS FALSE NEIGHBOUR: 'it returns false'. Refute it at one input. -/
def serialMarksWrong : ChangeSpec := { name := "serialMarks", fn := fun _ => fun
  | [d1, d2, d3] => { results := [.lit (.bool false)], args := [d1, d2, d3] }
  | _ => none }
def SerialMarksWrongFalsely : Prop := serialMarksRow.holds Try.pinned (OpenSpec.ofChange serialMarksWrong)

/-- 'milestonelaw02.SerialOrders': WHATEVER THE INPUT: true; the input reads as it did. -/
def serialOrdersSpec : ChangeSpec := { name := "serialOrders", fn := fun _ => fun
  | [d1, d2, d3, d4, d5, d6, d7] => { results := [.lit (.bool true)], args := [d1, d2, d3, d4, d5, d6, d7] }
  | _ => none }
def serialOrdersRow : OpenClaim := { program := "ytgcehnbhgfopnaa", sum := "39473fa69e5500a1f5b20b40511432942ba37cb92c1370a4edccf21c28215e56", func := "milestone/milestonelaw02.SerialOrders", spec := "serialOrders", apart := false }
def SerialOrdersSaid : Prop := serialOrdersRow.holds Try.pinned (OpenSpec.ofChange serialOrdersSpec)

/-- ITS FALSE NEIGHBOUR: 'it returns false'. Refute it at one input. -/
def serialOrdersWrong : ChangeSpec := { name := "serialOrders", fn := fun _ => fun
  | [d1, d2, d3, d4, d5, d6, d7] => { results := [.lit (.bool false)], args := [d1, d2, d3, d4, d5, d6, d7] }
  | _ => none }
def SerialOrdersWrongFalsely : Prop := serialOrdersRow.holds Try.pinned (OpenSpec.ofChange serialOrdersWrong)

/-- 'milestonelaw02.SerialSums': WHATEVER THE INPUT: true; the input reads as it did. -/
def serialSumsSpec : ChangeSpec := { name := "serialSums", fn := fun _ => fun
  | [d1, d2, d3] => { results := [.lit (.bool true)], args := [d1, d2, d3] }
  | _ => none }
def serialSumsRow : OpenClaim := { program := "ytgcehnbhgfopnaa", sum := "39473fa69e5500a1f5b20b40511432942ba37cb92c1370a4edccf21c28215e56", func := "milestone/milestonelaw02.SerialSums", spec := "serialSums", apart := false }
def SerialSumsSaid : Prop := serialSumsRow.holds Try.pinned (OpenSpec.ofChange serialSumsSpec)

/-- ITS FALSE NEIGHBOUR: 'it returns false'. Refute it at one input. -/
def serialSumsWrong : ChangeSpec := { name := "serialSums", fn := fun _ => fun
  | [d1, d2, d3] => { results := [.lit (.bool false)], args := [d1, d2, d3] }
  | _ => none }
def SerialSumsWrongFalsely : Prop := serialSumsRow.holds Try.pinned (OpenSpec.ofChange serialSumsWrong)

/-- 'milestonelaw02.SerialRounds': WHATEVER THE INPUT: true; the input reads as it did. -/
def serialRoundsSpec : ChangeSpec := { name := "serialRounds", fn := fun _ => fun
  | [d1, d2] => { results := [.lit (.bool true)], args := [d1, d2] }
  | _ => none }
def serialRoundsRow : OpenClaim := { program := "ytgcehnbhgfopnaa", sum := "39473fa69e5500a1f5b20b40511432942ba37cb92c1370a4edccf21c28215e56", func := "milestone/milestonelaw02.SerialRounds", spec := "serialRounds", apart := false }
def SerialRoundsSaid : Prop := serialRoundsRow.holds Try.pinned (OpenSpec.ofChange serialRoundsSpec)

/-- ITS FALSE NEIGHBOUR: 'it returns false'. Refute it at one input. -/
def serialRoundsWrong : ChangeSpec := { name := "serialRounds", fn := fun _ => fun
  | [d1, d2] => { results := [.lit (.bool false)], args := [d1, d2] }
  | _ => none }
def SerialRoundsWrongFalsely : Prop := serialRoundsRow.holds Try.pinned (OpenSpec.ofChange serialRoundsWrong)

/- THE SECOND FORM. 'bulk': how many values and letters a reading holds, each counted each time it is reached (what is shared counts as often as it is met; a slice's spare places count too). A statement '..UptoSaid' is the law's where the arguments, and the package variables that the reading takes, are together of bulk at most 1048576: NARROWER than '..Said'. Prove '..Said' where nothing that the law and all that it calls make is longer than what came in: it says more and counts as full. Else prove '..UptoSaid'. A law counts once. -/
mutual
def uptoBulk {H : Type} : DataW H → Nat
  | .lit (.string bytes) => bytes.length + 1
  | .lit _ => 1
  | .nil => 1
  | .ptr d => uptoBulk d + 1
  | .slice elems spare => uptoBulkAll elems + uptoBulkAll spare + 1
  | .agg parts => uptoBulkAll parts + 1
  | .iface _ d => uptoBulk d + 1
  | .map entries => uptoBulkEntries entries + 1
  | .held _ => 1
def uptoBulkAll {H : Type} : List (DataW H) → Nat
  | [] => 0
  | d :: r => uptoBulk d + uptoBulkAll r
def uptoBulkEntries {H : Type} : List (Lit × DataW H) → Nat
  | [] => 0
  | x :: r => uptoBulkEntry x + uptoBulkEntries r
def uptoBulkEntry {H : Type} : Lit × DataW H → Nat
  | (.string bytes, d) => bytes.length + uptoBulk d + 1
  | (_, d) => uptoBulk d + 1
 end
def uptoSmall : (H : Type) → List (DataW H) → Bool := fun _ ds => decide (uptoBulkAll ds ≤ 1048576)
def OpenSpec.upto (s : _root_.Go.ChangeSpec) : _root_.Go.OpenSpec := { _root_.Go.OpenSpec.ofChange s with cond := some uptoSmall }

/-- 'milestonelaw02.SerialNewer', WHERE WHAT IT READS IS OF BULK AT MOST 1048576: true; the input reads as it did. -/
def serialNewerUptoRow : OpenClaim := { program := "ytgcehnbhgfopnaa", sum := "39473fa69e5500a1f5b20b40511432942ba37cb92c1370a4edccf21c28215e56", func := "milestone/milestonelaw02.SerialNewer", spec := "serialNewer", apart := false, narrowed := true }
def SerialNewerUptoSaid : Prop := serialNewerUptoRow.holds Try.pinned (OpenSpec.upto serialNewerSpec)

/-- 'milestonelaw02.SerialLatest', WHERE WHAT IT READS IS OF BULK AT MOST 1048576: true; the input reads as it did. -/
def serialLatestUptoRow : OpenClaim := { program := "ytgcehnbhgfopnaa", sum := "39473fa69e5500a1f5b20b40511432942ba37cb92c1370a4edccf21c28215e56", func := "milestone/milestonelaw02.SerialLatest", spec := "serialLatest", apart := false, narrowed := true }
def SerialLatestUptoSaid : Prop := serialLatestUptoRow.holds Try.pinned (OpenSpec.upto serialLatestSpec)

/-- 'milestonelaw02.SerialMarks', WHERE WHAT IT READS IS OF BULK AT MOST 1048576: true; the input reads as it did. -/
def serialMarksUptoRow : OpenClaim := { program := "ytgcehnbhgfopnaa", sum := "39473fa69e5500a1f5b20b40511432942ba37cb92c1370a4edccf21c28215e56", func := "milestone/milestonelaw02.SerialMarks", spec := "serialMarks", apart := false, narrowed := true }
def SerialMarksUptoSaid : Prop := serialMarksUptoRow.holds Try.pinned (OpenSpec.upto serialMarksSpec)

/-- 'milestonelaw02.SerialOrders', WHERE WHAT IT READS IS OF BULK AT MOST 1048576: true; the input reads as it did. -/
def serialOrdersUptoRow : OpenClaim := { program := "ytgcehnbhgfopnaa", sum := "39473fa69e5500a1f5b20b40511432942ba37cb92c1370a4edccf21c28215e56", func := "milestone/milestonelaw02.SerialOrders", spec := "serialOrders", apart := false, narrowed := true }
def SerialOrdersUptoSaid : Prop := serialOrdersUptoRow.holds Try.pinned (OpenSpec.upto serialOrdersSpec)

/-- 'milestonelaw02.SerialSums', WHERE WHAT IT READS IS OF BULK AT MOST 1048576: true; the input reads as it did. -/
def serialSumsUptoRow : OpenClaim := { program := "ytgcehnbhgfopnaa", sum := "39473fa69e5500a1f5b20b40511432942ba37cb92c1370a4edccf21c28215e56", func := "milestone/milestonelaw02.SerialSums", spec := "serialSums", apart := false, narrowed := true }
def SerialSumsUptoSaid : Prop := serialSumsUptoRow.holds Try.pinned (OpenSpec.upto serialSumsSpec)

/-- 'milestonelaw02.SerialRounds', WHERE WHAT IT READS IS OF BULK AT MOST 1048576: true; the input reads as it did. -/
def serialRoundsUptoRow : OpenClaim := { program := "ytgcehnbhgfopnaa", sum := "39473fa69e5500a1f5b20b40511432942ba37cb92c1370a4edccf21c28215e56", func := "milestone/milestonelaw02.SerialRounds", spec := "serialRounds", apart := false, narrowed := true }
def SerialRoundsUptoSaid : Prop := serialRoundsUptoRow.holds Try.pinned (OpenSpec.upto serialRoundsSpec)

end Rows
end Go.Proofs.Ytgcehnbhgfopnaa
