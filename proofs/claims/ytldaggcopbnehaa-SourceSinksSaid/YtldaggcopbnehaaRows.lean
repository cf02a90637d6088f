/-
  No cell of these rows narrows 'for every input' (looked for: loops, veiled, ifaces, maps, wideKeys, modest, calm, conditions, laid).
  DERIVED. THE GIVEN ROWS OF THIS SEAT. 3 by the template 'for every input the law returns true; each argument reads behind the call as it read before'; 0 by the template 'total and deterministic' (their statements: YtldaggcopbnehaaTotals.lean).
  GIVEN WITH THE SEED: the statements are not yours to turn. If you find one false, say at which input.
  Laid BY PROGRAM, IN A SANDBOX (cutbox-rows.mjs): the forced cells as the released guide's own fill.sh prints them over the translation d61cf1374a6c745c… (all of the seat's roots in one cut). By AI agents, Wed Nov 11 2026. No macro, syntax, notation, axiom, sorry.
-/
import Derived.Test.YtldaggcopbnehaaChecked
import GoSem.Claim
import GoSem.ClaimJoined
import GoSem.ClaimMapViews
import Derived.JoinedTies
import Derived.KernelRfl
namespace Go.Proofs.Ytldaggcopbnehaa
/- THE CELL 'sum', in the pinned program and in every row, IS THE sha256 OF THE DUMP (.gsa) THAT YtldaggcopbnehaaProg.lean LOADS. Nothing in Lean hashes anything: it is a label: what it is worth is what the hold of that sum in a sandbox is worth. -/
noncomputable def Try.pinned : Pinned := { name := "ytldaggcopbnehaa", sum := "d61cf1374a6c745c86625d7d5914f9d1c6c79874a8e90a5df589807a102f6db2", checked := Try.checked }
namespace Rows
def none {H : Type} : Left H := { results := [], args := [] }

/-- 'milestonelaw15.SourcePlays': WHATEVER THE INPUT: true; the input reads as it did. -/
def sourcePlaysSpec : ChangeSpec := { name := "sourcePlays", fn := fun _ => fun
  | [d1, d2] => { results := [.lit (.bool true)], args := [d1, d2] }
  | _ => none }
def sourcePlaysRow : OpenClaim := { program := "ytldaggcopbnehaa", sum := "d61cf1374a6c745c86625d7d5914f9d1c6c79874a8e90a5df589807a102f6db2", func := "milestone/milestonelaw15.SourcePlays", spec := "sourcePlays", plainKeys := false, apart := false }
def SourcePlaysSaid : Prop := sourcePlaysRow.holds Try.pinned (OpenSpec.ofChange sourcePlaysSpec)

/-- ITS FALSE NEIGHBOUR: 'it returns false'. Refute it at one input. -/
def sourcePlaysWrong : ChangeSpec := { name := "sourcePlays", fn := fun _ => fun
  | [d1, d2] => { results := [.lit (.bool false)], args := [d1, d2] }
  | _ => none }
def SourcePlaysWrongFalsely : Prop := sourcePlaysRow.holds Try.pinned (OpenSpec.ofChange sourcePlaysWrong)

/-- 'milestonelaw15.SourceSinks': WHATEVER THE INPUT: true; the input reads as it did. -/
def sourceSinksSpec : ChangeSpec := { name := "sourceSinks", fn := fun _ => fun
  | [d1, d2] => { results := [.lit (.bool true)], args := [d1, d2] }
  | _ => none }
def sourceSinksRow : OpenClaim := { program := "ytldaggcopbnehaa", sum := "d61cf1374a6c745c86625d7d5914f9d1c6c79874a8e90a5df589807a102f6db2", func := "milestone/milestonelaw15.SourceSinks", spec := "sourceSinks", plainKeys := false, apart := false }
def SourceSinksSaid : Prop := sourceSinksRow.holds Try.pinned (OpenSpec.ofChange sourceSinksSpec)

/-- ITS FALSE NEIGHBOUR: 'it returns false'. Refute it at one input. -/
def sourceSinksWrong : ChangeSpec := { name := "sourceSinks", fn := fun _ => fun
  | [d1, d2] => { results := [.lit (.bool false)], args := [d1, d2] }
  | _ => none }
def SourceSinksWrongFalsely : Prop := sourceSinksRow.holds Try.pinned (OpenSpec.ofChange sourceSinksWrong)

/-- 'milestonelaw15.SourceOf': WHATEVER THE INPUT: true; the input reads as it did. -/
def sourceOfSpec : ChangeSpec := { name := "sourceOf", fn := fun _ => fun
  | [d] => { results := [.lit (.bool true)], args := [d] }
  | _ => none }
def sourceOfRow : OpenClaim := { program := "ytldaggcopbnehaa", sum := "d61cf1374a6c745c86625d7d5914f9d1c6c79874a8e90a5df589807a102f6db2", func := "milestone/milestonelaw15.SourceOf", spec := "sourceOf", plainKeys := false, apart := false }
def SourceOfSaid : Prop := sourceOfRow.holds Try.pinned (OpenSpec.ofChange sourceOfSpec)

/-- ITS FALSE NEIGHBOUR: 'it returns false'. Refute it at one input. -/
def sourceOfWrong : ChangeSpec := { name := "sourceOf", fn := fun _ => fun
  | [d] => { results := [.lit (.bool false)], args := [d] }
  | _ => none }
def SourceOfWrongFalsely : Prop := sourceOfRow.holds Try.pinned (OpenSpec.ofChange sourceOfWrong)

/- THE SECOND FORM. 'bulk': how many values and letters a reading holds, each counted each time it is reached (what is shared counts as often as it is met; a slice's spare places count too). A statement '..UptoSaid' is the law's where the arguments, and the package variables that the reading takes, are together of bulk at most 1048576: NARROWER than '..Said'. Prove '..Said' where nothing that the law and all that it calls make is longer than what came in: it says more and counts as full. Else prove '..UptoSaid'. A law counts once. -/
mutual
def uptoBulk {H : Type} : DataW H → Nat
  | .lit (.string bytes) => bytes.length + 1
  | .lit _ => 1
  | .nil => 1
  | .ptr d => uptoBulk d + 1
  | .slice elems spare => uptoBulkAll elems + uptoBulkAll spare + 1
  | .agg parts => uptoBulkAll parts + 1
  | .iface _ d => uptoBulk d + 1
  | .map entries => uptoBulkEntries entries + 1
  | .held _ => 1
def uptoBulkAll {H : Type} : List (DataW H) → Nat
  | [] => 0
  | d :: r => uptoBulk d + uptoBulkAll r
def uptoBulkEntries {H : Type} : List (Lit × DataW H) → Nat
  | [] => 0
  | x :: r => uptoBulkEntry x + uptoBulkEntries r
def uptoBulkEntry {H : Type} : Lit × DataW H → Nat
  | (.string bytes, d) => bytes.length + uptoBulk d + 1
  | (_, d) => uptoBulk d + 1
 end
def uptoSmall : (H : Type) → List (DataW H) → Bool := fun _ ds => decide (uptoBulkAll ds ≤ 1048576)
def OpenSpec.upto (s : _root_.Go.ChangeSpec) : _root_.Go.OpenSpec := { _root_.Go.OpenSpec.ofChange s with cond := some uptoSmall }

/-- 'milestonelaw15.SourcePlays', WHERE WHAT IT READS IS OF BULK AT MOST 1048576: true; the input reads as it did. -/
def sourcePlaysUptoRow : OpenClaim := { program := "ytldaggcopbnehaa", sum := "d61cf1374a6c745c86625d7d5914f9d1c6c79874a8e90a5df589807a102f6db2", func := "milestone/milestonelaw15.SourcePlays", spec := "sourcePlays", plainKeys := false, apart := false, narrowed := true }
def SourcePlaysUptoSaid : Prop := sourcePlaysUptoRow.holds Try.pinned (OpenSpec.upto sourcePlaysSpec)

/-- 'milestonelaw15.SourceSinks', WHERE WHAT IT READS IS OF BULK AT MOST 1048576: true; the input reads as it did. -/
def sourceSinksUptoRow : OpenClaim := { program := "ytldaggcopbnehaa", sum := "d61cf1374a6c745c86625d7d5914f9d1c6c79874a8e90a5df589807a102f6db2", func := "milestone/milestonelaw15.SourceSinks", spec := "sourceSinks", plainKeys := false, apart := false, narrowed := true }
def SourceSinksUptoSaid : Prop := sourceSinksUptoRow.holds Try.pinned (OpenSpec.upto sourceSinksSpec)

/-- 'milestonelaw15.SourceOf', WHERE WHAT IT READS IS OF BULK AT MOST 1048576: true; the input reads as it did. -/
def sourceOfUptoRow : OpenClaim := { program := "ytldaggcopbnehaa", sum := "d61cf1374a6c745c86625d7d5914f9d1c6c79874a8e90a5df589807a102f6db2", func := "milestone/milestonelaw15.SourceOf", spec := "sourceOf", plainKeys := false, apart := false, narrowed := true }
def SourceOfUptoSaid : Prop := sourceOfUptoRow.holds Try.pinned (OpenSpec.upto sourceOfSpec)

end Rows
end Go.Proofs.Ytldaggcopbnehaa
