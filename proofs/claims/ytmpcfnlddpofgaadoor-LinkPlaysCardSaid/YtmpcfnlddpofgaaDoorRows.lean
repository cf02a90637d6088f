/-
  NARROWER THAN 'FOR EVERY INPUT', by the rows' own cells (each row's printed sentence says how): LinkPlays: laid · LinkDies: laid · LinkLives: laid · LinkNil: laid · LinkMisses: laid.
  DERIVED. THE GIVEN ROWS OF THIS SEAT. 5 by the template 'for every input the law returns true; each argument reads behind the call as it read before'; 0 by the template 'total and deterministic' (their statements: YtmpcfnlddpofgaaDoorTotals.lean).
  GIVEN WITH THE SEED: the statements are not yours to turn. If you find one false, say at which input.
  Laid BY PROGRAM, IN A SANDBOX (cutbox-rows.mjs): the forced cells as the released guide's own fill.sh prints them over the translation dd3c48b6cf008ca7… (all of the seat's roots in one cut). By AI agents, Wed Nov 11 2026. No macro, syntax, notation, axiom, sorry.
-/
import Derived.Test.YtmpcfnlddpofgaaDoorChecked
import GoSem.Claim
import GoSem.ClaimJoined
import GoSem.ClaimMapViews
import Derived.JoinedTies
import Derived.KernelRfl
namespace Go.Proofs.YtmpcfnlddpofgaaDoor
/- THE CELL 'sum', in the pinned program and in every row, IS THE sha256 OF THE DUMP (.gsa) THAT YtmpcfnlddpofgaaDoorProg.lean LOADS. Nothing in Lean hashes anything: it is a label: what it is worth is what the hold of that sum in a sandbox is worth. -/
noncomputable def Tryd.pinned : Pinned := { name := "ytmpcfnlddpofgaadoor", sum := "dd3c48b6cf008ca775c59a0ed4d80b4935e3eb7f26ff623da75b72997dd0c190", checked := Tryd.checked }
namespace Rows
def none {H : Type} : Left H := { results := [], args := [] }

/- WHAT THE LISTED PACKAGE-LEVEL VARIABLES READ AS WHEN THE CALL BEGINS. Each datum BY PROGRAM (the guide's laid-datum.mjs) off the statement by which the dump's own 'gosem.cut.vars' lays the variable. In a bare row this is a premise. The card (YtmpcfnlddpofgaaDoorCards.lean) ties it to the program's text. -/
def laid_math_bits_deBruijn32tab {H : Type} : DataW H := .agg [.lit (.int .u8 0), .lit (.int .u8 1), .lit (.int .u8 28), .lit (.int .u8 2), .lit (.int .u8 29), .lit (.int .u8 14), .lit (.int .u8 24), .lit (.int .u8 3), .lit (.int .u8 30), .lit (.int .u8 22), .lit (.int .u8 20), .lit (.int .u8 15), .lit (.int .u8 25), .lit (.int .u8 17), .lit (.int .u8 4), .lit (.int .u8 8), .lit (.int .u8 31), .lit (.int .u8 27), .lit (.int .u8 13), .lit (.int .u8 23), .lit (.int .u8 21), .lit (.int .u8 19), .lit (.int .u8 16), .lit (.int .u8 7), .lit (.int .u8 26), .lit (.int .u8 12), .lit (.int .u8 18), .lit (.int .u8 6), .lit (.int .u8 11), .lit (.int .u8 5), .lit (.int .u8 10), .lit (.int .u8 9)]

/-- 'milestonelaw14.LinkPlays': WHATEVER THE INPUT: true; the input reads as it did. -/
def linkPlaysSpec : ChangeSpec := { name := "linkPlays", fn := fun _ => fun
  | [d1, d2] => { results := [.lit (.bool true)], args := [d1, d2] }
  | _ => none }
def linkPlaysRow : OpenClaim := { program := "ytmpcfnlddpofgaadoor", sum := "dd3c48b6cf008ca775c59a0ed4d80b4935e3eb7f26ff623da75b72997dd0c190", func := "milestone/milestonelaw14.LinkPlays", spec := "linkPlays", named := ["math/bits.deBruijn32tab"], apart := false, laid := [("math/bits.deBruijn32tab", laid_math_bits_deBruijn32tab)] }
def LinkPlaysSaid : Prop := linkPlaysRow.holds Tryd.pinned (OpenSpec.ofChange linkPlaysSpec)

/-- ITS FALSE NEIGHBOUR: 'it returns false'. Refute it at one input. -/
def linkPlaysWrong : ChangeSpec := { name := "linkPlays", fn := fun _ => fun
  | [d1, d2] => { results := [.lit (.bool false)], args := [d1, d2] }
  | _ => none }
def LinkPlaysWrongFalsely : Prop := linkPlaysRow.holds Tryd.pinned (OpenSpec.ofChange linkPlaysWrong)

/-- 'milestonelaw14.LinkDies': WHATEVER THE INPUT: true; the input reads as it did. -/
def linkDiesSpec : ChangeSpec := { name := "linkDies", fn := fun _ => fun
  | [d1, d2, d3] => { results := [.lit (.bool true)], args := [d1, d2, d3] }
  | _ => none }
def linkDiesRow : OpenClaim := { program := "ytmpcfnlddpofgaadoor", sum := "dd3c48b6cf008ca775c59a0ed4d80b4935e3eb7f26ff623da75b72997dd0c190", func := "milestone/milestonelaw14.LinkDies", spec := "linkDies", named := ["math/bits.deBruijn32tab"], apart := false, laid := [("math/bits.deBruijn32tab", laid_math_bits_deBruijn32tab)] }
def LinkDiesSaid : Prop := linkDiesRow.holds Tryd.pinned (OpenSpec.ofChange linkDiesSpec)

/-- ITS FALSE NEIGHBOUR: 'it returns false'. Refute it at one input. -/
def linkDiesWrong : ChangeSpec := { name := "linkDies", fn := fun _ => fun
  | [d1, d2, d3] => { results := [.lit (.bool false)], args := [d1, d2, d3] }
  | _ => none }
def LinkDiesWrongFalsely : Prop := linkDiesRow.holds Tryd.pinned (OpenSpec.ofChange linkDiesWrong)

/-- 'milestonelaw14.LinkLives': WHATEVER THE INPUT: true; the input reads as it did. -/
def linkLivesSpec : ChangeSpec := { name := "linkLives", fn := fun _ => fun
  | [d1, d2, d3] => { results := [.lit (.bool true)], args := [d1, d2, d3] }
  | _ => none }
def linkLivesRow : OpenClaim := { program := "ytmpcfnlddpofgaadoor", sum := "dd3c48b6cf008ca775c59a0ed4d80b4935e3eb7f26ff623da75b72997dd0c190", func := "milestone/milestonelaw14.LinkLives", spec := "linkLives", named := ["math/bits.deBruijn32tab"], apart := false, laid := [("math/bits.deBruijn32tab", laid_math_bits_deBruijn32tab)] }
def LinkLivesSaid : Prop := linkLivesRow.holds Tryd.pinned (OpenSpec.ofChange linkLivesSpec)

/-- ITS FALSE NEIGHBOUR: 'it returns false'. Refute it at one input. -/
def linkLivesWrong : ChangeSpec := { name := "linkLives", fn := fun _ => fun
  | [d1, d2, d3] => { results := [.lit (.bool false)], args := [d1, d2, d3] }
  | _ => none }
def LinkLivesWrongFalsely : Prop := linkLivesRow.holds Tryd.pinned (OpenSpec.ofChange linkLivesWrong)

/-- 'milestonelaw14.LinkNil': WHATEVER THE INPUT: true; the input reads as it did. -/
def linkNilSpec : ChangeSpec := { name := "linkNil", fn := fun _ => fun
  | [d1, d2, d3] => { results := [.lit (.bool true)], args := [d1, d2, d3] }
  | _ => none }
def linkNilRow : OpenClaim := { program := "ytmpcfnlddpofgaadoor", sum := "dd3c48b6cf008ca775c59a0ed4d80b4935e3eb7f26ff623da75b72997dd0c190", func := "milestone/milestonelaw14.LinkNil", spec := "linkNil", named := ["math/bits.deBruijn32tab"], apart := false, laid := [("math/bits.deBruijn32tab", laid_math_bits_deBruijn32tab)] }
def LinkNilSaid : Prop := linkNilRow.holds Tryd.pinned (OpenSpec.ofChange linkNilSpec)

/-- ITS FALSE NEIGHBOUR: 'it returns false'. Refute it at one input. -/
def linkNilWrong : ChangeSpec := { name := "linkNil", fn := fun _ => fun
  | [d1, d2, d3] => { results := [.lit (.bool false)], args := [d1, d2, d3] }
  | _ => none }
def LinkNilWrongFalsely : Prop := linkNilRow.holds Tryd.pinned (OpenSpec.ofChange linkNilWrong)

/-- 'milestonelaw14.LinkMisses': WHATEVER THE INPUT: true; the input reads as it did. -/
def linkMissesSpec : ChangeSpec := { name := "linkMisses", fn := fun _ => fun
  | [d] => { results := [.lit (.bool true)], args := [d] }
  | _ => none }
def linkMissesRow : OpenClaim := { program := "ytmpcfnlddpofgaadoor", sum := "dd3c48b6cf008ca775c59a0ed4d80b4935e3eb7f26ff623da75b72997dd0c190", func := "milestone/milestonelaw14.LinkMisses", spec := "linkMisses", named := ["math/bits.deBruijn32tab"], apart := false, laid := [("math/bits.deBruijn32tab", laid_math_bits_deBruijn32tab)] }
def LinkMissesSaid : Prop := linkMissesRow.holds Tryd.pinned (OpenSpec.ofChange linkMissesSpec)

/-- ITS FALSE NEIGHBOUR: 'it returns false'. Refute it at one input. -/
def linkMissesWrong : ChangeSpec := { name := "linkMisses", fn := fun _ => fun
  | [d] => { results := [.lit (.bool false)], args := [d] }
  | _ => none }
def LinkMissesWrongFalsely : Prop := linkMissesRow.holds Tryd.pinned (OpenSpec.ofChange linkMissesWrong)

/- THE SECOND FORM. 'bulk': how many values and letters a reading holds, each counted each time it is reached (what is shared counts as often as it is met; a slice's spare places count too). A statement '..UptoSaid' is the law's where the arguments, and the package variables that the reading takes, are together of bulk at most 1048576: NARROWER than '..Said'. Prove '..Said' where nothing that the law and all that it calls make is longer than what came in: it says more and counts as full. Else prove '..UptoSaid'. A law counts once. -/
mutual
def uptoBulk {H : Type} : DataW H → Nat
  | .lit (.string bytes) => bytes.length + 1
  | .lit _ => 1
  | .nil => 1
  | .ptr d => uptoBulk d + 1
  | .slice elems spare => uptoBulkAll elems + uptoBulkAll spare + 1
  | .agg parts => uptoBulkAll parts + 1
  | .iface _ d => uptoBulk d + 1
  | .map entries => uptoBulkEntries entries + 1
  | .held _ => 1
def uptoBulkAll {H : Type} : List (DataW H) → Nat
  | [] => 0
  | d :: r => uptoBulk d + uptoBulkAll r
def uptoBulkEntries {H : Type} : List (Lit × DataW H) → Nat
  | [] => 0
  | x :: r => uptoBulkEntry x + uptoBulkEntries r
def uptoBulkEntry {H : Type} : Lit × DataW H → Nat
  | (.string bytes, d) => bytes.length + uptoBulk d + 1
  | (_, d) => uptoBulk d + 1
 end
def uptoSmall : (H : Type) → List (DataW H) → Bool := fun _ ds => decide (uptoBulkAll ds ≤ 1048576)
def OpenSpec.upto (s : _root_.Go.ChangeSpec) : _root_.Go.OpenSpec := { _root_.Go.OpenSpec.ofChange s with cond := some uptoSmall }

/-- 'milestonelaw14.LinkPlays', WHERE WHAT IT READS IS OF BULK AT MOST 1048576: true; the input reads as it did. -/
def linkPlaysUptoRow : OpenClaim := { program := "ytmpcfnlddpofgaadoor", sum := "dd3c48b6cf008ca775c59a0ed4d80b4935e3eb7f26ff623da75b72997dd0c190", func := "milestone/milestonelaw14.LinkPlays", spec := "linkPlays", named := ["math/bits.deBruijn32tab"], apart := false, laid := [("math/bits.deBruijn32tab", laid_math_bits_deBruijn32tab)], narrowed := true }
def LinkPlaysUptoSaid : Prop := linkPlaysUptoRow.holds Tryd.pinned (OpenSpec.upto linkPlaysSpec)

/-- 'milestonelaw14.LinkDies', WHERE WHAT IT READS IS OF BULK AT MOST 1048576: true; the input reads as it did. -/
def linkDiesUptoRow : OpenClaim := { program := "ytmpcfnlddpofgaadoor", sum := "dd3c48b6cf008ca775c59a0ed4d80b4935e3eb7f26ff623da75b72997dd0c190", func := "milestone/milestonelaw14.LinkDies", spec := "linkDies", named := ["math/bits.deBruijn32tab"], apart := false, laid := [("math/bits.deBruijn32tab", laid_math_bits_deBruijn32tab)], narrowed := true }
def LinkDiesUptoSaid : Prop := linkDiesUptoRow.holds Tryd.pinned (OpenSpec.upto linkDiesSpec)

/-- 'milestonelaw14.LinkLives', WHERE WHAT IT READS IS OF BULK AT MOST 1048576: true; the input reads as it did. -/
def linkLivesUptoRow : OpenClaim := { program := "ytmpcfnlddpofgaadoor", sum := "dd3c48b6cf008ca775c59a0ed4d80b4935e3eb7f26ff623da75b72997dd0c190", func := "milestone/milestonelaw14.LinkLives", spec := "linkLives", named := ["math/bits.deBruijn32tab"], apart := false, laid := [("math/bits.deBruijn32tab", laid_math_bits_deBruijn32tab)], narrowed := true }
def LinkLivesUptoSaid : Prop := linkLivesUptoRow.holds Tryd.pinned (OpenSpec.upto linkLivesSpec)

/-- 'milestonelaw14.LinkNil', WHERE WHAT IT READS IS OF BULK AT MOST 1048576: true; the input reads as it did. -/
def linkNilUptoRow : OpenClaim := { program := "ytmpcfnlddpofgaadoor", sum := "dd3c48b6cf008ca775c59a0ed4d80b4935e3eb7f26ff623da75b72997dd0c190", func := "milestone/milestonelaw14.LinkNil", spec := "linkNil", named := ["math/bits.deBruijn32tab"], apart := false, laid := [("math/bits.deBruijn32tab", laid_math_bits_deBruijn32tab)], narrowed := true }
def LinkNilUptoSaid : Prop := linkNilUptoRow.holds Tryd.pinned (OpenSpec.upto linkNilSpec)

/-- 'milestonelaw14.LinkMisses', WHERE WHAT IT READS IS OF BULK AT MOST 1048576: true; the input reads as it did. -/
def linkMissesUptoRow : OpenClaim := { program := "ytmpcfnlddpofgaadoor", sum := "dd3c48b6cf008ca775c59a0ed4d80b4935e3eb7f26ff623da75b72997dd0c190", func := "milestone/milestonelaw14.LinkMisses", spec := "linkMisses", named := ["math/bits.deBruijn32tab"], apart := false, laid := [("math/bits.deBruijn32tab", laid_math_bits_deBruijn32tab)], narrowed := true }
def LinkMissesUptoSaid : Prop := linkMissesUptoRow.holds Tryd.pinned (OpenSpec.upto linkMissesSpec)

end Rows
end Go.Proofs.YtmpcfnlddpofgaaDoor
