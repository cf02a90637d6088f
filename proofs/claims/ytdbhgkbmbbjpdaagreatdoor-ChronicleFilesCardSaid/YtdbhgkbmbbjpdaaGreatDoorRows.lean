/-
  NARROWER THAN 'FOR EVERY INPUT', by the rows' own cells (each row's printed sentence says how): ChroniclePlays: laid · ChronicleFalls: laid · ChronicleFull: laid · ChronicleFiles: laid · ChronicleErrs: laid · ChronicleTwice: laid.
  DERIVED. THE GIVEN ROWS OF THIS SEAT. 6 by the template 'for every input the law returns true; each argument reads behind the call as it read before'; 0 by the template 'total and deterministic' (their statements: YtdbhgkbmbbjpdaaGreatDoorTotals.lean).
  GIVEN WITH THE SEED: the statements are not yours to turn. If you find one false, say at which input.
  Laid BY PROGRAM, IN A SANDBOX (cutbox-rows.mjs): the forced cells as the released guide's own fill.sh prints them over the translation 39161439f20817ff… (all of the seat's roots in one cut). By AI agents, Wed Nov 11 2026. No macro, syntax, notation, axiom, sorry.
-/
import Derived.Test.YtdbhgkbmbbjpdaaGreatDoorChecked
import GoSem.Claim
import GoSem.ClaimJoined
import GoSem.ClaimMapViews
import Derived.JoinedTies
import Derived.KernelRfl
namespace Go.Proofs.YtdbhgkbmbbjpdaaGreatDoor
/- THE CELL 'sum', in the pinned program and in every row, IS THE sha256 OF THE DUMP (.gsa) THAT YtdbhgkbmbbjpdaaGreatDoorProg.lean LOADS. Nothing in Lean hashes anything: it is a label: what it is worth is what the hold of that sum in a sandbox is worth. -/
noncomputable def Tryz.pinned : Pinned := { name := "ytdbhgkbmbbjpdaagreatdoor", sum := "39161439f20817ffc3c357f8a7ba531900b9a795d0c66d737f530cb2166bea39", checked := Tryz.checked }
namespace Rows
def none {H : Type} : Left H := { results := [], args := [] }

/- WHAT THE LISTED PACKAGE-LEVEL VARIABLES READ AS WHEN THE CALL BEGINS. Each datum BY PROGRAM (the guide's laid-datum.mjs) off the statement by which the dump's own 'gosem.cut.vars' lays the variable. In a bare row this is a premise. The card (YtdbhgkbmbbjpdaaGreatDoorCards.lean) ties it to the program's text. -/
def laid_math_bits_deBruijn32tab {H : Type} : DataW H := .agg [.lit (.int .u8 0), .lit (.int .u8 1), .lit (.int .u8 28), .lit (.int .u8 2), .lit (.int .u8 29), .lit (.int .u8 14), .lit (.int .u8 24), .lit (.int .u8 3), .lit (.int .u8 30), .lit (.int .u8 22), .lit (.int .u8 20), .lit (.int .u8 15), .lit (.int .u8 25), .lit (.int .u8 17), .lit (.int .u8 4), .lit (.int .u8 8), .lit (.int .u8 31), .lit (.int .u8 27), .lit (.int .u8 13), .lit (.int .u8 23), .lit (.int .u8 21), .lit (.int .u8 19), .lit (.int .u8 16), .lit (.int .u8 7), .lit (.int .u8 26), .lit (.int .u8 12), .lit (.int .u8 18), .lit (.int .u8 6), .lit (.int .u8 11), .lit (.int .u8 5), .lit (.int .u8 10), .lit (.int .u8 9)]
def laid_math_bits_deBruijn64tab {H : Type} : DataW H := .agg [.lit (.int .u8 0), .lit (.int .u8 1), .lit (.int .u8 56), .lit (.int .u8 2), .lit (.int .u8 57), .lit (.int .u8 49), .lit (.int .u8 28), .lit (.int .u8 3), .lit (.int .u8 61), .lit (.int .u8 58), .lit (.int .u8 42), .lit (.int .u8 50), .lit (.int .u8 38), .lit (.int .u8 29), .lit (.int .u8 17), .lit (.int .u8 4), .lit (.int .u8 62), .lit (.int .u8 47), .lit (.int .u8 59), .lit (.int .u8 36), .lit (.int .u8 45), .lit (.int .u8 43), .lit (.int .u8 51), .lit (.int .u8 22), .lit (.int .u8 53), .lit (.int .u8 39), .lit (.int .u8 33), .lit (.int .u8 30), .lit (.int .u8 24), .lit (.int .u8 18), .lit (.int .u8 12), .lit (.int .u8 5), .lit (.int .u8 63), .lit (.int .u8 55), .lit (.int .u8 48), .lit (.int .u8 27), .lit (.int .u8 60), .lit (.int .u8 41), .lit (.int .u8 37), .lit (.int .u8 16), .lit (.int .u8 46), .lit (.int .u8 35), .lit (.int .u8 44), .lit (.int .u8 21), .lit (.int .u8 52), .lit (.int .u8 32), .lit (.int .u8 23), .lit (.int .u8 11), .lit (.int .u8 54), .lit (.int .u8 26), .lit (.int .u8 40), .lit (.int .u8 15), .lit (.int .u8 34), .lit (.int .u8 20), .lit (.int .u8 31), .lit (.int .u8 10), .lit (.int .u8 25), .lit (.int .u8 14), .lit (.int .u8 19), .lit (.int .u8 9), .lit (.int .u8 13), .lit (.int .u8 8), .lit (.int .u8 7), .lit (.int .u8 6)]
def laid_internal_strconv_uint64pow10 {H : Type} : DataW H := .agg [.lit (.int .u64 1), .lit (.int .u64 10), .lit (.int .u64 100), .lit (.int .u64 1000), .lit (.int .u64 10000), .lit (.int .u64 100000), .lit (.int .u64 1000000), .lit (.int .u64 10000000), .lit (.int .u64 100000000), .lit (.int .u64 1000000000), .lit (.int .u64 10000000000), .lit (.int .u64 100000000000), .lit (.int .u64 1000000000000), .lit (.int .u64 10000000000000), .lit (.int .u64 100000000000000), .lit (.int .u64 1000000000000000), .lit (.int .u64 10000000000000000), .lit (.int .u64 100000000000000000), .lit (.int .u64 1000000000000000000), .lit (.int .u64 10000000000000000000)]

/-- 'milestonelaw10.ChroniclePlays': WHATEVER THE INPUT: true; the input reads as it did. -/
def chroniclePlaysSpec : ChangeSpec := { name := "chroniclePlays", fn := fun _ => fun
  | [d1, d2] => { results := [.lit (.bool true)], args := [d1, d2] }
  | _ => none }
def chroniclePlaysRow : OpenClaim := { program := "ytdbhgkbmbbjpdaagreatdoor", sum := "39161439f20817ffc3c357f8a7ba531900b9a795d0c66d737f530cb2166bea39", func := "milestone/milestonelaw10.ChroniclePlays", spec := "chroniclePlays", inPlace := ["maps.clone"], unfollowed := true, recurses := true, named := ["internal/strconv.uint64pow10", "math/bits.deBruijn32tab", "math/bits.deBruijn64tab"], apart := false, laid := [("math/bits.deBruijn32tab", laid_math_bits_deBruijn32tab), ("math/bits.deBruijn64tab", laid_math_bits_deBruijn64tab), ("internal/strconv.uint64pow10", laid_internal_strconv_uint64pow10)] }
def ChroniclePlaysSaid : Prop := chroniclePlaysRow.holds Tryz.pinned (OpenSpec.ofChange chroniclePlaysSpec)

/-- ITS FALSE NEIGHBOUR: 'it returns false'. Refute it at one input. -/
def chroniclePlaysWrong : ChangeSpec := { name := "chroniclePlays", fn := fun _ => fun
  | [d1, d2] => { results := [.lit (.bool false)], args := [d1, d2] }
  | _ => none }
def ChroniclePlaysWrongFalsely : Prop := chroniclePlaysRow.holds Tryz.pinned (OpenSpec.ofChange chroniclePlaysWrong)

/-- 'milestonelaw10.ChronicleFalls': WHATEVER THE INPUT: true; the input reads as it did. -/
def chronicleFallsSpec : ChangeSpec := { name := "chronicleFalls", fn := fun _ => fun
  | [d1, d2, d3, d4, d5, d6] => { results := [.lit (.bool true)], args := [d1, d2, d3, d4, d5, d6] }
  | _ => none }
def chronicleFallsRow : OpenClaim := { program := "ytdbhgkbmbbjpdaagreatdoor", sum := "39161439f20817ffc3c357f8a7ba531900b9a795d0c66d737f530cb2166bea39", func := "milestone/milestonelaw10.ChronicleFalls", spec := "chronicleFalls", inPlace := ["maps.clone"], unfollowed := true, recurses := true, named := ["internal/strconv.uint64pow10", "math/bits.deBruijn32tab", "math/bits.deBruijn64tab"], apart := false, laid := [("math/bits.deBruijn32tab", laid_math_bits_deBruijn32tab), ("math/bits.deBruijn64tab", laid_math_bits_deBruijn64tab), ("internal/strconv.uint64pow10", laid_internal_strconv_uint64pow10)] }
def ChronicleFallsSaid : Prop := chronicleFallsRow.holds Tryz.pinned (OpenSpec.ofChange chronicleFallsSpec)

/-- ITS FALSE NEIGHBOUR: 'it returns false'. Refute it at one input. -/
def chronicleFallsWrong : ChangeSpec := { name := "chronicleFalls", fn := fun _ => fun
  | [d1, d2, d3, d4, d5, d6] => { results := [.lit (.bool false)], args := [d1, d2, d3, d4, d5, d6] }
  | _ => none }
def ChronicleFallsWrongFalsely : Prop := chronicleFallsRow.holds Tryz.pinned (OpenSpec.ofChange chronicleFallsWrong)

/-- 'milestonelaw10.ChronicleFull': WHATEVER THE INPUT: true; the input reads as it did. -/
def chronicleFullSpec : ChangeSpec := { name := "chronicleFull", fn := fun _ => fun
  | [d1, d2, d3] => { results := [.lit (.bool true)], args := [d1, d2, d3] }
  | _ => none }
def chronicleFullRow : OpenClaim := { program := "ytdbhgkbmbbjpdaagreatdoor", sum := "39161439f20817ffc3c357f8a7ba531900b9a795d0c66d737f530cb2166bea39", func := "milestone/milestonelaw10.ChronicleFull", spec := "chronicleFull", inPlace := ["maps.clone"], unfollowed := true, recurses := true, named := ["internal/strconv.uint64pow10", "math/bits.deBruijn32tab", "math/bits.deBruijn64tab"], apart := false, laid := [("math/bits.deBruijn32tab", laid_math_bits_deBruijn32tab), ("math/bits.deBruijn64tab", laid_math_bits_deBruijn64tab), ("internal/strconv.uint64pow10", laid_internal_strconv_uint64pow10)] }
def ChronicleFullSaid : Prop := chronicleFullRow.holds Tryz.pinned (OpenSpec.ofChange chronicleFullSpec)

/-- ITS FALSE NEIGHBOUR: 'it returns false'. Refute it at one input. -/
def chronicleFullWrong : ChangeSpec := { name := "chronicleFull", fn := fun _ => fun
  | [d1, d2, d3] => { results := [.lit (.bool false)], args := [d1, d2, d3] }
  | _ => none }
def ChronicleFullWrongFalsely : Prop := chronicleFullRow.holds Tryz.pinned (OpenSpec.ofChange chronicleFullWrong)

/-- 'milestonelaw10.ChronicleFiles': WHATEVER THE INPUT: true; the input reads as it did. -/
def chronicleFilesSpec : ChangeSpec := { name := "chronicleFiles", fn := fun _ => fun
  | [d1, d2, d3] => { results := [.lit (.bool true)], args := [d1, d2, d3] }
  | _ => none }
def chronicleFilesRow : OpenClaim := { program := "ytdbhgkbmbbjpdaagreatdoor", sum := "39161439f20817ffc3c357f8a7ba531900b9a795d0c66d737f530cb2166bea39", func := "milestone/milestonelaw10.ChronicleFiles", spec := "chronicleFiles", inPlace := ["maps.clone"], unfollowed := true, recurses := true, named := ["internal/strconv.uint64pow10", "math/bits.deBruijn32tab", "math/bits.deBruijn64tab"], apart := false, laid := [("math/bits.deBruijn32tab", laid_math_bits_deBruijn32tab), ("math/bits.deBruijn64tab", laid_math_bits_deBruijn64tab), ("internal/strconv.uint64pow10", laid_internal_strconv_uint64pow10)] }
def ChronicleFilesSaid : Prop := chronicleFilesRow.holds Tryz.pinned (OpenSpec.ofChange chronicleFilesSpec)

/-- ITS FALSE NEIGHBOUR: 'it returns false'. Refute it at one input. -/
def chronicleFilesWrong : ChangeSpec := { name := "chronicleFiles", fn := fun _ => fun
  | [d1, d2, d3] => { results := [.lit (.bool false)], args := [d1, d2, d3] }
  | _ => none }
def ChronicleFilesWrongFalsely : Prop := chronicleFilesRow.holds Tryz.pinned (OpenSpec.ofChange chronicleFilesWrong)

/-- 'milestonelaw10.ChronicleErrs': WHATEVER THE INPUT: true; the input reads as it did. -/
def chronicleErrsSpec : ChangeSpec := { name := "chronicleErrs", fn := fun _ => fun
  | [d1, d2] => { results := [.lit (.bool true)], args := [d1, d2] }
  | _ => none }
def chronicleErrsRow : OpenClaim := { program := "ytdbhgkbmbbjpdaagreatdoor", sum := "39161439f20817ffc3c357f8a7ba531900b9a795d0c66d737f530cb2166bea39", func := "milestone/milestonelaw10.ChronicleErrs", spec := "chronicleErrs", inPlace := ["maps.clone"], unfollowed := true, recurses := true, named := ["internal/strconv.uint64pow10", "math/bits.deBruijn32tab", "math/bits.deBruijn64tab"], apart := false, laid := [("math/bits.deBruijn32tab", laid_math_bits_deBruijn32tab), ("math/bits.deBruijn64tab", laid_math_bits_deBruijn64tab), ("internal/strconv.uint64pow10", laid_internal_strconv_uint64pow10)] }
def ChronicleErrsSaid : Prop := chronicleErrsRow.holds Tryz.pinned (OpenSpec.ofChange chronicleErrsSpec)

/-- ITS FALSE NEIGHBOUR: 'it returns false'. Refute it at one input. -/
def chronicleErrsWrong : ChangeSpec := { name := "chronicleErrs", fn := fun _ => fun
  | [d1, d2] => { results := [.lit (.bool false)], args := [d1, d2] }
  | _ => none }
def ChronicleErrsWrongFalsely : Prop := chronicleErrsRow.holds Tryz.pinned (OpenSpec.ofChange chronicleErrsWrong)

/-- 'milestonelaw10.ChronicleTwice': WHATEVER THE INPUT: true; the input reads as it did. -/
def chronicleTwiceSpec : ChangeSpec := { name := "chronicleTwice", fn := fun _ => fun
  | [d1, d2, d3] => { results := [.lit (.bool true)], args := [d1, d2, d3] }
  | _ => none }
def chronicleTwiceRow : OpenClaim := { program := "ytdbhgkbmbbjpdaagreatdoor", sum := "39161439f20817ffc3c357f8a7ba531900b9a795d0c66d737f530cb2166bea39", func := "milestone/milestonelaw10.ChronicleTwice", spec := "chronicleTwice", inPlace := ["maps.clone"], unfollowed := true, recurses := true, named := ["internal/strconv.uint64pow10", "math/bits.deBruijn32tab", "math/bits.deBruijn64tab"], apart := false, laid := [("math/bits.deBruijn32tab", laid_math_bits_deBruijn32tab), ("math/bits.deBruijn64tab", laid_math_bits_deBruijn64tab), ("internal/strconv.uint64pow10", laid_internal_strconv_uint64pow10)] }
def ChronicleTwiceSaid : Prop := chronicleTwiceRow.holds Tryz.pinned (OpenSpec.ofChange chronicleTwiceSpec)

/-- ITS FALSE NEIGHBOUR: 'it returns false'. Refute it at one input. -/
def chronicleTwiceWrong : ChangeSpec := { name := "chronicleTwice", fn := fun _ => fun
  | [d1, d2, d3] => { results := [.lit (.bool false)], args := [d1, d2, d3] }
  | _ => none }
def ChronicleTwiceWrongFalsely : Prop := chronicleTwiceRow.holds Tryz.pinned (OpenSpec.ofChange chronicleTwiceWrong)

/- THE SECOND FORM. 'bulk': how many values and letters a reading holds, each counted each time it is reached (what is shared counts as often as it is met; a slice's spare places count too). A statement '..UptoSaid' is the law's where the arguments, and the package variables that the reading takes, are together of bulk at most 1048576: NARROWER than '..Said'. Prove '..Said' where nothing that the law and all that it calls make is longer than what came in: it says more and counts as full. Else prove '..UptoSaid'. A law counts once. -/
mutual
def uptoBulk {H : Type} : DataW H → Nat
  | .lit (.string bytes) => bytes.length + 1
  | .lit _ => 1
  | .nil => 1
  | .ptr d => uptoBulk d + 1
  | .slice elems spare => uptoBulkAll elems + uptoBulkAll spare + 1
  | .agg parts => uptoBulkAll parts + 1
  | .iface _ d => uptoBulk d + 1
  | .map entries => uptoBulkEntries entries + 1
  | .held _ => 1
def uptoBulkAll {H : Type} : List (DataW H) → Nat
  | [] => 0
  | d :: r => uptoBulk d + uptoBulkAll r
def uptoBulkEntries {H : Type} : List (Lit × DataW H) → Nat
  | [] => 0
  | x :: r => uptoBulkEntry x + uptoBulkEntries r
def uptoBulkEntry {H : Type} : Lit × DataW H → Nat
  | (.string bytes, d) => bytes.length + uptoBulk d + 1
  | (_, d) => uptoBulk d + 1
 end
def uptoSmall : (H : Type) → List (DataW H) → Bool := fun _ ds => decide (uptoBulkAll ds ≤ 1048576)
def OpenSpec.upto (s : _root_.Go.ChangeSpec) : _root_.Go.OpenSpec := { _root_.Go.OpenSpec.ofChange s with cond := some uptoSmall }

/-- 'milestonelaw10.ChroniclePlays', WHERE WHAT IT READS IS OF BULK AT MOST 1048576: true; the input reads as it did. -/
def chroniclePlaysUptoRow : OpenClaim := { program := "ytdbhgkbmbbjpdaagreatdoor", sum := "39161439f20817ffc3c357f8a7ba531900b9a795d0c66d737f530cb2166bea39", func := "milestone/milestonelaw10.ChroniclePlays", spec := "chroniclePlays", inPlace := ["maps.clone"], unfollowed := true, recurses := true, named := ["internal/strconv.uint64pow10", "math/bits.deBruijn32tab", "math/bits.deBruijn64tab"], apart := false, laid := [("math/bits.deBruijn32tab", laid_math_bits_deBruijn32tab), ("math/bits.deBruijn64tab", laid_math_bits_deBruijn64tab), ("internal/strconv.uint64pow10", laid_internal_strconv_uint64pow10)], narrowed := true }
def ChroniclePlaysUptoSaid : Prop := chroniclePlaysUptoRow.holds Tryz.pinned (OpenSpec.upto chroniclePlaysSpec)

/-- 'milestonelaw10.ChronicleFalls', WHERE WHAT IT READS IS OF BULK AT MOST 1048576: true; the input reads as it did. -/
def chronicleFallsUptoRow : OpenClaim := { program := "ytdbhgkbmbbjpdaagreatdoor", sum := "39161439f20817ffc3c357f8a7ba531900b9a795d0c66d737f530cb2166bea39", func := "milestone/milestonelaw10.ChronicleFalls", spec := "chronicleFalls", inPlace := ["maps.clone"], unfollowed := true, recurses := true, named := ["internal/strconv.uint64pow10", "math/bits.deBruijn32tab", "math/bits.deBruijn64tab"], apart := false, laid := [("math/bits.deBruijn32tab", laid_math_bits_deBruijn32tab), ("math/bits.deBruijn64tab", laid_math_bits_deBruijn64tab), ("internal/strconv.uint64pow10", laid_internal_strconv_uint64pow10)], narrowed := true }
def ChronicleFallsUptoSaid : Prop := chronicleFallsUptoRow.holds Tryz.pinned (OpenSpec.upto chronicleFallsSpec)

/-- 'milestonelaw10.ChronicleFull', WHERE WHAT IT READS IS OF BULK AT MOST 1048576: true; the input reads as it did. -/
def chronicleFullUptoRow : OpenClaim := { program := "ytdbhgkbmbbjpdaagreatdoor", sum := "39161439f20817ffc3c357f8a7ba531900b9a795d0c66d737f530cb2166bea39", func := "milestone/milestonelaw10.ChronicleFull", spec := "chronicleFull", inPlace := ["maps.clone"], unfollowed := true, recurses := true, named := ["internal/strconv.uint64pow10", "math/bits.deBruijn32tab", "math/bits.deBruijn64tab"], apart := false, laid := [("math/bits.deBruijn32tab", laid_math_bits_deBruijn32tab), ("math/bits.deBruijn64tab", laid_math_bits_deBruijn64tab), ("internal/strconv.uint64pow10", laid_internal_strconv_uint64pow10)], narrowed := true }
def ChronicleFullUptoSaid : Prop := chronicleFullUptoRow.holds Tryz.pinned (OpenSpec.upto chronicleFullSpec)

/-- 'milestonelaw10.ChronicleFiles', WHERE WHAT IT READS IS OF BULK AT MOST 1048576: true; the input reads as it did. -/
def chronicleFilesUptoRow : OpenClaim := { program := "ytdbhgkbmbbjpdaagreatdoor", sum := "39161439f20817ffc3c357f8a7ba531900b9a795d0c66d737f530cb2166bea39", func := "milestone/milestonelaw10.ChronicleFiles", spec := "chronicleFiles", inPlace := ["maps.clone"], unfollowed := true, recurses := true, named := ["internal/strconv.uint64pow10", "math/bits.deBruijn32tab", "math/bits.deBruijn64tab"], apart := false, laid := [("math/bits.deBruijn32tab", laid_math_bits_deBruijn32tab), ("math/bits.deBruijn64tab", laid_math_bits_deBruijn64tab), ("internal/strconv.uint64pow10", laid_internal_strconv_uint64pow10)], narrowed := true }
def ChronicleFilesUptoSaid : Prop := chronicleFilesUptoRow.holds Tryz.pinned (OpenSpec.upto chronicleFilesSpec)

/-- 'milestonelaw10.ChronicleErrs', WHERE WHAT IT READS IS OF BULK AT MOST 1048576: true; the input reads as it did. -/
def chronicleErrsUptoRow : OpenClaim := { program := "ytdbhgkbmbbjpdaagreatdoor", sum := "39161439f20817ffc3c357f8a7ba531900b9a795d0c66d737f530cb2166bea39", func := "milestone/milestonelaw10.ChronicleErrs", spec := "chronicleErrs", inPlace := ["maps.clone"], unfollowed := true, recurses := true, named := ["internal/strconv.uint64pow10", "math/bits.deBruijn32tab", "math/bits.deBruijn64tab"], apart := false, laid := [("math/bits.deBruijn32tab", laid_math_bits_deBruijn32tab), ("math/bits.deBruijn64tab", laid_math_bits_deBruijn64tab), ("internal/strconv.uint64pow10", laid_internal_strconv_uint64pow10)], narrowed := true }
def ChronicleErrsUptoSaid : Prop := chronicleErrsUptoRow.holds Tryz.pinned (OpenSpec.upto chronicleErrsSpec)

/-- 'milestonelaw10.ChronicleTwice', WHERE WHAT IT READS IS OF BULK AT MOST 1048576: true; the input reads as it did. -/
def chronicleTwiceUptoRow : OpenClaim := { program := "ytdbhgkbmbbjpdaagreatdoor", sum := "39161439f20817ffc3c357f8a7ba531900b9a795d0c66d737f530cb2166bea39", func := "milestone/milestonelaw10.ChronicleTwice", spec := "chronicleTwice", inPlace := ["maps.clone"], unfollowed := true, recurses := true, named := ["internal/strconv.uint64pow10", "math/bits.deBruijn32tab", "math/bits.deBruijn64tab"], apart := false, laid := [("math/bits.deBruijn32tab", laid_math_bits_deBruijn32tab), ("math/bits.deBruijn64tab", laid_math_bits_deBruijn64tab), ("internal/strconv.uint64pow10", laid_internal_strconv_uint64pow10)], narrowed := true }
def ChronicleTwiceUptoSaid : Prop := chronicleTwiceUptoRow.holds Tryz.pinned (OpenSpec.upto chronicleTwiceSpec)

end Rows
end Go.Proofs.YtdbhgkbmbbjpdaaGreatDoor
