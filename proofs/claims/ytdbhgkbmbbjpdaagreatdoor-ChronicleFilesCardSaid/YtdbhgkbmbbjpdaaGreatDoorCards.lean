/-
  DERIVED. GIVEN WITH THE SEED: THE CARDS: each row of YtdbhgkbmbbjpdaaGreatDoorRows.lean that lists a variable, with what it lists TIED to the program's text (the seventh form; the later family's looks); each row that meets fmt, with fmt's text TOLD by the authors' own Lean function (tested against real Go, not proved from fmt's source: count such statements apart). THE CARD IS WHAT COUNTS. Prove the row's statement (the work); the ties are given (YtdbhgkbmbbjpdaaGreatDoorTie.lean); close each card by the builder's one call (the guide's Derived/Test/ToyasCard.lean, 'card_holds'). Laid BY PROGRAM, IN A SANDBOX (cutbox-door.mjs). By AI agents, Wed Nov 11 2026. No macro, syntax, notation, axiom, sorry.
-/
import Derived.Test.YtdbhgkbmbbjpdaaGreatDoorRows
import GoSem.ClaimSeven
namespace Go.Proofs.YtdbhgkbmbbjpdaaGreatDoor
namespace Rows

/-- THE TIED CARD OF 'milestonelaw10.ChroniclePlays'. -/
def chroniclePlaysCard : Claim7 := { stood := { row := chroniclePlaysRow, standIns := [], harness := (true, "6806f7b09f3ff3b71f3c884d74e2c3e37d77fda78c9033126fb8c6a2cdc43d8f"), looks := true }, kinds := [], alts := [], laidByText := true, laidKinds := [.data, .data, .data], laidTests := true, laidLooks := .later }
def ChroniclePlaysCardSaid : Prop := Claim7.holds Tryz.pinned (.plain (OpenSpec.ofChange chroniclePlaysSpec)) chroniclePlaysCard

/-- THE TIED CARD OF 'milestonelaw10.ChronicleFalls'. -/
def chronicleFallsCard : Claim7 := { stood := { row := chronicleFallsRow, standIns := [], harness := (true, "6806f7b09f3ff3b71f3c884d74e2c3e37d77fda78c9033126fb8c6a2cdc43d8f"), looks := true }, kinds := [], alts := [], laidByText := true, laidKinds := [.data, .data, .data], laidTests := true, laidLooks := .later }
def ChronicleFallsCardSaid : Prop := Claim7.holds Tryz.pinned (.plain (OpenSpec.ofChange chronicleFallsSpec)) chronicleFallsCard

/-- THE TIED CARD OF 'milestonelaw10.ChronicleFull'. -/
def chronicleFullCard : Claim7 := { stood := { row := chronicleFullRow, standIns := [], harness := (true, "6806f7b09f3ff3b71f3c884d74e2c3e37d77fda78c9033126fb8c6a2cdc43d8f"), looks := true }, kinds := [], alts := [], laidByText := true, laidKinds := [.data, .data, .data], laidTests := true, laidLooks := .later }
def ChronicleFullCardSaid : Prop := Claim7.holds Tryz.pinned (.plain (OpenSpec.ofChange chronicleFullSpec)) chronicleFullCard

/-- THE TIED CARD OF 'milestonelaw10.ChronicleFiles'. -/
def chronicleFilesCard : Claim7 := { stood := { row := chronicleFilesRow, standIns := [], harness := (true, "6806f7b09f3ff3b71f3c884d74e2c3e37d77fda78c9033126fb8c6a2cdc43d8f"), looks := true }, kinds := [], alts := [], laidByText := true, laidKinds := [.data, .data, .data], laidTests := true, laidLooks := .later }
def ChronicleFilesCardSaid : Prop := Claim7.holds Tryz.pinned (.plain (OpenSpec.ofChange chronicleFilesSpec)) chronicleFilesCard

/-- THE TIED CARD OF 'milestonelaw10.ChronicleErrs'. -/
def chronicleErrsCard : Claim7 := { stood := { row := chronicleErrsRow, standIns := [], harness := (true, "6806f7b09f3ff3b71f3c884d74e2c3e37d77fda78c9033126fb8c6a2cdc43d8f"), looks := true }, kinds := [], alts := [], laidByText := true, laidKinds := [.data, .data, .data], laidTests := true, laidLooks := .later }
def ChronicleErrsCardSaid : Prop := Claim7.holds Tryz.pinned (.plain (OpenSpec.ofChange chronicleErrsSpec)) chronicleErrsCard

/-- THE TIED CARD OF 'milestonelaw10.ChronicleTwice'. -/
def chronicleTwiceCard : Claim7 := { stood := { row := chronicleTwiceRow, standIns := [], harness := (true, "6806f7b09f3ff3b71f3c884d74e2c3e37d77fda78c9033126fb8c6a2cdc43d8f"), looks := true }, kinds := [], alts := [], laidByText := true, laidKinds := [.data, .data, .data], laidTests := true, laidLooks := .later }
def ChronicleTwiceCardSaid : Prop := Claim7.holds Tryz.pinned (.plain (OpenSpec.ofChange chronicleTwiceSpec)) chronicleTwiceCard

/-- THE SECOND FORM's CARD OF 'milestonelaw10.ChroniclePlays'. -/
def chroniclePlaysUptoCard : Claim7 := { stood := { row := chroniclePlaysUptoRow, standIns := [], harness := (true, "6806f7b09f3ff3b71f3c884d74e2c3e37d77fda78c9033126fb8c6a2cdc43d8f"), looks := true }, kinds := [], alts := [], laidByText := true, laidKinds := [.data, .data, .data], laidTests := true, laidLooks := .later }
def ChroniclePlaysUptoCardSaid : Prop := Claim7.holds Tryz.pinned (.plain (OpenSpec.upto chroniclePlaysSpec)) chroniclePlaysUptoCard

/-- THE SECOND FORM's CARD OF 'milestonelaw10.ChronicleFalls'. -/
def chronicleFallsUptoCard : Claim7 := { stood := { row := chronicleFallsUptoRow, standIns := [], harness := (true, "6806f7b09f3ff3b71f3c884d74e2c3e37d77fda78c9033126fb8c6a2cdc43d8f"), looks := true }, kinds := [], alts := [], laidByText := true, laidKinds := [.data, .data, .data], laidTests := true, laidLooks := .later }
def ChronicleFallsUptoCardSaid : Prop := Claim7.holds Tryz.pinned (.plain (OpenSpec.upto chronicleFallsSpec)) chronicleFallsUptoCard

/-- THE SECOND FORM's CARD OF 'milestonelaw10.ChronicleFull'. -/
def chronicleFullUptoCard : Claim7 := { stood := { row := chronicleFullUptoRow, standIns := [], harness := (true, "6806f7b09f3ff3b71f3c884d74e2c3e37d77fda78c9033126fb8c6a2cdc43d8f"), looks := true }, kinds := [], alts := [], laidByText := true, laidKinds := [.data, .data, .data], laidTests := true, laidLooks := .later }
def ChronicleFullUptoCardSaid : Prop := Claim7.holds Tryz.pinned (.plain (OpenSpec.upto chronicleFullSpec)) chronicleFullUptoCard

/-- THE SECOND FORM's CARD OF 'milestonelaw10.ChronicleFiles'. -/
def chronicleFilesUptoCard : Claim7 := { stood := { row := chronicleFilesUptoRow, standIns := [], harness := (true, "6806f7b09f3ff3b71f3c884d74e2c3e37d77fda78c9033126fb8c6a2cdc43d8f"), looks := true }, kinds := [], alts := [], laidByText := true, laidKinds := [.data, .data, .data], laidTests := true, laidLooks := .later }
def ChronicleFilesUptoCardSaid : Prop := Claim7.holds Tryz.pinned (.plain (OpenSpec.upto chronicleFilesSpec)) chronicleFilesUptoCard

/-- THE SECOND FORM's CARD OF 'milestonelaw10.ChronicleErrs'. -/
def chronicleErrsUptoCard : Claim7 := { stood := { row := chronicleErrsUptoRow, standIns := [], harness := (true, "6806f7b09f3ff3b71f3c884d74e2c3e37d77fda78c9033126fb8c6a2cdc43d8f"), looks := true }, kinds := [], alts := [], laidByText := true, laidKinds := [.data, .data, .data], laidTests := true, laidLooks := .later }
def ChronicleErrsUptoCardSaid : Prop := Claim7.holds Tryz.pinned (.plain (OpenSpec.upto chronicleErrsSpec)) chronicleErrsUptoCard

/-- THE SECOND FORM's CARD OF 'milestonelaw10.ChronicleTwice'. -/
def chronicleTwiceUptoCard : Claim7 := { stood := { row := chronicleTwiceUptoRow, standIns := [], harness := (true, "6806f7b09f3ff3b71f3c884d74e2c3e37d77fda78c9033126fb8c6a2cdc43d8f"), looks := true }, kinds := [], alts := [], laidByText := true, laidKinds := [.data, .data, .data], laidTests := true, laidLooks := .later }
def ChronicleTwiceUptoCardSaid : Prop := Claim7.holds Tryz.pinned (.plain (OpenSpec.upto chronicleTwiceSpec)) chronicleTwiceUptoCard
end Rows
end Go.Proofs.YtdbhgkbmbbjpdaaGreatDoor
