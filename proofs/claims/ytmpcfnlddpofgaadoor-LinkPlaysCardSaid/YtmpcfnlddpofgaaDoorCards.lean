/-
  DERIVED. GIVEN WITH THE SEED: THE CARDS: each row of YtmpcfnlddpofgaaDoorRows.lean that lists a variable, with what it lists TIED to the program's text (the seventh form; the later family's looks); each row that meets fmt, with fmt's text TOLD by the authors' own Lean function (tested against real Go, not proved from fmt's source: count such statements apart). THE CARD IS WHAT COUNTS. Prove the row's statement (the work); the ties are given (YtmpcfnlddpofgaaDoorTie.lean); close each card by the builder's one call (the guide's Derived/Test/ToyasCard.lean, 'card_holds'). Laid BY PROGRAM, IN A SANDBOX (cutbox-door.mjs). By AI agents, Wed Nov 11 2026. No macro, syntax, notation, axiom, sorry.
-/
import Derived.Test.YtmpcfnlddpofgaaDoorRows
import GoSem.ClaimSeven
namespace Go.Proofs.YtmpcfnlddpofgaaDoor
namespace Rows

/-- THE TIED CARD OF 'milestonelaw14.LinkPlays'. -/
def linkPlaysCard : Claim7 := { stood := { row := linkPlaysRow, standIns := [], harness := (true, "87b2e38641a56b7eaff657e7b5cc2fff9b28ffdf80f2b3f016b7b4f823f5af9e"), looks := false }, kinds := [], alts := [], laidByText := true, laidKinds := [.data], laidTests := true, laidLooks := .later }
def LinkPlaysCardSaid : Prop := Claim7.holds Tryd.pinned (.plain (OpenSpec.ofChange linkPlaysSpec)) linkPlaysCard

/-- THE TIED CARD OF 'milestonelaw14.LinkDies'. -/
def linkDiesCard : Claim7 := { stood := { row := linkDiesRow, standIns := [], harness := (true, "87b2e38641a56b7eaff657e7b5cc2fff9b28ffdf80f2b3f016b7b4f823f5af9e"), looks := false }, kinds := [], alts := [], laidByText := true, laidKinds := [.data], laidTests := true, laidLooks := .later }
def LinkDiesCardSaid : Prop := Claim7.holds Tryd.pinned (.plain (OpenSpec.ofChange linkDiesSpec)) linkDiesCard

/-- THE TIED CARD OF 'milestonelaw14.LinkLives'. -/
def linkLivesCard : Claim7 := { stood := { row := linkLivesRow, standIns := [], harness := (true, "87b2e38641a56b7eaff657e7b5cc2fff9b28ffdf80f2b3f016b7b4f823f5af9e"), looks := false }, kinds := [], alts := [], laidByText := true, laidKinds := [.data], laidTests := true, laidLooks := .later }
def LinkLivesCardSaid : Prop := Claim7.holds Tryd.pinned (.plain (OpenSpec.ofChange linkLivesSpec)) linkLivesCard

/-- THE TIED CARD OF 'milestonelaw14.LinkNil'. -/
def linkNilCard : Claim7 := { stood := { row := linkNilRow, standIns := [], harness := (true, "87b2e38641a56b7eaff657e7b5cc2fff9b28ffdf80f2b3f016b7b4f823f5af9e"), looks := false }, kinds := [], alts := [], laidByText := true, laidKinds := [.data], laidTests := true, laidLooks := .later }
def LinkNilCardSaid : Prop := Claim7.holds Tryd.pinned (.plain (OpenSpec.ofChange linkNilSpec)) linkNilCard

/-- THE TIED CARD OF 'milestonelaw14.LinkMisses'. -/
def linkMissesCard : Claim7 := { stood := { row := linkMissesRow, standIns := [], harness := (true, "87b2e38641a56b7eaff657e7b5cc2fff9b28ffdf80f2b3f016b7b4f823f5af9e"), looks := false }, kinds := [], alts := [], laidByText := true, laidKinds := [.data], laidTests := true, laidLooks := .later }
def LinkMissesCardSaid : Prop := Claim7.holds Tryd.pinned (.plain (OpenSpec.ofChange linkMissesSpec)) linkMissesCard

/-- THE SECOND FORM's CARD OF 'milestonelaw14.LinkPlays'. -/
def linkPlaysUptoCard : Claim7 := { stood := { row := linkPlaysUptoRow, standIns := [], harness := (true, "87b2e38641a56b7eaff657e7b5cc2fff9b28ffdf80f2b3f016b7b4f823f5af9e"), looks := false }, kinds := [], alts := [], laidByText := true, laidKinds := [.data], laidTests := true, laidLooks := .later }
def LinkPlaysUptoCardSaid : Prop := Claim7.holds Tryd.pinned (.plain (OpenSpec.upto linkPlaysSpec)) linkPlaysUptoCard

/-- THE SECOND FORM's CARD OF 'milestonelaw14.LinkDies'. -/
def linkDiesUptoCard : Claim7 := { stood := { row := linkDiesUptoRow, standIns := [], harness := (true, "87b2e38641a56b7eaff657e7b5cc2fff9b28ffdf80f2b3f016b7b4f823f5af9e"), looks := false }, kinds := [], alts := [], laidByText := true, laidKinds := [.data], laidTests := true, laidLooks := .later }
def LinkDiesUptoCardSaid : Prop := Claim7.holds Tryd.pinned (.plain (OpenSpec.upto linkDiesSpec)) linkDiesUptoCard

/-- THE SECOND FORM's CARD OF 'milestonelaw14.LinkLives'. -/
def linkLivesUptoCard : Claim7 := { stood := { row := linkLivesUptoRow, standIns := [], harness := (true, "87b2e38641a56b7eaff657e7b5cc2fff9b28ffdf80f2b3f016b7b4f823f5af9e"), looks := false }, kinds := [], alts := [], laidByText := true, laidKinds := [.data], laidTests := true, laidLooks := .later }
def LinkLivesUptoCardSaid : Prop := Claim7.holds Tryd.pinned (.plain (OpenSpec.upto linkLivesSpec)) linkLivesUptoCard

/-- THE SECOND FORM's CARD OF 'milestonelaw14.LinkNil'. -/
def linkNilUptoCard : Claim7 := { stood := { row := linkNilUptoRow, standIns := [], harness := (true, "87b2e38641a56b7eaff657e7b5cc2fff9b28ffdf80f2b3f016b7b4f823f5af9e"), looks := false }, kinds := [], alts := [], laidByText := true, laidKinds := [.data], laidTests := true, laidLooks := .later }
def LinkNilUptoCardSaid : Prop := Claim7.holds Tryd.pinned (.plain (OpenSpec.upto linkNilSpec)) linkNilUptoCard

/-- THE SECOND FORM's CARD OF 'milestonelaw14.LinkMisses'. -/
def linkMissesUptoCard : Claim7 := { stood := { row := linkMissesUptoRow, standIns := [], harness := (true, "87b2e38641a56b7eaff657e7b5cc2fff9b28ffdf80f2b3f016b7b4f823f5af9e"), looks := false }, kinds := [], alts := [], laidByText := true, laidKinds := [.data], laidTests := true, laidLooks := .later }
def LinkMissesUptoCardSaid : Prop := Claim7.holds Tryd.pinned (.plain (OpenSpec.upto linkMissesSpec)) linkMissesUptoCard
end Rows
end Go.Proofs.YtmpcfnlddpofgaaDoor
