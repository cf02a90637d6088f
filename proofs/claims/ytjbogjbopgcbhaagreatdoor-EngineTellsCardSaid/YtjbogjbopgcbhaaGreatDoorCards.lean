/-
  DERIVED. GIVEN WITH THE SEED: THE CARDS: each row of YtjbogjbopgcbhaaGreatDoorRows.lean that lists a variable, with what it lists TIED to the program's text (the seventh form; the later family's looks); each row that meets fmt, with fmt's text TOLD by the authors' own Lean function (tested against real Go, not proved from fmt's source: count such statements apart). THE CARD IS WHAT COUNTS. Prove the row's statement (the work); the ties are given (YtjbogjbopgcbhaaGreatDoorTie.lean); close each card by the builder's one call (the guide's Derived/Test/ToyasCard.lean, 'card_holds'). Laid BY PROGRAM, IN A SANDBOX (cutbox-door.mjs). By AI agents, Wed Nov 11 2026. No macro, syntax, notation, axiom, sorry.
-/
import Derived.Test.YtjbogjbopgcbhaaGreatDoorRows
import GoSem.ClaimSeven
namespace Go.Proofs.YtjbogjbopgcbhaaGreatDoor
namespace Rows

/-- THE TIED CARD OF 'milestonelaw17.EngineChooses'. -/
def engineChoosesCard : Claim7 := { stood := { row := engineChoosesRow, standIns := [], harness := (true, "73430b27a30ada73018fe7c3192a9fa6d4b7bfc394d4113e0a57e1736d749f34"), looks := false }, kinds := [], alts := [], laidByText := true, laidKinds := [.data], laidTests := true, laidLooks := .later }
def EngineChoosesCardSaid : Prop := Claim7.holds Tryz.pinned (.plain (OpenSpec.ofChange engineChoosesSpec)) engineChoosesCard

/-- THE TIED CARD OF 'milestonelaw17.EngineSinks'. -/
def engineSinksCard : Claim7 := { stood := { row := engineSinksRow, standIns := [], harness := (true, "73430b27a30ada73018fe7c3192a9fa6d4b7bfc394d4113e0a57e1736d749f34"), looks := false }, kinds := [], alts := [], laidByText := true, laidKinds := [.data], laidTests := true, laidLooks := .later }
def EngineSinksCardSaid : Prop := Claim7.holds Tryz.pinned (.plain (OpenSpec.ofChange engineSinksSpec)) engineSinksCard

/-- THE TIED CARD OF 'milestonelaw17.EngineTells'. -/
def engineTellsCard : Claim7 := { stood := { row := engineTellsRow, standIns := [], harness := (true, "73430b27a30ada73018fe7c3192a9fa6d4b7bfc394d4113e0a57e1736d749f34"), looks := false }, kinds := [], alts := [], laidByText := true, laidKinds := [.data], laidTests := true, laidLooks := .later }
def EngineTellsCardSaid : Prop := Claim7.holds Tryz.pinned (.plain (OpenSpec.ofChange engineTellsSpec)) engineTellsCard

/-- THE TIED CARD OF 'milestonelaw17.EngineAsks'. -/
def engineAsksCard : Claim7 := { stood := { row := engineAsksRow, standIns := [], harness := (true, "73430b27a30ada73018fe7c3192a9fa6d4b7bfc394d4113e0a57e1736d749f34"), looks := false }, kinds := [], alts := [], laidByText := true, laidKinds := [.data], laidTests := true, laidLooks := .later }
def EngineAsksCardSaid : Prop := Claim7.holds Tryz.pinned (.plain (OpenSpec.ofChange engineAsksSpec)) engineAsksCard

/-- THE TIED CARD OF 'milestonelaw17.EngineForgets'. -/
def engineForgetsCard : Claim7 := { stood := { row := engineForgetsRow, standIns := [], harness := (true, "73430b27a30ada73018fe7c3192a9fa6d4b7bfc394d4113e0a57e1736d749f34"), looks := false }, kinds := [], alts := [], laidByText := true, laidKinds := [.data], laidTests := true, laidLooks := .later }
def EngineForgetsCardSaid : Prop := Claim7.holds Tryz.pinned (.plain (OpenSpec.ofChange engineForgetsSpec)) engineForgetsCard

/-- THE TIED CARD OF 'milestonelaw17.EngineBegins'. -/
def engineBeginsCard : Claim7 := { stood := { row := engineBeginsRow, standIns := [], harness := (true, "73430b27a30ada73018fe7c3192a9fa6d4b7bfc394d4113e0a57e1736d749f34"), looks := false }, kinds := [], alts := [], laidByText := true, laidKinds := [.data], laidTests := true, laidLooks := .later }
def EngineBeginsCardSaid : Prop := Claim7.holds Tryz.pinned (.plain (OpenSpec.ofChange engineBeginsSpec)) engineBeginsCard

/-- THE TIED CARD OF 'milestonelaw17.EngineCounts'. -/
def engineCountsCard : Claim7 := { stood := { row := engineCountsRow, standIns := [], harness := (true, "73430b27a30ada73018fe7c3192a9fa6d4b7bfc394d4113e0a57e1736d749f34"), looks := false }, kinds := [], alts := [], laidByText := true, laidKinds := [.data], laidTests := true, laidLooks := .later }
def EngineCountsCardSaid : Prop := Claim7.holds Tryz.pinned (.plain (OpenSpec.ofChange engineCountsSpec)) engineCountsCard

/-- THE TIED CARD OF 'milestonelaw17.EngineKeeps'. -/
def engineKeepsCard : Claim7 := { stood := { row := engineKeepsRow, standIns := [], harness := (true, "73430b27a30ada73018fe7c3192a9fa6d4b7bfc394d4113e0a57e1736d749f34"), looks := false }, kinds := [], alts := [], laidByText := true, laidKinds := [.data], laidTests := true, laidLooks := .later }
def EngineKeepsCardSaid : Prop := Claim7.holds Tryz.pinned (.plain (OpenSpec.ofChange engineKeepsSpec)) engineKeepsCard

/-- THE TIED CARD OF 'milestonelaw17.EngineSwitches'. -/
def engineSwitchesCard : Claim7 := { stood := { row := engineSwitchesRow, standIns := [], harness := (true, "73430b27a30ada73018fe7c3192a9fa6d4b7bfc394d4113e0a57e1736d749f34"), looks := false }, kinds := [], alts := [], laidByText := true, laidKinds := [.data], laidTests := true, laidLooks := .later }
def EngineSwitchesCardSaid : Prop := Claim7.holds Tryz.pinned (.plain (OpenSpec.ofChange engineSwitchesSpec)) engineSwitchesCard

/-- THE TIED CARD OF 'milestonelaw17.EngineHops'. -/
def engineHopsCard : Claim7 := { stood := { row := engineHopsRow, standIns := [], harness := (true, "73430b27a30ada73018fe7c3192a9fa6d4b7bfc394d4113e0a57e1736d749f34"), looks := false }, kinds := [], alts := [], laidByText := true, laidKinds := [.data], laidTests := true, laidLooks := .later }
def EngineHopsCardSaid : Prop := Claim7.holds Tryz.pinned (.plain (OpenSpec.ofChange engineHopsSpec)) engineHopsCard

/-- THE SECOND FORM's CARD OF 'milestonelaw17.EngineChooses'. -/
def engineChoosesUptoCard : Claim7 := { stood := { row := engineChoosesUptoRow, standIns := [], harness := (true, "73430b27a30ada73018fe7c3192a9fa6d4b7bfc394d4113e0a57e1736d749f34"), looks := false }, kinds := [], alts := [], laidByText := true, laidKinds := [.data], laidTests := true, laidLooks := .later }
def EngineChoosesUptoCardSaid : Prop := Claim7.holds Tryz.pinned (.plain (OpenSpec.upto engineChoosesSpec)) engineChoosesUptoCard

/-- THE SECOND FORM's CARD OF 'milestonelaw17.EngineSinks'. -/
def engineSinksUptoCard : Claim7 := { stood := { row := engineSinksUptoRow, standIns := [], harness := (true, "73430b27a30ada73018fe7c3192a9fa6d4b7bfc394d4113e0a57e1736d749f34"), looks := false }, kinds := [], alts := [], laidByText := true, laidKinds := [.data], laidTests := true, laidLooks := .later }
def EngineSinksUptoCardSaid : Prop := Claim7.holds Tryz.pinned (.plain (OpenSpec.upto engineSinksSpec)) engineSinksUptoCard

/-- THE SECOND FORM's CARD OF 'milestonelaw17.EngineTells'. -/
def engineTellsUptoCard : Claim7 := { stood := { row := engineTellsUptoRow, standIns := [], harness := (true, "73430b27a30ada73018fe7c3192a9fa6d4b7bfc394d4113e0a57e1736d749f34"), looks := false }, kinds := [], alts := [], laidByText := true, laidKinds := [.data], laidTests := true, laidLooks := .later }
def EngineTellsUptoCardSaid : Prop := Claim7.holds Tryz.pinned (.plain (OpenSpec.upto engineTellsSpec)) engineTellsUptoCard

/-- THE SECOND FORM's CARD OF 'milestonelaw17.EngineAsks'. -/
def engineAsksUptoCard : Claim7 := { stood := { row := engineAsksUptoRow, standIns := [], harness := (true, "73430b27a30ada73018fe7c3192a9fa6d4b7bfc394d4113e0a57e1736d749f34"), looks := false }, kinds := [], alts := [], laidByText := true, laidKinds := [.data], laidTests := true, laidLooks := .later }
def EngineAsksUptoCardSaid : Prop := Claim7.holds Tryz.pinned (.plain (OpenSpec.upto engineAsksSpec)) engineAsksUptoCard

/-- THE SECOND FORM's CARD OF 'milestonelaw17.EngineForgets'. -/
def engineForgetsUptoCard : Claim7 := { stood := { row := engineForgetsUptoRow, standIns := [], harness := (true, "73430b27a30ada73018fe7c3192a9fa6d4b7bfc394d4113e0a57e1736d749f34"), looks := false }, kinds := [], alts := [], laidByText := true, laidKinds := [.data], laidTests := true, laidLooks := .later }
def EngineForgetsUptoCardSaid : Prop := Claim7.holds Tryz.pinned (.plain (OpenSpec.upto engineForgetsSpec)) engineForgetsUptoCard

/-- THE SECOND FORM's CARD OF 'milestonelaw17.EngineBegins'. -/
def engineBeginsUptoCard : Claim7 := { stood := { row := engineBeginsUptoRow, standIns := [], harness := (true, "73430b27a30ada73018fe7c3192a9fa6d4b7bfc394d4113e0a57e1736d749f34"), looks := false }, kinds := [], alts := [], laidByText := true, laidKinds := [.data], laidTests := true, laidLooks := .later }
def EngineBeginsUptoCardSaid : Prop := Claim7.holds Tryz.pinned (.plain (OpenSpec.upto engineBeginsSpec)) engineBeginsUptoCard

/-- THE SECOND FORM's CARD OF 'milestonelaw17.EngineCounts'. -/
def engineCountsUptoCard : Claim7 := { stood := { row := engineCountsUptoRow, standIns := [], harness := (true, "73430b27a30ada73018fe7c3192a9fa6d4b7bfc394d4113e0a57e1736d749f34"), looks := false }, kinds := [], alts := [], laidByText := true, laidKinds := [.data], laidTests := true, laidLooks := .later }
def EngineCountsUptoCardSaid : Prop := Claim7.holds Tryz.pinned (.plain (OpenSpec.upto engineCountsSpec)) engineCountsUptoCard

/-- THE SECOND FORM's CARD OF 'milestonelaw17.EngineKeeps'. -/
def engineKeepsUptoCard : Claim7 := { stood := { row := engineKeepsUptoRow, standIns := [], harness := (true, "73430b27a30ada73018fe7c3192a9fa6d4b7bfc394d4113e0a57e1736d749f34"), looks := false }, kinds := [], alts := [], laidByText := true, laidKinds := [.data], laidTests := true, laidLooks := .later }
def EngineKeepsUptoCardSaid : Prop := Claim7.holds Tryz.pinned (.plain (OpenSpec.upto engineKeepsSpec)) engineKeepsUptoCard

/-- THE SECOND FORM's CARD OF 'milestonelaw17.EngineSwitches'. -/
def engineSwitchesUptoCard : Claim7 := { stood := { row := engineSwitchesUptoRow, standIns := [], harness := (true, "73430b27a30ada73018fe7c3192a9fa6d4b7bfc394d4113e0a57e1736d749f34"), looks := false }, kinds := [], alts := [], laidByText := true, laidKinds := [.data], laidTests := true, laidLooks := .later }
def EngineSwitchesUptoCardSaid : Prop := Claim7.holds Tryz.pinned (.plain (OpenSpec.upto engineSwitchesSpec)) engineSwitchesUptoCard

/-- THE SECOND FORM's CARD OF 'milestonelaw17.EngineHops'. -/
def engineHopsUptoCard : Claim7 := { stood := { row := engineHopsUptoRow, standIns := [], harness := (true, "73430b27a30ada73018fe7c3192a9fa6d4b7bfc394d4113e0a57e1736d749f34"), looks := false }, kinds := [], alts := [], laidByText := true, laidKinds := [.data], laidTests := true, laidLooks := .later }
def EngineHopsUptoCardSaid : Prop := Claim7.holds Tryz.pinned (.plain (OpenSpec.upto engineHopsSpec)) engineHopsUptoCard
end Rows
end Go.Proofs.YtjbogjbopgcbhaaGreatDoor
