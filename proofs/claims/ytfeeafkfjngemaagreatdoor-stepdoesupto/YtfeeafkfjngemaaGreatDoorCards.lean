/-
  DERIVED. GIVEN WITH THE SEED: THE CARDS: each row of YtfeeafkfjngemaaGreatDoorRows.lean that lists a variable, with what it lists TIED to the program's text (the seventh form; the later family's looks); each row that meets fmt, with fmt's text TOLD by the authors' own Lean function (tested against real Go, not proved from fmt's source: count such statements apart). THE CARD IS WHAT COUNTS. Prove the row's statement (the work); the ties are given (YtfeeafkfjngemaaGreatDoorTie.lean); close each card by the builder's one call (the guide's Derived/Test/ToyasCard.lean, 'card_holds'). Laid BY PROGRAM, IN A SANDBOX (cutbox-door.mjs). By AI agents, Wed Nov 11 2026. No macro, syntax, notation, axiom, sorry.
-/
import Derived.Test.YtfeeafkfjngemaaGreatDoorRows
import GoSem.ClaimSeven
namespace Go.Proofs.YtfeeafkfjngemaaGreatDoor
namespace Rows

/-- THE TIED CARD OF 'lodestonelaw08.StepAll'. -/
def stepAllCard : Claim7 := { stood := { row := stepAllRow, standIns := [], harness := (true, "2ff856c6eebc9c64a56c139c769f9f06fd94dd8d0ea832272d22aa9d9b1025d5"), looks := true }, kinds := [], alts := [], laidByText := true, laidKinds := [.data, .pinned], laidTests := true, laidLooks := .later }
def StepAllCardSaid : Prop := Claim7.holds Tryz.pinned (.plain (OpenSpec.ofChange stepAllSpec)) stepAllCard

/-- THE TIED CARD OF 'lodestonelaw08.StepDoes'. -/
def stepDoesCard : Claim7 := { stood := { row := stepDoesRow, standIns := [], harness := (true, "2ff856c6eebc9c64a56c139c769f9f06fd94dd8d0ea832272d22aa9d9b1025d5"), looks := true }, kinds := [], alts := [], laidByText := true, laidKinds := [.data, .pinned], laidTests := true, laidLooks := .later }
def StepDoesCardSaid : Prop := Claim7.holds Tryz.pinned (.plain (OpenSpec.ofChange stepDoesSpec)) stepDoesCard

/-- THE TIED CARD OF 'lodestonelaw08.StepParts'. -/
def stepPartsCard : Claim7 := { stood := { row := stepPartsRow, standIns := [], harness := (true, "2ff856c6eebc9c64a56c139c769f9f06fd94dd8d0ea832272d22aa9d9b1025d5"), looks := true }, kinds := [], alts := [], laidByText := true, laidKinds := [.data, .pinned], laidTests := true, laidLooks := .later }
def StepPartsCardSaid : Prop := Claim7.holds Tryz.pinned (.plain (OpenSpec.ofChange stepPartsSpec)) stepPartsCard

/-- THE TIED CARD OF 'lodestonelaw08.StepBinds'. -/
def stepBindsCard : Claim7 := { stood := { row := stepBindsRow, standIns := [], harness := (true, "2ff856c6eebc9c64a56c139c769f9f06fd94dd8d0ea832272d22aa9d9b1025d5"), looks := true }, kinds := [], alts := [], laidByText := true, laidKinds := [.data, .pinned], laidTests := true, laidLooks := .later }
def StepBindsCardSaid : Prop := Claim7.holds Tryz.pinned (.plain (OpenSpec.ofChange stepBindsSpec)) stepBindsCard

/-- THE SECOND FORM's CARD OF 'lodestonelaw08.StepAll'. -/
def stepAllUptoCard : Claim7 := { stood := { row := stepAllUptoRow, standIns := [], harness := (true, "2ff856c6eebc9c64a56c139c769f9f06fd94dd8d0ea832272d22aa9d9b1025d5"), looks := true }, kinds := [], alts := [], laidByText := true, laidKinds := [.data, .pinned], laidTests := true, laidLooks := .later }
def StepAllUptoCardSaid : Prop := Claim7.holds Tryz.pinned (.plain (OpenSpec.upto stepAllSpec)) stepAllUptoCard

/-- THE SECOND FORM's CARD OF 'lodestonelaw08.StepDoes'. -/
def stepDoesUptoCard : Claim7 := { stood := { row := stepDoesUptoRow, standIns := [], harness := (true, "2ff856c6eebc9c64a56c139c769f9f06fd94dd8d0ea832272d22aa9d9b1025d5"), looks := true }, kinds := [], alts := [], laidByText := true, laidKinds := [.data, .pinned], laidTests := true, laidLooks := .later }
def StepDoesUptoCardSaid : Prop := Claim7.holds Tryz.pinned (.plain (OpenSpec.upto stepDoesSpec)) stepDoesUptoCard

/-- THE SECOND FORM's CARD OF 'lodestonelaw08.StepParts'. -/
def stepPartsUptoCard : Claim7 := { stood := { row := stepPartsUptoRow, standIns := [], harness := (true, "2ff856c6eebc9c64a56c139c769f9f06fd94dd8d0ea832272d22aa9d9b1025d5"), looks := true }, kinds := [], alts := [], laidByText := true, laidKinds := [.data, .pinned], laidTests := true, laidLooks := .later }
def StepPartsUptoCardSaid : Prop := Claim7.holds Tryz.pinned (.plain (OpenSpec.upto stepPartsSpec)) stepPartsUptoCard

/-- THE SECOND FORM's CARD OF 'lodestonelaw08.StepBinds'. -/
def stepBindsUptoCard : Claim7 := { stood := { row := stepBindsUptoRow, standIns := [], harness := (true, "2ff856c6eebc9c64a56c139c769f9f06fd94dd8d0ea832272d22aa9d9b1025d5"), looks := true }, kinds := [], alts := [], laidByText := true, laidKinds := [.data, .pinned], laidTests := true, laidLooks := .later }
def StepBindsUptoCardSaid : Prop := Claim7.holds Tryz.pinned (.plain (OpenSpec.upto stepBindsSpec)) stepBindsUptoCard
end Rows
end Go.Proofs.YtfeeafkfjngemaaGreatDoor
