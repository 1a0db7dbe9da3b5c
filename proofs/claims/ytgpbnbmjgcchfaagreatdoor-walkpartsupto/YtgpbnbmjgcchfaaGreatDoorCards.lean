/-
  DERIVED. GIVEN WITH THE SEED: THE CARDS: each row of YtgpbnbmjgcchfaaGreatDoorRows.lean that lists a variable, with what it lists TIED to the program's text (the seventh form; the later family's looks); each row that meets fmt, with fmt's text TOLD by the authors' own Lean function (tested against real Go, not proved from fmt's source: count such statements apart). THE CARD IS WHAT COUNTS. Prove the row's statement (the work); the ties are given (YtgpbnbmjgcchfaaGreatDoorTie.lean); close each card by the builder's one call (the guide's Derived/Test/ToyasCard.lean, 'card_holds'). Laid BY PROGRAM, IN A SANDBOX (cutbox-door.mjs). By AI agents, Wed Nov 11 2026. No macro, syntax, notation, axiom, sorry.
-/
import Derived.Test.YtgpbnbmjgcchfaaGreatDoorRows
import GoSem.ClaimSeven
namespace Go.Proofs.YtgpbnbmjgcchfaaGreatDoor
namespace Rows

/-- THE TIED CARD OF 'lodestonelaw08.StepParts'. -/
def stepPartsCard : Claim7 := { stood := { row := stepPartsRow, standIns := [], harness := (true, "cebb87286426f9ce519aa25b2295083c4a94f8f7cd88c866ca6a0856393ea150"), looks := true }, kinds := [], alts := [], laidByText := true, laidKinds := [.data, .pinned], laidTests := true, laidLooks := .later }
def StepPartsCardSaid : Prop := Claim7.holds Tryz.pinned (.plain (OpenSpec.ofChange stepPartsSpec)) stepPartsCard

/-- THE TIED CARD OF 'lodestonelaw08.StepBinds'. -/
def stepBindsCard : Claim7 := { stood := { row := stepBindsRow, standIns := [], harness := (true, "cebb87286426f9ce519aa25b2295083c4a94f8f7cd88c866ca6a0856393ea150"), looks := true }, kinds := [], alts := [], laidByText := true, laidKinds := [.data, .pinned], laidTests := true, laidLooks := .later }
def StepBindsCardSaid : Prop := Claim7.holds Tryz.pinned (.plain (OpenSpec.ofChange stepBindsSpec)) stepBindsCard

/-- THE TIED CARD OF 'lodestonelaw09.WalkParts'. -/
def walkPartsCard : Claim7 := { stood := { row := walkPartsRow, standIns := [], harness := (true, "cebb87286426f9ce519aa25b2295083c4a94f8f7cd88c866ca6a0856393ea150"), looks := true }, kinds := [], alts := [], laidByText := true, laidKinds := [.data, .pinned], laidTests := true, laidLooks := .later }
def WalkPartsCardSaid : Prop := Claim7.holds Tryz.pinned (.plain (OpenSpec.ofChange walkPartsSpec)) walkPartsCard

/-- THE TIED CARD OF 'lodestonelaw09.WalkNamed'. -/
def walkNamedCard : Claim7 := { stood := { row := walkNamedRow, standIns := [], harness := (true, "cebb87286426f9ce519aa25b2295083c4a94f8f7cd88c866ca6a0856393ea150"), looks := true }, kinds := [], alts := [], laidByText := true, laidKinds := [.data, .pinned], laidTests := true, laidLooks := .later }
def WalkNamedCardSaid : Prop := Claim7.holds Tryz.pinned (.plain (OpenSpec.ofChange walkNamedSpec)) walkNamedCard

/-- THE SECOND FORM's CARD OF 'lodestonelaw08.StepParts'. -/
def stepPartsUptoCard : Claim7 := { stood := { row := stepPartsUptoRow, standIns := [], harness := (true, "cebb87286426f9ce519aa25b2295083c4a94f8f7cd88c866ca6a0856393ea150"), looks := true }, kinds := [], alts := [], laidByText := true, laidKinds := [.data, .pinned], laidTests := true, laidLooks := .later }
def StepPartsUptoCardSaid : Prop := Claim7.holds Tryz.pinned (.plain (OpenSpec.upto stepPartsSpec)) stepPartsUptoCard

/-- THE SECOND FORM's CARD OF 'lodestonelaw08.StepBinds'. -/
def stepBindsUptoCard : Claim7 := { stood := { row := stepBindsUptoRow, standIns := [], harness := (true, "cebb87286426f9ce519aa25b2295083c4a94f8f7cd88c866ca6a0856393ea150"), looks := true }, kinds := [], alts := [], laidByText := true, laidKinds := [.data, .pinned], laidTests := true, laidLooks := .later }
def StepBindsUptoCardSaid : Prop := Claim7.holds Tryz.pinned (.plain (OpenSpec.upto stepBindsSpec)) stepBindsUptoCard

/-- THE SECOND FORM's CARD OF 'lodestonelaw09.WalkParts'. -/
def walkPartsUptoCard : Claim7 := { stood := { row := walkPartsUptoRow, standIns := [], harness := (true, "cebb87286426f9ce519aa25b2295083c4a94f8f7cd88c866ca6a0856393ea150"), looks := true }, kinds := [], alts := [], laidByText := true, laidKinds := [.data, .pinned], laidTests := true, laidLooks := .later }
def WalkPartsUptoCardSaid : Prop := Claim7.holds Tryz.pinned (.plain (OpenSpec.upto walkPartsSpec)) walkPartsUptoCard

/-- THE SECOND FORM's CARD OF 'lodestonelaw09.WalkNamed'. -/
def walkNamedUptoCard : Claim7 := { stood := { row := walkNamedUptoRow, standIns := [], harness := (true, "cebb87286426f9ce519aa25b2295083c4a94f8f7cd88c866ca6a0856393ea150"), looks := true }, kinds := [], alts := [], laidByText := true, laidKinds := [.data, .pinned], laidTests := true, laidLooks := .later }
def WalkNamedUptoCardSaid : Prop := Claim7.holds Tryz.pinned (.plain (OpenSpec.upto walkNamedSpec)) walkNamedUptoCard
end Rows
end Go.Proofs.YtgpbnbmjgcchfaaGreatDoor
