/-
  DERIVED. GIVEN WITH THE SEED: THE CARDS: each row of YtcijfaijjpkdoacDoorRows.lean that lists a variable, with what it lists TIED to the program's text (the seventh form; the later family's looks); each row that meets fmt, with fmt's text TOLD by the authors' own Lean function (tested against real Go, not proved from fmt's source: count such statements apart). THE CARD IS WHAT COUNTS. Prove the row's statement (the work); the ties are given (YtcijfaijjpkdoacDoorTie.lean); close each card by the builder's one call (the guide's Derived/Test/ToyasCard.lean, 'card_holds'). Laid BY PROGRAM, IN A SANDBOX (cutbox-door.mjs). By AI agents, Wed Nov 11 2026. No macro, syntax, notation, axiom, sorry.
-/
import Derived.Test.YtcijfaijjpkdoacDoorRows
import GoSem.ClaimSeven
namespace Go.Proofs.YtcijfaijjpkdoacDoor
namespace Rows

/-- THE TIED CARD OF 'lodestonelaw07.SystemSame'. -/
def systemSameCard : Claim7 := { stood := { row := systemSameRow, standIns := [], harness := (true, "75193ccf7c57617419a81d3f9185abcca6e70be835688f0c79fc5b5b0ad43540"), looks := false }, kinds := [], alts := [], laidByText := true, laidKinds := [.data, .pinned], laidTests := true, laidLooks := .later }
def SystemSameCardSaid : Prop := Claim7.holds Tryd.pinned (.plain (OpenSpec.ofChange systemSameSpec)) systemSameCard

/-- THE TIED CARD OF 'lodestonelaw07.SystemKinds'. -/
def systemKindsCard : Claim7 := { stood := { row := systemKindsRow, standIns := [], harness := (true, "75193ccf7c57617419a81d3f9185abcca6e70be835688f0c79fc5b5b0ad43540"), looks := false }, kinds := [], alts := [], laidByText := true, laidKinds := [.data, .pinned], laidTests := true, laidLooks := .later }
def SystemKindsCardSaid : Prop := Claim7.holds Tryd.pinned (.plain (OpenSpec.ofChange systemKindsSpec)) systemKindsCard

/-- THE SECOND FORM's CARD OF 'lodestonelaw07.SystemSame'. -/
def systemSameUptoCard : Claim7 := { stood := { row := systemSameUptoRow, standIns := [], harness := (true, "75193ccf7c57617419a81d3f9185abcca6e70be835688f0c79fc5b5b0ad43540"), looks := false }, kinds := [], alts := [], laidByText := true, laidKinds := [.data, .pinned], laidTests := true, laidLooks := .later }
def SystemSameUptoCardSaid : Prop := Claim7.holds Tryd.pinned (.plain (OpenSpec.upto systemSameSpec)) systemSameUptoCard

/-- THE SECOND FORM's CARD OF 'lodestonelaw07.SystemKinds'. -/
def systemKindsUptoCard : Claim7 := { stood := { row := systemKindsUptoRow, standIns := [], harness := (true, "75193ccf7c57617419a81d3f9185abcca6e70be835688f0c79fc5b5b0ad43540"), looks := false }, kinds := [], alts := [], laidByText := true, laidKinds := [.data, .pinned], laidTests := true, laidLooks := .later }
def SystemKindsUptoCardSaid : Prop := Claim7.holds Tryd.pinned (.plain (OpenSpec.upto systemKindsSpec)) systemKindsUptoCard
end Rows
end Go.Proofs.YtcijfaijjpkdoacDoor
