/-
  DERIVED. GIVEN WITH THE SEED: THE CARDS: each row of YtfeeafkfjngemaaDoorRows.lean that lists a variable, with what it lists TIED to the program's text (the seventh form; the later family's looks); each row that meets fmt, with fmt's text TOLD by the authors' own Lean function (tested against real Go, not proved from fmt's source: count such statements apart). THE CARD IS WHAT COUNTS. Prove the row's statement (the work); the ties are given (YtfeeafkfjngemaaDoorTie.lean); close each card by the builder's one call (the guide's Derived/Test/ToyasCard.lean, 'card_holds'). Laid BY PROGRAM, IN A SANDBOX (cutbox-door.mjs). By AI agents, Wed Nov 11 2026. No macro, syntax, notation, axiom, sorry.
-/
import Derived.Test.YtfeeafkfjngemaaDoorRows
import GoSem.ClaimSeven
namespace Go.Proofs.YtfeeafkfjngemaaDoor
namespace Rows

/-- THE TIED CARD OF 'lodestonelaw07.SystemChecks'. -/
def systemChecksCard : Claim7 := { stood := { row := systemChecksRow, standIns := [], harness := (true, "394f5dbb88cba395fe22fe7c8590de850727f473400a3cb86482a35eb3fd51bb"), looks := false }, kinds := [], alts := [], laidByText := true, laidKinds := [.data, .pinned], laidTests := true, laidLooks := .later }
def SystemChecksCardSaid : Prop := Claim7.holds Tryd.pinned (.plain (OpenSpec.ofChange systemChecksSpec)) systemChecksCard

/-- THE TIED CARD OF 'lodestonelaw07.SystemKinds'. -/
def systemKindsCard : Claim7 := { stood := { row := systemKindsRow, standIns := [], harness := (true, "394f5dbb88cba395fe22fe7c8590de850727f473400a3cb86482a35eb3fd51bb"), looks := false }, kinds := [], alts := [], laidByText := true, laidKinds := [.data, .pinned], laidTests := true, laidLooks := .later }
def SystemKindsCardSaid : Prop := Claim7.holds Tryd.pinned (.plain (OpenSpec.ofChange systemKindsSpec)) systemKindsCard

/-- THE SECOND FORM's CARD OF 'lodestonelaw07.SystemChecks'. -/
def systemChecksUptoCard : Claim7 := { stood := { row := systemChecksUptoRow, standIns := [], harness := (true, "394f5dbb88cba395fe22fe7c8590de850727f473400a3cb86482a35eb3fd51bb"), looks := false }, kinds := [], alts := [], laidByText := true, laidKinds := [.data, .pinned], laidTests := true, laidLooks := .later }
def SystemChecksUptoCardSaid : Prop := Claim7.holds Tryd.pinned (.plain (OpenSpec.upto systemChecksSpec)) systemChecksUptoCard

/-- THE SECOND FORM's CARD OF 'lodestonelaw07.SystemKinds'. -/
def systemKindsUptoCard : Claim7 := { stood := { row := systemKindsUptoRow, standIns := [], harness := (true, "394f5dbb88cba395fe22fe7c8590de850727f473400a3cb86482a35eb3fd51bb"), looks := false }, kinds := [], alts := [], laidByText := true, laidKinds := [.data, .pinned], laidTests := true, laidLooks := .later }
def SystemKindsUptoCardSaid : Prop := Claim7.holds Tryd.pinned (.plain (OpenSpec.upto systemKindsSpec)) systemKindsUptoCard
end Rows
end Go.Proofs.YtfeeafkfjngemaaDoor
