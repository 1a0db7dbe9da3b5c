/-
  DERIVED. GIVEN WITH THE SEED: THE CARDS: each row of YthjghdpiokpnfabDoorRows.lean that lists a variable, with what it lists TIED to the program's text (the seventh form; the later family's looks); each row that meets fmt, with fmt's text TOLD by the authors' own Lean function (tested against real Go, not proved from fmt's source: count such statements apart). THE CARD IS WHAT COUNTS. Prove the row's statement (the work); the ties are given (YthjghdpiokpnfabDoorTie.lean); close each card by the builder's one call (the guide's Derived/Test/ToyasCard.lean, 'card_holds'). Laid BY PROGRAM, IN A SANDBOX (cutbox-door.mjs). By AI agents, Wed Nov 11 2026. No macro, syntax, notation, axiom, sorry.
-/
import Derived.Test.YthjghdpiokpnfabDoorRows
import GoSem.ClaimSeven
namespace Go.Proofs.YthjghdpiokpnfabDoor
namespace Rows

/-- THE TIED CARD OF 'lodestonelaw11.LpoNamed'. -/
def lpoNamedCard : Claim7 := { stood := { row := lpoNamedRow, standIns := [], harness := (true, "d193ee84fb6351fd093b86795d989c982eb546be2439ffa75250fde11d48ab11"), looks := true }, kinds := [], alts := [], laidByText := true, laidKinds := [.data, .pinned], laidTests := true, laidLooks := .later }
def LpoNamedCardSaid : Prop := Claim7.holds Tryd.pinned (.plain (OpenSpec.ofChange lpoNamedSpec)) lpoNamedCard

/-- THE SECOND FORM's CARD OF 'lodestonelaw11.LpoNamed'. -/
def lpoNamedUptoCard : Claim7 := { stood := { row := lpoNamedUptoRow, standIns := [], harness := (true, "d193ee84fb6351fd093b86795d989c982eb546be2439ffa75250fde11d48ab11"), looks := true }, kinds := [], alts := [], laidByText := true, laidKinds := [.data, .pinned], laidTests := true, laidLooks := .later }
def LpoNamedUptoCardSaid : Prop := Claim7.holds Tryd.pinned (.plain (OpenSpec.upto lpoNamedSpec)) lpoNamedUptoCard
end Rows
end Go.Proofs.YthjghdpiokpnfabDoor
