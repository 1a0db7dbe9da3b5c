/-
  DERIVED. GIVEN WITH THE SEED: THE CARDS: each row of YtdjmjhlbjcgoiaaGreatDoorRows.lean that lists a variable, with what it lists TIED to the program's text (the seventh form; the later family's looks); each row that meets fmt, with fmt's text TOLD by the authors' own Lean function (tested against real Go, not proved from fmt's source: count such statements apart). THE CARD IS WHAT COUNTS. Prove the row's statement (the work); the ties are given (YtdjmjhlbjcgoiaaGreatDoorTie.lean); close each card by the builder's one call (the guide's Derived/Test/ToyasCard.lean, 'card_holds'). Laid BY PROGRAM, IN A SANDBOX (cutbox-door.mjs). By AI agents, Wed Nov 11 2026. No macro, syntax, notation, axiom, sorry.
-/
import Derived.Test.YtdjmjhlbjcgoiaaGreatDoorRows
import GoSem.ClaimSeven
namespace Go.Proofs.YtdjmjhlbjcgoiaaGreatDoor
namespace Rows

/-- THE TIED CARD OF 'lodestonelaw12.InterpChecks'. -/
def interpChecksCard : Claim7 := { stood := { row := interpChecksRow, standIns := [], harness := (true, "9ffa789f9b0ad479a15b9680ce811fa3a6ed47c5189b09479080b66c9ac1cf8b"), looks := true }, kinds := [], alts := [], laidByText := true, laidKinds := [.data, .pinned], laidTests := true, laidLooks := .later }
def InterpChecksCardSaid : Prop := Claim7.holds Tryz.pinned (.plain (OpenSpec.ofChange interpChecksSpec)) interpChecksCard

/-- THE TIED CARD OF 'lodestonelaw12.InterpOf'. -/
def interpOfCard : Claim7 := { stood := { row := interpOfRow, standIns := [], harness := (true, "9ffa789f9b0ad479a15b9680ce811fa3a6ed47c5189b09479080b66c9ac1cf8b"), looks := true }, kinds := [], alts := [], laidByText := true, laidKinds := [.data, .pinned], laidTests := true, laidLooks := .later }
def InterpOfCardSaid : Prop := Claim7.holds Tryz.pinned (.plain (OpenSpec.ofChange interpOfSpec)) interpOfCard

/-- THE TIED CARD OF 'lodestonelaw12.InterpFalls'. -/
def interpFallsCard : Claim7 := { stood := { row := interpFallsRow, standIns := [], harness := (true, "9ffa789f9b0ad479a15b9680ce811fa3a6ed47c5189b09479080b66c9ac1cf8b"), looks := true }, kinds := [], alts := [], laidByText := true, laidKinds := [.data, .pinned], laidTests := true, laidLooks := .later }
def InterpFallsCardSaid : Prop := Claim7.holds Tryz.pinned (.plain (OpenSpec.ofChange interpFallsSpec)) interpFallsCard

/-- THE TIED CARD OF 'lodestonelaw12.InterpParts'. -/
def interpPartsCard : Claim7 := { stood := { row := interpPartsRow, standIns := [], harness := (true, "9ffa789f9b0ad479a15b9680ce811fa3a6ed47c5189b09479080b66c9ac1cf8b"), looks := true }, kinds := [], alts := [], laidByText := true, laidKinds := [.data, .pinned], laidTests := true, laidLooks := .later }
def InterpPartsCardSaid : Prop := Claim7.holds Tryz.pinned (.plain (OpenSpec.ofChange interpPartsSpec)) interpPartsCard

/-- THE TIED CARD OF 'lodestonelaw12.InterpWorth'. -/
def interpWorthCard : Claim7 := { stood := { row := interpWorthRow, standIns := [], harness := (true, "9ffa789f9b0ad479a15b9680ce811fa3a6ed47c5189b09479080b66c9ac1cf8b"), looks := true }, kinds := [], alts := [], laidByText := true, laidKinds := [.data, .pinned], laidTests := true, laidLooks := .later }
def InterpWorthCardSaid : Prop := Claim7.holds Tryz.pinned (.plain (OpenSpec.ofChange interpWorthSpec)) interpWorthCard

/-- THE TIED CARD OF 'lodestonelaw12.InterpSteps'. -/
def interpStepsCard : Claim7 := { stood := { row := interpStepsRow, standIns := [], harness := (true, "9ffa789f9b0ad479a15b9680ce811fa3a6ed47c5189b09479080b66c9ac1cf8b"), looks := true }, kinds := [], alts := [], laidByText := true, laidKinds := [.data, .pinned], laidTests := true, laidLooks := .later }
def InterpStepsCardSaid : Prop := Claim7.holds Tryz.pinned (.plain (OpenSpec.ofChange interpStepsSpec)) interpStepsCard

/-- THE SECOND FORM's CARD OF 'lodestonelaw12.InterpChecks'. -/
def interpChecksUptoCard : Claim7 := { stood := { row := interpChecksUptoRow, standIns := [], harness := (true, "9ffa789f9b0ad479a15b9680ce811fa3a6ed47c5189b09479080b66c9ac1cf8b"), looks := true }, kinds := [], alts := [], laidByText := true, laidKinds := [.data, .pinned], laidTests := true, laidLooks := .later }
def InterpChecksUptoCardSaid : Prop := Claim7.holds Tryz.pinned (.plain (OpenSpec.upto interpChecksSpec)) interpChecksUptoCard

/-- THE SECOND FORM's CARD OF 'lodestonelaw12.InterpOf'. -/
def interpOfUptoCard : Claim7 := { stood := { row := interpOfUptoRow, standIns := [], harness := (true, "9ffa789f9b0ad479a15b9680ce811fa3a6ed47c5189b09479080b66c9ac1cf8b"), looks := true }, kinds := [], alts := [], laidByText := true, laidKinds := [.data, .pinned], laidTests := true, laidLooks := .later }
def InterpOfUptoCardSaid : Prop := Claim7.holds Tryz.pinned (.plain (OpenSpec.upto interpOfSpec)) interpOfUptoCard

/-- THE SECOND FORM's CARD OF 'lodestonelaw12.InterpFalls'. -/
def interpFallsUptoCard : Claim7 := { stood := { row := interpFallsUptoRow, standIns := [], harness := (true, "9ffa789f9b0ad479a15b9680ce811fa3a6ed47c5189b09479080b66c9ac1cf8b"), looks := true }, kinds := [], alts := [], laidByText := true, laidKinds := [.data, .pinned], laidTests := true, laidLooks := .later }
def InterpFallsUptoCardSaid : Prop := Claim7.holds Tryz.pinned (.plain (OpenSpec.upto interpFallsSpec)) interpFallsUptoCard

/-- THE SECOND FORM's CARD OF 'lodestonelaw12.InterpParts'. -/
def interpPartsUptoCard : Claim7 := { stood := { row := interpPartsUptoRow, standIns := [], harness := (true, "9ffa789f9b0ad479a15b9680ce811fa3a6ed47c5189b09479080b66c9ac1cf8b"), looks := true }, kinds := [], alts := [], laidByText := true, laidKinds := [.data, .pinned], laidTests := true, laidLooks := .later }
def InterpPartsUptoCardSaid : Prop := Claim7.holds Tryz.pinned (.plain (OpenSpec.upto interpPartsSpec)) interpPartsUptoCard

/-- THE SECOND FORM's CARD OF 'lodestonelaw12.InterpWorth'. -/
def interpWorthUptoCard : Claim7 := { stood := { row := interpWorthUptoRow, standIns := [], harness := (true, "9ffa789f9b0ad479a15b9680ce811fa3a6ed47c5189b09479080b66c9ac1cf8b"), looks := true }, kinds := [], alts := [], laidByText := true, laidKinds := [.data, .pinned], laidTests := true, laidLooks := .later }
def InterpWorthUptoCardSaid : Prop := Claim7.holds Tryz.pinned (.plain (OpenSpec.upto interpWorthSpec)) interpWorthUptoCard

/-- THE SECOND FORM's CARD OF 'lodestonelaw12.InterpSteps'. -/
def interpStepsUptoCard : Claim7 := { stood := { row := interpStepsUptoRow, standIns := [], harness := (true, "9ffa789f9b0ad479a15b9680ce811fa3a6ed47c5189b09479080b66c9ac1cf8b"), looks := true }, kinds := [], alts := [], laidByText := true, laidKinds := [.data, .pinned], laidTests := true, laidLooks := .later }
def InterpStepsUptoCardSaid : Prop := Claim7.holds Tryz.pinned (.plain (OpenSpec.upto interpStepsSpec)) interpStepsUptoCard
end Rows
end Go.Proofs.YtdjmjhlbjcgoiaaGreatDoor
