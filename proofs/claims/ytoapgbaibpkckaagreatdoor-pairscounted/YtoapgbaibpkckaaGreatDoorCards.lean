/-
  DERIVED. GIVEN WITH THE SEED: THE CARDS: each row of YtoapgbaibpkckaaGreatDoorRows.lean that lists a variable, with what it lists TIED to the program's text (the seventh form; the later family's looks); each row that meets fmt, with fmt's text TOLD by the authors' own Lean function (tested against real Go, not proved from fmt's source: count such statements apart). THE CARD IS WHAT COUNTS. Prove the row's statement (the work); the ties are given (YtoapgbaibpkckaaGreatDoorTie.lean); close each card by the builder's one call (the guide's Derived/Test/ToyasCard.lean, 'card_holds'). Laid BY PROGRAM, IN A SANDBOX (cutbox-door.mjs). By AI agents, Wed Nov 11 2026. No macro, syntax, notation, axiom, sorry.
-/
import Derived.Test.YtoapgbaibpkckaaGreatDoorRows
import GoSem.ClaimSeven
namespace Go.Proofs.YtoapgbaibpkckaaGreatDoor
namespace Rows

/-- THE TIED CARD OF 'lodestonelaw13.PairsExtend'. -/
def pairsExtendCard : Claim7 := { stood := { row := pairsExtendRow, standIns := [], harness := (true, "ab0b2341646694f008ea77f287f157b6d41570d1c9e0f7d589a03f2508c51fe4"), looks := true }, kinds := [], alts := [], laidByText := true, laidKinds := [.data, .pinned], laidTests := true, laidLooks := .later }
def PairsExtendCardSaid : Prop := Claim7.holds Tryz.pinned (.plain (OpenSpec.ofChange pairsExtendSpec)) pairsExtendCard

/-- THE TIED CARD OF 'lodestonelaw13.PairsOf'. -/
def pairsOfCard : Claim7 := { stood := { row := pairsOfRow, standIns := [], harness := (true, "ab0b2341646694f008ea77f287f157b6d41570d1c9e0f7d589a03f2508c51fe4"), looks := true }, kinds := [], alts := [], laidByText := true, laidKinds := [.data, .pinned], laidTests := true, laidLooks := .later }
def PairsOfCardSaid : Prop := Claim7.holds Tryz.pinned (.plain (OpenSpec.ofChange pairsOfSpec)) pairsOfCard

/-- THE TIED CARD OF 'lodestonelaw13.PairsEdges'. -/
def pairsEdgesCard : Claim7 := { stood := { row := pairsEdgesRow, standIns := [], harness := (true, "ab0b2341646694f008ea77f287f157b6d41570d1c9e0f7d589a03f2508c51fe4"), looks := true }, kinds := [], alts := [], laidByText := true, laidKinds := [.data, .pinned], laidTests := true, laidLooks := .later }
def PairsEdgesCardSaid : Prop := Claim7.holds Tryz.pinned (.plain (OpenSpec.ofChange pairsEdgesSpec)) pairsEdgesCard

/-- THE TIED CARD OF 'lodestonelaw13.PairsGraph'. -/
def pairsGraphCard : Claim7 := { stood := { row := pairsGraphRow, standIns := [], harness := (true, "ab0b2341646694f008ea77f287f157b6d41570d1c9e0f7d589a03f2508c51fe4"), looks := true }, kinds := [], alts := [], laidByText := true, laidKinds := [.data, .pinned], laidTests := true, laidLooks := .later }
def PairsGraphCardSaid : Prop := Claim7.holds Tryz.pinned (.plain (OpenSpec.ofChange pairsGraphSpec)) pairsGraphCard

/-- THE TIED CARD OF 'lodestonelaw13.PairsFollow'. -/
def pairsFollowCard : Claim7 := { stood := { row := pairsFollowRow, standIns := [], harness := (true, "ab0b2341646694f008ea77f287f157b6d41570d1c9e0f7d589a03f2508c51fe4"), looks := true }, kinds := [], alts := [], laidByText := true, laidKinds := [.data, .pinned], laidTests := true, laidLooks := .later }
def PairsFollowCardSaid : Prop := Claim7.holds Tryz.pinned (.plain (OpenSpec.ofChange pairsFollowSpec)) pairsFollowCard

/-- THE TIED CARD OF 'lodestonelaw13.PairsCounted'. -/
def pairsCountedCard : Claim7 := { stood := { row := pairsCountedRow, standIns := [], harness := (true, "ab0b2341646694f008ea77f287f157b6d41570d1c9e0f7d589a03f2508c51fe4"), looks := true }, kinds := [], alts := [], laidByText := true, laidKinds := [.data, .pinned], laidTests := true, laidLooks := .later }
def PairsCountedCardSaid : Prop := Claim7.holds Tryz.pinned (.plain (OpenSpec.ofChange pairsCountedSpec)) pairsCountedCard

/-- THE SECOND FORM's CARD OF 'lodestonelaw13.PairsExtend'. -/
def pairsExtendUptoCard : Claim7 := { stood := { row := pairsExtendUptoRow, standIns := [], harness := (true, "ab0b2341646694f008ea77f287f157b6d41570d1c9e0f7d589a03f2508c51fe4"), looks := true }, kinds := [], alts := [], laidByText := true, laidKinds := [.data, .pinned], laidTests := true, laidLooks := .later }
def PairsExtendUptoCardSaid : Prop := Claim7.holds Tryz.pinned (.plain (OpenSpec.upto pairsExtendSpec)) pairsExtendUptoCard

/-- THE SECOND FORM's CARD OF 'lodestonelaw13.PairsOf'. -/
def pairsOfUptoCard : Claim7 := { stood := { row := pairsOfUptoRow, standIns := [], harness := (true, "ab0b2341646694f008ea77f287f157b6d41570d1c9e0f7d589a03f2508c51fe4"), looks := true }, kinds := [], alts := [], laidByText := true, laidKinds := [.data, .pinned], laidTests := true, laidLooks := .later }
def PairsOfUptoCardSaid : Prop := Claim7.holds Tryz.pinned (.plain (OpenSpec.upto pairsOfSpec)) pairsOfUptoCard

/-- THE SECOND FORM's CARD OF 'lodestonelaw13.PairsEdges'. -/
def pairsEdgesUptoCard : Claim7 := { stood := { row := pairsEdgesUptoRow, standIns := [], harness := (true, "ab0b2341646694f008ea77f287f157b6d41570d1c9e0f7d589a03f2508c51fe4"), looks := true }, kinds := [], alts := [], laidByText := true, laidKinds := [.data, .pinned], laidTests := true, laidLooks := .later }
def PairsEdgesUptoCardSaid : Prop := Claim7.holds Tryz.pinned (.plain (OpenSpec.upto pairsEdgesSpec)) pairsEdgesUptoCard

/-- THE SECOND FORM's CARD OF 'lodestonelaw13.PairsGraph'. -/
def pairsGraphUptoCard : Claim7 := { stood := { row := pairsGraphUptoRow, standIns := [], harness := (true, "ab0b2341646694f008ea77f287f157b6d41570d1c9e0f7d589a03f2508c51fe4"), looks := true }, kinds := [], alts := [], laidByText := true, laidKinds := [.data, .pinned], laidTests := true, laidLooks := .later }
def PairsGraphUptoCardSaid : Prop := Claim7.holds Tryz.pinned (.plain (OpenSpec.upto pairsGraphSpec)) pairsGraphUptoCard

/-- THE SECOND FORM's CARD OF 'lodestonelaw13.PairsFollow'. -/
def pairsFollowUptoCard : Claim7 := { stood := { row := pairsFollowUptoRow, standIns := [], harness := (true, "ab0b2341646694f008ea77f287f157b6d41570d1c9e0f7d589a03f2508c51fe4"), looks := true }, kinds := [], alts := [], laidByText := true, laidKinds := [.data, .pinned], laidTests := true, laidLooks := .later }
def PairsFollowUptoCardSaid : Prop := Claim7.holds Tryz.pinned (.plain (OpenSpec.upto pairsFollowSpec)) pairsFollowUptoCard

/-- THE SECOND FORM's CARD OF 'lodestonelaw13.PairsCounted'. -/
def pairsCountedUptoCard : Claim7 := { stood := { row := pairsCountedUptoRow, standIns := [], harness := (true, "ab0b2341646694f008ea77f287f157b6d41570d1c9e0f7d589a03f2508c51fe4"), looks := true }, kinds := [], alts := [], laidByText := true, laidKinds := [.data, .pinned], laidTests := true, laidLooks := .later }
def PairsCountedUptoCardSaid : Prop := Claim7.holds Tryz.pinned (.plain (OpenSpec.upto pairsCountedSpec)) pairsCountedUptoCard
end Rows
end Go.Proofs.YtoapgbaibpkckaaGreatDoor
