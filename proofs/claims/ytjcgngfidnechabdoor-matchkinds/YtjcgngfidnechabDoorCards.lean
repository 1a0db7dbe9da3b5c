/-
  DERIVED. GIVEN WITH THE SEED: THE CARDS: each row of YtjcgngfidnechabDoorRows.lean that lists a variable, with what it lists TIED to the program's text (the seventh form; the later family's looks); each row that meets fmt, with fmt's text TOLD by the authors' own Lean function (tested against real Go, not proved from fmt's source: count such statements apart). THE CARD IS WHAT COUNTS. Prove the row's statement (the work); the ties are given (YtjcgngfidnechabDoorTie.lean); close each card by the builder's one call (the guide's Derived/Test/ToyasCard.lean, 'card_holds'). Laid BY PROGRAM, IN A SANDBOX (cutbox-door.mjs). By AI agents, Wed Nov 11 2026. No macro, syntax, notation, axiom, sorry.
-/
import Derived.Test.YtjcgngfidnechabDoorRows
import GoSem.ClaimSeven
namespace Go.Proofs.YtjcgngfidnechabDoor
namespace Rows

/-- THE TIED CARD OF 'lodestonelaw03.TermRight'. -/
def termRightCard : Claim7 := { stood := { row := termRightRow, standIns := [], harness := (true, "a2ed021e8d74379f9881bd6da0a953dfc9630fe236495a3a9e2a9a0c422c2b88"), looks := true }, kinds := [], alts := [], laidByText := true, laidKinds := [.data, .pinned], laidTests := true, laidLooks := .later }
def TermRightCardSaid : Prop := Claim7.holds Tryd.pinned (.plain (OpenSpec.ofChange termRightSpec)) termRightCard

/-- THE TIED CARD OF 'lodestonelaw05.MatchFinds'. -/
def matchFindsCard : Claim7 := { stood := { row := matchFindsRow, standIns := [], harness := (true, "a2ed021e8d74379f9881bd6da0a953dfc9630fe236495a3a9e2a9a0c422c2b88"), looks := true }, kinds := [], alts := [], laidByText := true, laidKinds := [.data, .pinned], laidTests := true, laidLooks := .later }
def MatchFindsCardSaid : Prop := Claim7.holds Tryd.pinned (.plain (OpenSpec.ofChange matchFindsSpec)) matchFindsCard

/-- THE TIED CARD OF 'lodestonelaw05.MatchVariants'. -/
def matchVariantsCard : Claim7 := { stood := { row := matchVariantsRow, standIns := [], harness := (true, "a2ed021e8d74379f9881bd6da0a953dfc9630fe236495a3a9e2a9a0c422c2b88"), looks := true }, kinds := [], alts := [], laidByText := true, laidKinds := [.data, .pinned], laidTests := true, laidLooks := .later }
def MatchVariantsCardSaid : Prop := Claim7.holds Tryd.pinned (.plain (OpenSpec.ofChange matchVariantsSpec)) matchVariantsCard

/-- THE TIED CARD OF 'lodestonelaw05.MatchBack'. -/
def matchBackCard : Claim7 := { stood := { row := matchBackRow, standIns := [], harness := (true, "a2ed021e8d74379f9881bd6da0a953dfc9630fe236495a3a9e2a9a0c422c2b88"), looks := true }, kinds := [], alts := [], laidByText := true, laidKinds := [.data, .pinned], laidTests := true, laidLooks := .later }
def MatchBackCardSaid : Prop := Claim7.holds Tryd.pinned (.plain (OpenSpec.ofChange matchBackSpec)) matchBackCard

/-- THE TIED CARD OF 'lodestonelaw05.MatchKinds'. -/
def matchKindsCard : Claim7 := { stood := { row := matchKindsRow, standIns := [], harness := (true, "a2ed021e8d74379f9881bd6da0a953dfc9630fe236495a3a9e2a9a0c422c2b88"), looks := true }, kinds := [], alts := [], laidByText := true, laidKinds := [.data, .pinned], laidTests := true, laidLooks := .later }
def MatchKindsCardSaid : Prop := Claim7.holds Tryd.pinned (.plain (OpenSpec.ofChange matchKindsSpec)) matchKindsCard

/-- THE TIED CARD OF 'lodestonelaw05.MatchInside'. -/
def matchInsideCard : Claim7 := { stood := { row := matchInsideRow, standIns := [], harness := (true, "a2ed021e8d74379f9881bd6da0a953dfc9630fe236495a3a9e2a9a0c422c2b88"), looks := true }, kinds := [], alts := [], laidByText := true, laidKinds := [.data, .pinned], laidTests := true, laidLooks := .later }
def MatchInsideCardSaid : Prop := Claim7.holds Tryd.pinned (.plain (OpenSpec.ofChange matchInsideSpec)) matchInsideCard

/-- THE SECOND FORM's CARD OF 'lodestonelaw03.TermRight'. -/
def termRightUptoCard : Claim7 := { stood := { row := termRightUptoRow, standIns := [], harness := (true, "a2ed021e8d74379f9881bd6da0a953dfc9630fe236495a3a9e2a9a0c422c2b88"), looks := true }, kinds := [], alts := [], laidByText := true, laidKinds := [.data, .pinned], laidTests := true, laidLooks := .later }
def TermRightUptoCardSaid : Prop := Claim7.holds Tryd.pinned (.plain (OpenSpec.upto termRightSpec)) termRightUptoCard

/-- THE SECOND FORM's CARD OF 'lodestonelaw05.MatchFinds'. -/
def matchFindsUptoCard : Claim7 := { stood := { row := matchFindsUptoRow, standIns := [], harness := (true, "a2ed021e8d74379f9881bd6da0a953dfc9630fe236495a3a9e2a9a0c422c2b88"), looks := true }, kinds := [], alts := [], laidByText := true, laidKinds := [.data, .pinned], laidTests := true, laidLooks := .later }
def MatchFindsUptoCardSaid : Prop := Claim7.holds Tryd.pinned (.plain (OpenSpec.upto matchFindsSpec)) matchFindsUptoCard

/-- THE SECOND FORM's CARD OF 'lodestonelaw05.MatchVariants'. -/
def matchVariantsUptoCard : Claim7 := { stood := { row := matchVariantsUptoRow, standIns := [], harness := (true, "a2ed021e8d74379f9881bd6da0a953dfc9630fe236495a3a9e2a9a0c422c2b88"), looks := true }, kinds := [], alts := [], laidByText := true, laidKinds := [.data, .pinned], laidTests := true, laidLooks := .later }
def MatchVariantsUptoCardSaid : Prop := Claim7.holds Tryd.pinned (.plain (OpenSpec.upto matchVariantsSpec)) matchVariantsUptoCard

/-- THE SECOND FORM's CARD OF 'lodestonelaw05.MatchBack'. -/
def matchBackUptoCard : Claim7 := { stood := { row := matchBackUptoRow, standIns := [], harness := (true, "a2ed021e8d74379f9881bd6da0a953dfc9630fe236495a3a9e2a9a0c422c2b88"), looks := true }, kinds := [], alts := [], laidByText := true, laidKinds := [.data, .pinned], laidTests := true, laidLooks := .later }
def MatchBackUptoCardSaid : Prop := Claim7.holds Tryd.pinned (.plain (OpenSpec.upto matchBackSpec)) matchBackUptoCard

/-- THE SECOND FORM's CARD OF 'lodestonelaw05.MatchKinds'. -/
def matchKindsUptoCard : Claim7 := { stood := { row := matchKindsUptoRow, standIns := [], harness := (true, "a2ed021e8d74379f9881bd6da0a953dfc9630fe236495a3a9e2a9a0c422c2b88"), looks := true }, kinds := [], alts := [], laidByText := true, laidKinds := [.data, .pinned], laidTests := true, laidLooks := .later }
def MatchKindsUptoCardSaid : Prop := Claim7.holds Tryd.pinned (.plain (OpenSpec.upto matchKindsSpec)) matchKindsUptoCard

/-- THE SECOND FORM's CARD OF 'lodestonelaw05.MatchInside'. -/
def matchInsideUptoCard : Claim7 := { stood := { row := matchInsideUptoRow, standIns := [], harness := (true, "a2ed021e8d74379f9881bd6da0a953dfc9630fe236495a3a9e2a9a0c422c2b88"), looks := true }, kinds := [], alts := [], laidByText := true, laidKinds := [.data, .pinned], laidTests := true, laidLooks := .later }
def MatchInsideUptoCardSaid : Prop := Claim7.holds Tryd.pinned (.plain (OpenSpec.upto matchInsideSpec)) matchInsideUptoCard
end Rows
end Go.Proofs.YtjcgngfidnechabDoor
