/-
  DERIVED. GIVEN WITH THE SEED: THE CARDS: each row of YtcijfaijjpkdoaaDoorRows.lean that lists a variable, with what it lists TIED to the program's text (the seventh form; the later family's looks); each row that meets fmt, with fmt's text TOLD by the authors' own Lean function (tested against real Go, not proved from fmt's source: count such statements apart). THE CARD IS WHAT COUNTS. Prove the row's statement (the work); the ties are given (YtcijfaijjpkdoaaDoorTie.lean); close each card by the builder's one call (the guide's Derived/Test/ToyasCard.lean, 'card_holds'). Laid BY PROGRAM, IN A SANDBOX (cutbox-door.mjs). By AI agents, Wed Nov 11 2026. No macro, syntax, notation, axiom, sorry.
-/
import Derived.Test.YtcijfaijjpkdoaaDoorRows
import GoSem.ClaimSeven
namespace Go.Proofs.YtcijfaijjpkdoaaDoor
namespace Rows

/-- THE TIED CARD OF 'lodestonelaw05.MatchFinds'. -/
def matchFindsCard : Claim7 := { stood := { row := matchFindsRow, standIns := [], harness := (true, "6125199340f0f469307bcf4567ec30fc0e3fb5afe437603799983c09ff2e2510"), looks := true }, kinds := [], alts := [], laidByText := true, laidKinds := [.data, .pinned], laidTests := true, laidLooks := .later }
def MatchFindsCardSaid : Prop := Claim7.holds Tryd.pinned (.plain (OpenSpec.ofChange matchFindsSpec)) matchFindsCard

/-- THE TIED CARD OF 'lodestonelaw05.MatchVariants'. -/
def matchVariantsCard : Claim7 := { stood := { row := matchVariantsRow, standIns := [], harness := (true, "6125199340f0f469307bcf4567ec30fc0e3fb5afe437603799983c09ff2e2510"), looks := true }, kinds := [], alts := [], laidByText := true, laidKinds := [.data, .pinned], laidTests := true, laidLooks := .later }
def MatchVariantsCardSaid : Prop := Claim7.holds Tryd.pinned (.plain (OpenSpec.ofChange matchVariantsSpec)) matchVariantsCard

/-- THE TIED CARD OF 'lodestonelaw05.MatchBack'. -/
def matchBackCard : Claim7 := { stood := { row := matchBackRow, standIns := [], harness := (true, "6125199340f0f469307bcf4567ec30fc0e3fb5afe437603799983c09ff2e2510"), looks := true }, kinds := [], alts := [], laidByText := true, laidKinds := [.data, .pinned], laidTests := true, laidLooks := .later }
def MatchBackCardSaid : Prop := Claim7.holds Tryd.pinned (.plain (OpenSpec.ofChange matchBackSpec)) matchBackCard

/-- THE TIED CARD OF 'lodestonelaw05.MatchKinds'. -/
def matchKindsCard : Claim7 := { stood := { row := matchKindsRow, standIns := [], harness := (true, "6125199340f0f469307bcf4567ec30fc0e3fb5afe437603799983c09ff2e2510"), looks := true }, kinds := [], alts := [], laidByText := true, laidKinds := [.data, .pinned], laidTests := true, laidLooks := .later }
def MatchKindsCardSaid : Prop := Claim7.holds Tryd.pinned (.plain (OpenSpec.ofChange matchKindsSpec)) matchKindsCard

/-- THE TIED CARD OF 'lodestonelaw05.MatchInside'. -/
def matchInsideCard : Claim7 := { stood := { row := matchInsideRow, standIns := [], harness := (true, "6125199340f0f469307bcf4567ec30fc0e3fb5afe437603799983c09ff2e2510"), looks := true }, kinds := [], alts := [], laidByText := true, laidKinds := [.data, .pinned], laidTests := true, laidLooks := .later }
def MatchInsideCardSaid : Prop := Claim7.holds Tryd.pinned (.plain (OpenSpec.ofChange matchInsideSpec)) matchInsideCard

/-- THE TIED CARD OF 'lodestonelaw06.UnifyFinds'. -/
def unifyFindsCard : Claim7 := { stood := { row := unifyFindsRow, standIns := [], harness := (true, "6125199340f0f469307bcf4567ec30fc0e3fb5afe437603799983c09ff2e2510"), looks := true }, kinds := [], alts := [], laidByText := true, laidKinds := [.data, .pinned], laidTests := true, laidLooks := .later }
def UnifyFindsCardSaid : Prop := Claim7.holds Tryd.pinned (.plain (OpenSpec.ofChange unifyFindsSpec)) unifyFindsCard

/-- THE SECOND FORM's CARD OF 'lodestonelaw05.MatchFinds'. -/
def matchFindsUptoCard : Claim7 := { stood := { row := matchFindsUptoRow, standIns := [], harness := (true, "6125199340f0f469307bcf4567ec30fc0e3fb5afe437603799983c09ff2e2510"), looks := true }, kinds := [], alts := [], laidByText := true, laidKinds := [.data, .pinned], laidTests := true, laidLooks := .later }
def MatchFindsUptoCardSaid : Prop := Claim7.holds Tryd.pinned (.plain (OpenSpec.upto matchFindsSpec)) matchFindsUptoCard

/-- THE SECOND FORM's CARD OF 'lodestonelaw05.MatchVariants'. -/
def matchVariantsUptoCard : Claim7 := { stood := { row := matchVariantsUptoRow, standIns := [], harness := (true, "6125199340f0f469307bcf4567ec30fc0e3fb5afe437603799983c09ff2e2510"), looks := true }, kinds := [], alts := [], laidByText := true, laidKinds := [.data, .pinned], laidTests := true, laidLooks := .later }
def MatchVariantsUptoCardSaid : Prop := Claim7.holds Tryd.pinned (.plain (OpenSpec.upto matchVariantsSpec)) matchVariantsUptoCard

/-- THE SECOND FORM's CARD OF 'lodestonelaw05.MatchBack'. -/
def matchBackUptoCard : Claim7 := { stood := { row := matchBackUptoRow, standIns := [], harness := (true, "6125199340f0f469307bcf4567ec30fc0e3fb5afe437603799983c09ff2e2510"), looks := true }, kinds := [], alts := [], laidByText := true, laidKinds := [.data, .pinned], laidTests := true, laidLooks := .later }
def MatchBackUptoCardSaid : Prop := Claim7.holds Tryd.pinned (.plain (OpenSpec.upto matchBackSpec)) matchBackUptoCard

/-- THE SECOND FORM's CARD OF 'lodestonelaw05.MatchKinds'. -/
def matchKindsUptoCard : Claim7 := { stood := { row := matchKindsUptoRow, standIns := [], harness := (true, "6125199340f0f469307bcf4567ec30fc0e3fb5afe437603799983c09ff2e2510"), looks := true }, kinds := [], alts := [], laidByText := true, laidKinds := [.data, .pinned], laidTests := true, laidLooks := .later }
def MatchKindsUptoCardSaid : Prop := Claim7.holds Tryd.pinned (.plain (OpenSpec.upto matchKindsSpec)) matchKindsUptoCard

/-- THE SECOND FORM's CARD OF 'lodestonelaw05.MatchInside'. -/
def matchInsideUptoCard : Claim7 := { stood := { row := matchInsideUptoRow, standIns := [], harness := (true, "6125199340f0f469307bcf4567ec30fc0e3fb5afe437603799983c09ff2e2510"), looks := true }, kinds := [], alts := [], laidByText := true, laidKinds := [.data, .pinned], laidTests := true, laidLooks := .later }
def MatchInsideUptoCardSaid : Prop := Claim7.holds Tryd.pinned (.plain (OpenSpec.upto matchInsideSpec)) matchInsideUptoCard

/-- THE SECOND FORM's CARD OF 'lodestonelaw06.UnifyFinds'. -/
def unifyFindsUptoCard : Claim7 := { stood := { row := unifyFindsUptoRow, standIns := [], harness := (true, "6125199340f0f469307bcf4567ec30fc0e3fb5afe437603799983c09ff2e2510"), looks := true }, kinds := [], alts := [], laidByText := true, laidKinds := [.data, .pinned], laidTests := true, laidLooks := .later }
def UnifyFindsUptoCardSaid : Prop := Claim7.holds Tryd.pinned (.plain (OpenSpec.upto unifyFindsSpec)) unifyFindsUptoCard
end Rows
end Go.Proofs.YtcijfaijjpkdoaaDoor
