/-
  DERIVED. GIVEN WITH THE SEED: THE CARDS: each row of YtcoaabgaolblfaaDoorRows.lean that lists a variable, with what it lists TIED to the program's text (the seventh form; the later family's looks); each row that meets fmt, with fmt's text TOLD by the authors' own Lean function (tested against real Go, not proved from fmt's source: count such statements apart). THE CARD IS WHAT COUNTS. Prove the row's statement (the work); the ties are given (YtcoaabgaolblfaaDoorTie.lean); close each card by the builder's one call (the guide's Derived/Test/ToyasCard.lean, 'card_holds'). Laid BY PROGRAM, IN A SANDBOX (cutbox-door.mjs). By AI agents, Wed Nov 11 2026. No macro, syntax, notation, axiom, sorry.
-/
import Derived.Test.YtcoaabgaolblfaaDoorRows
import GoSem.ClaimSeven
namespace Go.Proofs.YtcoaabgaolblfaaDoor
namespace Rows

/-- THE TIED CARD OF 'lodestonelaw11.LpoGreater'. -/
def lpoGreaterCard : Claim7 := { stood := { row := lpoGreaterRow, standIns := [], harness := (true, "d9b3aa139dce4bf9b1e72c08cb61ca546f2dab98de31ed72425b2c8899df761b"), looks := true }, kinds := [], alts := [], laidByText := true, laidKinds := [.data, .pinned], laidTests := true, laidLooks := .later }
def LpoGreaterCardSaid : Prop := Claim7.holds Tryd.pinned (.plain (OpenSpec.ofChange lpoGreaterSpec)) lpoGreaterCard

/-- THE TIED CARD OF 'lodestonelaw11.LpoOrients'. -/
def lpoOrientsCard : Claim7 := { stood := { row := lpoOrientsRow, standIns := [], harness := (true, "d9b3aa139dce4bf9b1e72c08cb61ca546f2dab98de31ed72425b2c8899df761b"), looks := true }, kinds := [], alts := [], laidByText := true, laidKinds := [.data, .pinned], laidTests := true, laidLooks := .later }
def LpoOrientsCardSaid : Prop := Claim7.holds Tryd.pinned (.plain (OpenSpec.ofChange lpoOrientsSpec)) lpoOrientsCard

/-- THE SECOND FORM's CARD OF 'lodestonelaw11.LpoGreater'. -/
def lpoGreaterUptoCard : Claim7 := { stood := { row := lpoGreaterUptoRow, standIns := [], harness := (true, "d9b3aa139dce4bf9b1e72c08cb61ca546f2dab98de31ed72425b2c8899df761b"), looks := true }, kinds := [], alts := [], laidByText := true, laidKinds := [.data, .pinned], laidTests := true, laidLooks := .later }
def LpoGreaterUptoCardSaid : Prop := Claim7.holds Tryd.pinned (.plain (OpenSpec.upto lpoGreaterSpec)) lpoGreaterUptoCard

/-- THE SECOND FORM's CARD OF 'lodestonelaw11.LpoOrients'. -/
def lpoOrientsUptoCard : Claim7 := { stood := { row := lpoOrientsUptoRow, standIns := [], harness := (true, "d9b3aa139dce4bf9b1e72c08cb61ca546f2dab98de31ed72425b2c8899df761b"), looks := true }, kinds := [], alts := [], laidByText := true, laidKinds := [.data, .pinned], laidTests := true, laidLooks := .later }
def LpoOrientsUptoCardSaid : Prop := Claim7.holds Tryd.pinned (.plain (OpenSpec.upto lpoOrientsSpec)) lpoOrientsUptoCard
end Rows
end Go.Proofs.YtcoaabgaolblfaaDoor
