/-
  No cell of these rows narrows 'for every input' (looked for: loops, veiled, ifaces, maps, wideKeys, modest, calm, conditions, laid).
  DERIVED. THE GIVEN ROWS OF THIS SEAT. 3 by the template 'for every input the law returns true; each argument reads behind the call as it read before'; 0 by the template 'total and deterministic' (their statements: YtfifgmcjilkigabTotals.lean).
  GIVEN WITH THE SEED: the statements are not yours to turn. If you find one false, say at which input.
  Laid BY PROGRAM, IN A SANDBOX (cutbox-rows.mjs): the forced cells as the released guide's own fill.sh prints them over the translation 2ecdf8409b87eac0… (all of the seat's roots in one cut). By AI agents, Wed Nov 11 2026. No macro, syntax, notation, axiom, sorry.
-/
import Derived.Test.YtfifgmcjilkigabChecked
import GoSem.Claim
import GoSem.ClaimJoined
import GoSem.ClaimMapViews
import Derived.JoinedTies
import Derived.KernelRfl
namespace Go.Proofs.Ytfifgmcjilkigab
/- THE CELL 'sum', in the pinned program and in every row, IS THE sha256 OF THE DUMP (.gsa) THAT YtfifgmcjilkigabProg.lean LOADS. Nothing in Lean hashes anything: it is a label: what it is worth is what the hold of that sum in a sandbox is worth. -/
noncomputable def Try.pinned : Pinned := { name := "ytfifgmcjilkigab", sum := "2ecdf8409b87eac05b952c4e943b61f44de547269fe773e79d17c692c3ce35e8", checked := Try.checked }
namespace Rows
def none {H : Type} : Left H := { results := [], args := [] }

/-- 'lodestonelaw02.PolyWorth': WHATEVER THE INPUT: true; the input reads as it did. -/
def polyWorthSpec : ChangeSpec := { name := "polyWorth", fn := fun _ => fun
  | [d1, d2, d3] => { results := [.lit (.bool true)], args := [d1, d2, d3] }
  | _ => none }
def polyWorthRow : OpenClaim := { program := "ytfifgmcjilkigab", sum := "2ecdf8409b87eac05b952c4e943b61f44de547269fe773e79d17c692c3ce35e8", func := "lodestone/lodestonelaw02.PolyWorth", spec := "polyWorth", inPlace := ["internal/bytealg.Compare"], unfollowed := true, recurses := true, plainKeys := false, apart := false }
def PolyWorthSaid : Prop := polyWorthRow.holds Try.pinned (OpenSpec.ofChange polyWorthSpec)

/-- ITS FALSE NEIGHBOUR: 'it returns false'. Refute it at one input. -/
def polyWorthWrong : ChangeSpec := { name := "polyWorth", fn := fun _ => fun
  | [d1, d2, d3] => { results := [.lit (.bool false)], args := [d1, d2, d3] }
  | _ => none }
def PolyWorthWrongFalsely : Prop := polyWorthRow.holds Try.pinned (OpenSpec.ofChange polyWorthWrong)

/-- 'lodestonelaw02.PolyInside': WHATEVER THE INPUT: true; the input reads as it did. -/
def polyInsideSpec : ChangeSpec := { name := "polyInside", fn := fun _ => fun
  | [d1, d2, d3] => { results := [.lit (.bool true)], args := [d1, d2, d3] }
  | _ => none }
def polyInsideRow : OpenClaim := { program := "ytfifgmcjilkigab", sum := "2ecdf8409b87eac05b952c4e943b61f44de547269fe773e79d17c692c3ce35e8", func := "lodestone/lodestonelaw02.PolyInside", spec := "polyInside", inPlace := ["internal/bytealg.Compare"], unfollowed := true, recurses := true, plainKeys := false, apart := false }
def PolyInsideSaid : Prop := polyInsideRow.holds Try.pinned (OpenSpec.ofChange polyInsideSpec)

/-- ITS FALSE NEIGHBOUR: 'it returns false'. Refute it at one input. -/
def polyInsideWrong : ChangeSpec := { name := "polyInside", fn := fun _ => fun
  | [d1, d2, d3] => { results := [.lit (.bool false)], args := [d1, d2, d3] }
  | _ => none }
def PolyInsideWrongFalsely : Prop := polyInsideRow.holds Try.pinned (OpenSpec.ofChange polyInsideWrong)

/-- 'lodestonelaw02.PolyGreater': WHATEVER THE INPUT: true; the input reads as it did. -/
def polyGreaterSpec : ChangeSpec := { name := "polyGreater", fn := fun _ => fun
  | [d1, d2, d3] => { results := [.lit (.bool true)], args := [d1, d2, d3] }
  | _ => none }
def polyGreaterRow : OpenClaim := { program := "ytfifgmcjilkigab", sum := "2ecdf8409b87eac05b952c4e943b61f44de547269fe773e79d17c692c3ce35e8", func := "lodestone/lodestonelaw02.PolyGreater", spec := "polyGreater", inPlace := ["internal/bytealg.Compare"], unfollowed := true, recurses := true, plainKeys := false, apart := false }
def PolyGreaterSaid : Prop := polyGreaterRow.holds Try.pinned (OpenSpec.ofChange polyGreaterSpec)

/-- ITS FALSE NEIGHBOUR: 'it returns false'. Refute it at one input. -/
def polyGreaterWrong : ChangeSpec := { name := "polyGreater", fn := fun _ => fun
  | [d1, d2, d3] => { results := [.lit (.bool false)], args := [d1, d2, d3] }
  | _ => none }
def PolyGreaterWrongFalsely : Prop := polyGreaterRow.holds Try.pinned (OpenSpec.ofChange polyGreaterWrong)

/- THE SECOND FORM. 'bulk': how many values and letters a reading holds, each counted each time it is reached (what is shared counts as often as it is met; a slice's spare places count too). A statement '..UptoSaid' is the law's where the arguments, and the package variables that the reading takes, are together of bulk at most 1048576: NARROWER than '..Said'. Prove '..Said' where nothing that the law and all that it calls make is longer than what came in: it says more and counts as full. Else prove '..UptoSaid'. A law counts once. -/
mutual
def uptoBulk {H : Type} : DataW H → Nat
  | .lit (.string bytes) => bytes.length + 1
  | .lit _ => 1
  | .nil => 1
  | .ptr d => uptoBulk d + 1
  | .slice elems spare => uptoBulkAll elems + uptoBulkAll spare + 1
  | .agg parts => uptoBulkAll parts + 1
  | .iface _ d => uptoBulk d + 1
  | .map entries => uptoBulkEntries entries + 1
  | .held _ => 1
def uptoBulkAll {H : Type} : List (DataW H) → Nat
  | [] => 0
  | d :: r => uptoBulk d + uptoBulkAll r
def uptoBulkEntries {H : Type} : List (Lit × DataW H) → Nat
  | [] => 0
  | x :: r => uptoBulkEntry x + uptoBulkEntries r
def uptoBulkEntry {H : Type} : Lit × DataW H → Nat
  | (.string bytes, d) => bytes.length + uptoBulk d + 1
  | (_, d) => uptoBulk d + 1
 end
def uptoSmall : (H : Type) → List (DataW H) → Bool := fun _ ds => decide (uptoBulkAll ds ≤ 1048576)
def OpenSpec.upto (s : _root_.Go.ChangeSpec) : _root_.Go.OpenSpec := { _root_.Go.OpenSpec.ofChange s with cond := some uptoSmall }

/-- 'lodestonelaw02.PolyWorth', WHERE WHAT IT READS IS OF BULK AT MOST 1048576: true; the input reads as it did. -/
def polyWorthUptoRow : OpenClaim := { program := "ytfifgmcjilkigab", sum := "2ecdf8409b87eac05b952c4e943b61f44de547269fe773e79d17c692c3ce35e8", func := "lodestone/lodestonelaw02.PolyWorth", spec := "polyWorth", inPlace := ["internal/bytealg.Compare"], unfollowed := true, recurses := true, plainKeys := false, apart := false, narrowed := true }
def PolyWorthUptoSaid : Prop := polyWorthUptoRow.holds Try.pinned (OpenSpec.upto polyWorthSpec)

/-- 'lodestonelaw02.PolyInside', WHERE WHAT IT READS IS OF BULK AT MOST 1048576: true; the input reads as it did. -/
def polyInsideUptoRow : OpenClaim := { program := "ytfifgmcjilkigab", sum := "2ecdf8409b87eac05b952c4e943b61f44de547269fe773e79d17c692c3ce35e8", func := "lodestone/lodestonelaw02.PolyInside", spec := "polyInside", inPlace := ["internal/bytealg.Compare"], unfollowed := true, recurses := true, plainKeys := false, apart := false, narrowed := true }
def PolyInsideUptoSaid : Prop := polyInsideUptoRow.holds Try.pinned (OpenSpec.upto polyInsideSpec)

/-- 'lodestonelaw02.PolyGreater', WHERE WHAT IT READS IS OF BULK AT MOST 1048576: true; the input reads as it did. -/
def polyGreaterUptoRow : OpenClaim := { program := "ytfifgmcjilkigab", sum := "2ecdf8409b87eac05b952c4e943b61f44de547269fe773e79d17c692c3ce35e8", func := "lodestone/lodestonelaw02.PolyGreater", spec := "polyGreater", inPlace := ["internal/bytealg.Compare"], unfollowed := true, recurses := true, plainKeys := false, apart := false, narrowed := true }
def PolyGreaterUptoSaid : Prop := polyGreaterUptoRow.holds Try.pinned (OpenSpec.upto polyGreaterSpec)

end Rows
end Go.Proofs.Ytfifgmcjilkigab
