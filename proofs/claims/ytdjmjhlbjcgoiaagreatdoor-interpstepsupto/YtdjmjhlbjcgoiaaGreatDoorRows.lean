/-
  NARROWER THAN 'FOR EVERY INPUT', by the rows' own cells (each row's printed sentence says how): InterpChecks: laid · InterpOf: laid · InterpFalls: laid · InterpParts: laid · InterpWorth: laid · InterpSteps: laid.
  DERIVED. THE GIVEN ROWS OF THIS SEAT. 6 by the template 'for every input the law returns true; each argument reads behind the call as it read before'; 0 by the template 'total and deterministic' (their statements: YtdjmjhlbjcgoiaaGreatDoorTotals.lean).
  GIVEN WITH THE SEED: the statements are not yours to turn. If you find one false, say at which input.
  Laid BY PROGRAM, IN A SANDBOX (cutbox-rows.mjs): the forced cells as the released guide's own fill.sh prints them over the translation 7ac7f36a6f88bd34… (all of the seat's roots in one cut). By AI agents, Wed Nov 11 2026. No macro, syntax, notation, axiom, sorry.
-/
import Derived.Test.YtdjmjhlbjcgoiaaGreatDoorChecked
import GoSem.PinnedTables
import GoSem.Claim
import GoSem.ClaimJoined
import GoSem.ClaimMapViews
import Derived.JoinedTies
import Derived.KernelRfl
namespace Go.Proofs.YtdjmjhlbjcgoiaaGreatDoor
/- THE CELL 'sum', in the pinned program and in every row, IS THE sha256 OF THE DUMP (.gsa) THAT YtdjmjhlbjcgoiaaGreatDoorProg.lean LOADS. Nothing in Lean hashes anything: it is a label: what it is worth is what the hold of that sum in a sandbox is worth. -/
noncomputable def Tryz.pinned : Pinned := { name := "ytdjmjhlbjcgoiaagreatdoor", sum := "7ac7f36a6f88bd3440696742cbc10b942dccb50e67ede7ecd212a5e2239a2b46", checked := Tryz.checked }
namespace Rows
def none {H : Type} : Left H := { results := [], args := [] }

/- WHAT THE LISTED PACKAGE-LEVEL VARIABLES READ AS WHEN THE CALL BEGINS. Each datum BY PROGRAM (the guide's laid-datum.mjs) off the statement by which the dump's own 'gosem.cut.vars' lays the variable. In a bare row this is a premise. The card (YtdjmjhlbjcgoiaaGreatDoorCards.lean) ties it to the program's text. -/
def laid_unicode_utf8_acceptRanges {H : Type} : DataW H := .agg [.agg [.lit (.int .u8 128), .lit (.int .u8 191)], .agg [.lit (.int .u8 160), .lit (.int .u8 191)], .agg [.lit (.int .u8 128), .lit (.int .u8 159)], .agg [.lit (.int .u8 144), .lit (.int .u8 191)], .agg [.lit (.int .u8 128), .lit (.int .u8 143)], .agg [.lit (.int .u8 0), .lit (.int .u8 0)], .agg [.lit (.int .u8 0), .lit (.int .u8 0)], .agg [.lit (.int .u8 0), .lit (.int .u8 0)], .agg [.lit (.int .u8 0), .lit (.int .u8 0)], .agg [.lit (.int .u8 0), .lit (.int .u8 0)], .agg [.lit (.int .u8 0), .lit (.int .u8 0)], .agg [.lit (.int .u8 0), .lit (.int .u8 0)], .agg [.lit (.int .u8 0), .lit (.int .u8 0)], .agg [.lit (.int .u8 0), .lit (.int .u8 0)], .agg [.lit (.int .u8 0), .lit (.int .u8 0)], .agg [.lit (.int .u8 0), .lit (.int .u8 0)]]
/-- One of Go's own tables, pinned by name: the form's constant. -/
def laid_unicode_utf8_first : DataW Unit := Go.Pinned.utf8First

/-- 'lodestonelaw12.InterpChecks': WHATEVER THE INPUT: true; the input reads as it did. -/
def interpChecksSpec : ChangeSpec := { name := "interpChecks", fn := fun _ => fun
  | [d1, d2] => { results := [.lit (.bool true)], args := [d1, d2] }
  | _ => none }
def interpChecksRow : OpenClaim := { program := "ytdjmjhlbjcgoiaagreatdoor", sum := "7ac7f36a6f88bd3440696742cbc10b942dccb50e67ede7ecd212a5e2239a2b46", func := "lodestone/lodestonelaw12.InterpChecks", spec := "interpChecks", inPlace := ["internal/bytealg.Compare"], unfollowed := true, recurses := true, named := ["unicode/utf8.first", "unicode/utf8.acceptRanges"], plainKeys := false, apart := false, laid := [("unicode/utf8.acceptRanges", laid_unicode_utf8_acceptRanges), ("unicode/utf8.first", laid_unicode_utf8_first)] }
def InterpChecksSaid : Prop := interpChecksRow.holds Tryz.pinned (OpenSpec.ofChange interpChecksSpec)

/-- ITS FALSE NEIGHBOUR: 'it returns false'. Refute it at one input. -/
def interpChecksWrong : ChangeSpec := { name := "interpChecks", fn := fun _ => fun
  | [d1, d2] => { results := [.lit (.bool false)], args := [d1, d2] }
  | _ => none }
def InterpChecksWrongFalsely : Prop := interpChecksRow.holds Tryz.pinned (OpenSpec.ofChange interpChecksWrong)

/-- 'lodestonelaw12.InterpOf': WHATEVER THE INPUT: true; the input reads as it did. -/
def interpOfSpec : ChangeSpec := { name := "interpOf", fn := fun _ => fun
  | [d1, d2, d3] => { results := [.lit (.bool true)], args := [d1, d2, d3] }
  | _ => none }
def interpOfRow : OpenClaim := { program := "ytdjmjhlbjcgoiaagreatdoor", sum := "7ac7f36a6f88bd3440696742cbc10b942dccb50e67ede7ecd212a5e2239a2b46", func := "lodestone/lodestonelaw12.InterpOf", spec := "interpOf", inPlace := ["internal/bytealg.Compare"], unfollowed := true, recurses := true, named := ["unicode/utf8.first", "unicode/utf8.acceptRanges"], plainKeys := false, apart := false, laid := [("unicode/utf8.acceptRanges", laid_unicode_utf8_acceptRanges), ("unicode/utf8.first", laid_unicode_utf8_first)] }
def InterpOfSaid : Prop := interpOfRow.holds Tryz.pinned (OpenSpec.ofChange interpOfSpec)

/-- ITS FALSE NEIGHBOUR: 'it returns false'. Refute it at one input. -/
def interpOfWrong : ChangeSpec := { name := "interpOf", fn := fun _ => fun
  | [d1, d2, d3] => { results := [.lit (.bool false)], args := [d1, d2, d3] }
  | _ => none }
def InterpOfWrongFalsely : Prop := interpOfRow.holds Tryz.pinned (OpenSpec.ofChange interpOfWrong)

/-- 'lodestonelaw12.InterpFalls': WHATEVER THE INPUT: true; the input reads as it did. -/
def interpFallsSpec : ChangeSpec := { name := "interpFalls", fn := fun _ => fun
  | [d1, d2, d3] => { results := [.lit (.bool true)], args := [d1, d2, d3] }
  | _ => none }
def interpFallsRow : OpenClaim := { program := "ytdjmjhlbjcgoiaagreatdoor", sum := "7ac7f36a6f88bd3440696742cbc10b942dccb50e67ede7ecd212a5e2239a2b46", func := "lodestone/lodestonelaw12.InterpFalls", spec := "interpFalls", inPlace := ["internal/bytealg.Compare"], unfollowed := true, recurses := true, named := ["unicode/utf8.first", "unicode/utf8.acceptRanges"], plainKeys := false, apart := false, laid := [("unicode/utf8.acceptRanges", laid_unicode_utf8_acceptRanges), ("unicode/utf8.first", laid_unicode_utf8_first)] }
def InterpFallsSaid : Prop := interpFallsRow.holds Tryz.pinned (OpenSpec.ofChange interpFallsSpec)

/-- ITS FALSE NEIGHBOUR: 'it returns false'. Refute it at one input. -/
def interpFallsWrong : ChangeSpec := { name := "interpFalls", fn := fun _ => fun
  | [d1, d2, d3] => { results := [.lit (.bool false)], args := [d1, d2, d3] }
  | _ => none }
def InterpFallsWrongFalsely : Prop := interpFallsRow.holds Tryz.pinned (OpenSpec.ofChange interpFallsWrong)

/-- 'lodestonelaw12.InterpParts': WHATEVER THE INPUT: true; the input reads as it did. -/
def interpPartsSpec : ChangeSpec := { name := "interpParts", fn := fun _ => fun
  | [d1, d2, d3, d4] => { results := [.lit (.bool true)], args := [d1, d2, d3, d4] }
  | _ => none }
def interpPartsRow : OpenClaim := { program := "ytdjmjhlbjcgoiaagreatdoor", sum := "7ac7f36a6f88bd3440696742cbc10b942dccb50e67ede7ecd212a5e2239a2b46", func := "lodestone/lodestonelaw12.InterpParts", spec := "interpParts", inPlace := ["internal/bytealg.Compare"], unfollowed := true, recurses := true, named := ["unicode/utf8.first", "unicode/utf8.acceptRanges"], plainKeys := false, apart := false, laid := [("unicode/utf8.acceptRanges", laid_unicode_utf8_acceptRanges), ("unicode/utf8.first", laid_unicode_utf8_first)] }
def InterpPartsSaid : Prop := interpPartsRow.holds Tryz.pinned (OpenSpec.ofChange interpPartsSpec)

/-- ITS FALSE NEIGHBOUR: 'it returns false'. Refute it at one input. -/
def interpPartsWrong : ChangeSpec := { name := "interpParts", fn := fun _ => fun
  | [d1, d2, d3, d4] => { results := [.lit (.bool false)], args := [d1, d2, d3, d4] }
  | _ => none }
def InterpPartsWrongFalsely : Prop := interpPartsRow.holds Tryz.pinned (OpenSpec.ofChange interpPartsWrong)

/-- 'lodestonelaw12.InterpWorth': WHATEVER THE INPUT: true; the input reads as it did. -/
def interpWorthSpec : ChangeSpec := { name := "interpWorth", fn := fun _ => fun
  | [d1, d2, d3, d4] => { results := [.lit (.bool true)], args := [d1, d2, d3, d4] }
  | _ => none }
def interpWorthRow : OpenClaim := { program := "ytdjmjhlbjcgoiaagreatdoor", sum := "7ac7f36a6f88bd3440696742cbc10b942dccb50e67ede7ecd212a5e2239a2b46", func := "lodestone/lodestonelaw12.InterpWorth", spec := "interpWorth", inPlace := ["internal/bytealg.Compare"], unfollowed := true, recurses := true, named := ["unicode/utf8.first", "unicode/utf8.acceptRanges"], plainKeys := false, apart := false, laid := [("unicode/utf8.acceptRanges", laid_unicode_utf8_acceptRanges), ("unicode/utf8.first", laid_unicode_utf8_first)] }
def InterpWorthSaid : Prop := interpWorthRow.holds Tryz.pinned (OpenSpec.ofChange interpWorthSpec)

/-- ITS FALSE NEIGHBOUR: 'it returns false'. Refute it at one input. -/
def interpWorthWrong : ChangeSpec := { name := "interpWorth", fn := fun _ => fun
  | [d1, d2, d3, d4] => { results := [.lit (.bool false)], args := [d1, d2, d3, d4] }
  | _ => none }
def InterpWorthWrongFalsely : Prop := interpWorthRow.holds Tryz.pinned (OpenSpec.ofChange interpWorthWrong)

/-- 'lodestonelaw12.InterpSteps': WHATEVER THE INPUT: true; the input reads as it did. -/
def interpStepsSpec : ChangeSpec := { name := "interpSteps", fn := fun _ => fun
  | [d1, d2, d3, d4] => { results := [.lit (.bool true)], args := [d1, d2, d3, d4] }
  | _ => none }
def interpStepsRow : OpenClaim := { program := "ytdjmjhlbjcgoiaagreatdoor", sum := "7ac7f36a6f88bd3440696742cbc10b942dccb50e67ede7ecd212a5e2239a2b46", func := "lodestone/lodestonelaw12.InterpSteps", spec := "interpSteps", inPlace := ["internal/bytealg.Compare"], unfollowed := true, recurses := true, named := ["unicode/utf8.first", "unicode/utf8.acceptRanges"], plainKeys := false, apart := false, laid := [("unicode/utf8.acceptRanges", laid_unicode_utf8_acceptRanges), ("unicode/utf8.first", laid_unicode_utf8_first)] }
def InterpStepsSaid : Prop := interpStepsRow.holds Tryz.pinned (OpenSpec.ofChange interpStepsSpec)

/-- ITS FALSE NEIGHBOUR: 'it returns false'. Refute it at one input. -/
def interpStepsWrong : ChangeSpec := { name := "interpSteps", fn := fun _ => fun
  | [d1, d2, d3, d4] => { results := [.lit (.bool false)], args := [d1, d2, d3, d4] }
  | _ => none }
def InterpStepsWrongFalsely : Prop := interpStepsRow.holds Tryz.pinned (OpenSpec.ofChange interpStepsWrong)

/- THE SECOND FORM. 'bulk': how many values and letters a reading holds, each counted each time it is reached (what is shared counts as often as it is met; a slice's spare places count too). A statement '..UptoSaid' is the law's where the arguments, and the package variables that the reading takes, are together of bulk at most 1048576: NARROWER than '..Said'. Prove '..Said' where nothing that the law and all that it calls make is longer than what came in: it says more and counts as full. Else prove '..UptoSaid'. A law counts once. -/
mutual
def uptoBulk {H : Type} : DataW H → Nat
  | .lit (.string bytes) => bytes.length + 1
  | .lit _ => 1
  | .nil => 1
  | .ptr d => uptoBulk d + 1
  | .slice elems spare => uptoBulkAll elems + uptoBulkAll spare + 1
  | .agg parts => uptoBulkAll parts + 1
  | .iface _ d => uptoBulk d + 1
  | .map entries => uptoBulkEntries entries + 1
  | .held _ => 1
def uptoBulkAll {H : Type} : List (DataW H) → Nat
  | [] => 0
  | d :: r => uptoBulk d + uptoBulkAll r
def uptoBulkEntries {H : Type} : List (Lit × DataW H) → Nat
  | [] => 0
  | x :: r => uptoBulkEntry x + uptoBulkEntries r
def uptoBulkEntry {H : Type} : Lit × DataW H → Nat
  | (.string bytes, d) => bytes.length + uptoBulk d + 1
  | (_, d) => uptoBulk d + 1
 end
def uptoSmall : (H : Type) → List (DataW H) → Bool := fun _ ds => decide (uptoBulkAll ds ≤ 1048576)
def OpenSpec.upto (s : _root_.Go.ChangeSpec) : _root_.Go.OpenSpec := { _root_.Go.OpenSpec.ofChange s with cond := some uptoSmall }

/-- 'lodestonelaw12.InterpChecks', WHERE WHAT IT READS IS OF BULK AT MOST 1048576: true; the input reads as it did. -/
def interpChecksUptoRow : OpenClaim := { program := "ytdjmjhlbjcgoiaagreatdoor", sum := "7ac7f36a6f88bd3440696742cbc10b942dccb50e67ede7ecd212a5e2239a2b46", func := "lodestone/lodestonelaw12.InterpChecks", spec := "interpChecks", inPlace := ["internal/bytealg.Compare"], unfollowed := true, recurses := true, named := ["unicode/utf8.first", "unicode/utf8.acceptRanges"], plainKeys := false, apart := false, laid := [("unicode/utf8.acceptRanges", laid_unicode_utf8_acceptRanges), ("unicode/utf8.first", laid_unicode_utf8_first)], narrowed := true }
def InterpChecksUptoSaid : Prop := interpChecksUptoRow.holds Tryz.pinned (OpenSpec.upto interpChecksSpec)

/-- 'lodestonelaw12.InterpOf', WHERE WHAT IT READS IS OF BULK AT MOST 1048576: true; the input reads as it did. -/
def interpOfUptoRow : OpenClaim := { program := "ytdjmjhlbjcgoiaagreatdoor", sum := "7ac7f36a6f88bd3440696742cbc10b942dccb50e67ede7ecd212a5e2239a2b46", func := "lodestone/lodestonelaw12.InterpOf", spec := "interpOf", inPlace := ["internal/bytealg.Compare"], unfollowed := true, recurses := true, named := ["unicode/utf8.first", "unicode/utf8.acceptRanges"], plainKeys := false, apart := false, laid := [("unicode/utf8.acceptRanges", laid_unicode_utf8_acceptRanges), ("unicode/utf8.first", laid_unicode_utf8_first)], narrowed := true }
def InterpOfUptoSaid : Prop := interpOfUptoRow.holds Tryz.pinned (OpenSpec.upto interpOfSpec)

/-- 'lodestonelaw12.InterpFalls', WHERE WHAT IT READS IS OF BULK AT MOST 1048576: true; the input reads as it did. -/
def interpFallsUptoRow : OpenClaim := { program := "ytdjmjhlbjcgoiaagreatdoor", sum := "7ac7f36a6f88bd3440696742cbc10b942dccb50e67ede7ecd212a5e2239a2b46", func := "lodestone/lodestonelaw12.InterpFalls", spec := "interpFalls", inPlace := ["internal/bytealg.Compare"], unfollowed := true, recurses := true, named := ["unicode/utf8.first", "unicode/utf8.acceptRanges"], plainKeys := false, apart := false, laid := [("unicode/utf8.acceptRanges", laid_unicode_utf8_acceptRanges), ("unicode/utf8.first", laid_unicode_utf8_first)], narrowed := true }
def InterpFallsUptoSaid : Prop := interpFallsUptoRow.holds Tryz.pinned (OpenSpec.upto interpFallsSpec)

/-- 'lodestonelaw12.InterpParts', WHERE WHAT IT READS IS OF BULK AT MOST 1048576: true; the input reads as it did. -/
def interpPartsUptoRow : OpenClaim := { program := "ytdjmjhlbjcgoiaagreatdoor", sum := "7ac7f36a6f88bd3440696742cbc10b942dccb50e67ede7ecd212a5e2239a2b46", func := "lodestone/lodestonelaw12.InterpParts", spec := "interpParts", inPlace := ["internal/bytealg.Compare"], unfollowed := true, recurses := true, named := ["unicode/utf8.first", "unicode/utf8.acceptRanges"], plainKeys := false, apart := false, laid := [("unicode/utf8.acceptRanges", laid_unicode_utf8_acceptRanges), ("unicode/utf8.first", laid_unicode_utf8_first)], narrowed := true }
def InterpPartsUptoSaid : Prop := interpPartsUptoRow.holds Tryz.pinned (OpenSpec.upto interpPartsSpec)

/-- 'lodestonelaw12.InterpWorth', WHERE WHAT IT READS IS OF BULK AT MOST 1048576: true; the input reads as it did. -/
def interpWorthUptoRow : OpenClaim := { program := "ytdjmjhlbjcgoiaagreatdoor", sum := "7ac7f36a6f88bd3440696742cbc10b942dccb50e67ede7ecd212a5e2239a2b46", func := "lodestone/lodestonelaw12.InterpWorth", spec := "interpWorth", inPlace := ["internal/bytealg.Compare"], unfollowed := true, recurses := true, named := ["unicode/utf8.first", "unicode/utf8.acceptRanges"], plainKeys := false, apart := false, laid := [("unicode/utf8.acceptRanges", laid_unicode_utf8_acceptRanges), ("unicode/utf8.first", laid_unicode_utf8_first)], narrowed := true }
def InterpWorthUptoSaid : Prop := interpWorthUptoRow.holds Tryz.pinned (OpenSpec.upto interpWorthSpec)

/-- 'lodestonelaw12.InterpSteps', WHERE WHAT IT READS IS OF BULK AT MOST 1048576: true; the input reads as it did. -/
def interpStepsUptoRow : OpenClaim := { program := "ytdjmjhlbjcgoiaagreatdoor", sum := "7ac7f36a6f88bd3440696742cbc10b942dccb50e67ede7ecd212a5e2239a2b46", func := "lodestone/lodestonelaw12.InterpSteps", spec := "interpSteps", inPlace := ["internal/bytealg.Compare"], unfollowed := true, recurses := true, named := ["unicode/utf8.first", "unicode/utf8.acceptRanges"], plainKeys := false, apart := false, laid := [("unicode/utf8.acceptRanges", laid_unicode_utf8_acceptRanges), ("unicode/utf8.first", laid_unicode_utf8_first)], narrowed := true }
def InterpStepsUptoSaid : Prop := interpStepsUptoRow.holds Tryz.pinned (OpenSpec.upto interpStepsSpec)

end Rows
end Go.Proofs.YtdjmjhlbjcgoiaaGreatDoor
