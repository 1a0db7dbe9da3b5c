/- Texts of the proof, one behind the other. -/
import Derived.Test.YtoapgbaibpkckaaGreatDoorOwn1
import Derived.Test.YtoapgbaibpkckaaGreatDoorRows
import Derived.ProofKit
import Derived.OpenShut
import Derived.SizedLaws
import Derived.Handed
import Derived.LaidLaws
import Derived.LaidHandle
import Derived.MakeChecks
import Derived.Stop.Joined
import Derived.Lib.LaidIn
import Derived.Lib.LaidU8T
import Derived.ShutString
import Derived.ChangeOld
import Derived.Deep.Slices
import Derived.DeepKeys4
import Derived.Test.YtoapgbaibpkckaaGreatDoorOwn2
import Derived.Deep.SlicePairs
/- Rows that came in, the tables of the library, the witness. -/
namespace Go.Proofs.YtoapgbaibpkckaaGreatDoor
open Go.ChangeShapes Go.WideShapes Go.ChangeAt Go.RowKit Go.Shelf

theorem own : ownKnob Tryz.prog.godebug = none := by kernel_rfl

/-- The tables that the rows list. -/
def laidT : List (String × DataW Unit) := [("unicode/utf8.acceptRanges", Rows.laid_unicode_utf8_acceptRanges), ("unicode/utf8.first", Rows.laid_unicode_utf8_first)]

theorem first_same : Rows.laid_unicode_utf8_first = Lib.firstData := by kernel_rfl
theorem accept_same : (Rows.laid_unicode_utf8_acceptRanges : DataW Unit) = Lib.acceptData := by kernel_rfl

theorem tabs_of_laid {W : World} (h : laidMetH Tryz.prog laidT W) : Tabs W := by
  rw [MakeChecks.laidMetH_plain _ _ _ (by kernel_rfl)] at h
  have h1 := Lib.laidMet.reads h (n := "unicode/utf8.first") (d := Rows.laid_unicode_utf8_first) (.tail _ (.head _))
  have h2 := Lib.laidMet.reads h (n := "unicode/utf8.acceptRanges") (d := Rows.laid_unicode_utf8_acceptRanges) (.head _)
  rw [first_same] at h1
  rw [accept_same] at h2
  exact utf8Tabs_of_readsT (U8Types.of196 Tryz.validLay) ⟨by kernel_rfl, by kernel_rfl, by kernel_rfl, by kernel_rfl, by kernel_rfl, by kernel_rfl, by kernel_rfl⟩ h1 h2

/-- The settled world, with the two tables in it. -/
noncomputable def laidWorld (os : Os) : World :=
  let w0 := World.holding Tryz.prog os ⟨#[], #[], []⟩
  let put (h : Array Obj) (g : Nat) (cs : Array Value) : Array Obj := h.modify g fun
    | .cells _ t frozen => .cells cs t frozen
    | o => o
  let h1 := put w0.heap 0 (Lib.firstTab.map fun z => Value.int .u8 z).toArray
  let h2 := put h1 1 ((List.range 16).flatMap fun i => [Value.int .u8 (Lib.accLo i), Value.int .u8 (Lib.accHi i)]).toArray
  { w0 with heap := h2 }

theorem door_met (os : Os) (args : Array Value) : laidMetH Tryz.prog laidT ((laidWorld os).forCall (fun _ _ => 0) ⟨#[], args, []⟩).memory := by
  rw [MakeChecks.laidMetH_plain _ _ _ (by kernel_rfl)]
  exact laidMet_of_run' 8 (by kernel_rfl) (by kernel_rfl)

end Go.Proofs.YtoapgbaibpkckaaGreatDoor

/- Rows of ints that came in, as a row of the claim reads them. -/
namespace Go.Proofs.YtoapgbaibpkckaaGreatDoor
open Go.ChangeShapes Go.WideShapes Go.ChangeAt Go.RowKit Go.Deep Go.Maps

theorem spot_none {w : World} {a : Addr} {v : Value} (h : w.cell? (a.add 0) = some v) : ∃ g off, a = ⟨g, off, none⟩ ∧ g < w.heap.size := by
  obtain ⟨b, off, spot⟩ := a
  have hspot : spot = none := by simpa [Addr.add] using World.cell?_spot h
  subst hspot
  refine ⟨b, off, rfl, ?_⟩
  rw [Addr.add_lit] at h
  exact World.block_lt_of_cell? w _ h

end Go.Proofs.YtoapgbaibpkckaaGreatDoor

/- Signatures, binds and lists of rows that came in, as a row of the claim reads them. -/
namespace Go.Proofs.YtoapgbaibpkckaaGreatDoor
open Go.ChangeShapes Go.WideShapes Go.ChangeAt Go.RowKit Go.Deep Go.Maps

theorem open_syms {H : Type} {enc : TypeId × Value → H} {W : World} {base fuel : Nat} {held : Bool} {cs : List Value} {x : DataW H × List MemPlace}
    (h : DataW.trod enc Tryz.prog W base (fun _ => true) held fuel 22 cs = some x) : ∃ v p, cs = [v] ∧ Sg W v p := by
  rcases open_slice_pairs Tryz.underlying22 Tryz.underlying28 (by kernel_rfl) rfl rfl (by kernel_rfl) (by kernel_rfl) h with ⟨rfl, _⟩ | ⟨a, len, cap, m, n, V0, V1, D0, D1, P0, P1, rfl, _, hl, hm, hmm, hx, hall⟩
  · exact ⟨_, [], rfl, Row.nil (by simp [maxLen])⟩
  · simp only [if_true] at hmm
    have each : ∀ i, i < m → ∃ q : Sy, V0 i = .string q.1 ∧ V1 i = .int .i64 q.2 ∧ q.1.size ≤ maxLen ∧ -9223372036854775808 ≤ q.2 ∧ q.2 ≤ 9223372036854775807 := by
      intro i hi
      obtain ⟨_, _, t0, t1⟩ := hall i hi
      obtain ⟨s, e0, _, hs⟩ := DataW.trod_string Tryz.underlying9 t0
      obtain ⟨z, e1, _, hz⟩ := DataW.trod_int Tryz.underlying3 t1
      have hb := bounds_i64 hz
      simp only [List.cons.injEq, and_true] at e0 e1
      exact ⟨(s, z), e0, e1, hs, by omega, by omega⟩
    obtain ⟨q, hq⟩ := choose_lt each
    have hlen : ((List.range len).map q).length = len := by simp
    refine ⟨_, (List.range len).map q, rfl, some a, cap, by rw [hlen], by omega, hm, fun h0 => ?_⟩
    rw [hlen] at h0
    obtain ⟨g, off, rfl, hg⟩ := spot_none (hall 0 (by omega)).1
    refine ⟨g, off, rfl, hg, fun k y hk => ?_⟩
    have hkl : k < len := by have := (List.getElem?_eq_some_iff.1 hk).1; omega
    obtain ⟨h0, h1, _⟩ := hall k (by omega)
    rw [Addr.add_lit] at h0 h1
    obtain ⟨e0, e1, e2, e3, e4⟩ := hq k (by omega)
    simp only [List.getElem?_map, List.getElem?_range hkl, Option.map_some, Option.some.injEq] at hk
    subst hk
    exact ⟨e3, e4, e2, by rw [h0, e0], by rw [Nat.add_assoc, h1, e1]⟩

end Go.Proofs.YtoapgbaibpkckaaGreatDoor
