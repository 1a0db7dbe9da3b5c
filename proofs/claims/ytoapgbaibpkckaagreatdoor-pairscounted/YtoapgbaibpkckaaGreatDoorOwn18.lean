/- Texts of the proof, one behind the other. -/
import Derived.Test.YtoapgbaibpkckaaGreatDoorOwn1
import Derived.Test.YtoapgbaibpkckaaGreatDoorRows
import Derived.ProofKit
import Derived.OpenShut
import Derived.SizedLaws
import Derived.Handed
import Derived.LaidLaws
import Derived.LaidHandle
import Derived.MakeChecks
import Derived.Stop.Joined
import Derived.Lib.LaidIn
import Derived.Lib.LaidU8T
import Derived.ShutString
import Derived.ChangeOld
import Derived.Deep.Slices
import Derived.DeepKeys4
import Derived.Test.YtoapgbaibpkckaaGreatDoorOwn2
import Derived.Deep.SlicePairs
import Derived.ChangeSame
import Derived.Test.YtoapgbaibpkckaaGreatDoorOwn5
/- Rows that came in, the tables of the library, the witness. -/
namespace Go.Proofs.YtoapgbaibpkckaaGreatDoor
open Go.ChangeShapes Go.WideShapes Go.ChangeAt Go.RowKit Go.Shelf

theorem own : ownKnob Tryz.prog.godebug = none := by kernel_rfl

/-- The tables that the rows list. -/
def laidT : List (String × DataW Unit) := [("unicode/utf8.acceptRanges", Rows.laid_unicode_utf8_acceptRanges), ("unicode/utf8.first", Rows.laid_unicode_utf8_first)]

theorem first_same : Rows.laid_unicode_utf8_first = Lib.firstData := by kernel_rfl
theorem accept_same : (Rows.laid_unicode_utf8_acceptRanges : DataW Unit) = Lib.acceptData := by kernel_rfl

theorem tabs_of_laid {W : World} (h : laidMetH Tryz.prog laidT W) : Tabs W := by
  rw [MakeChecks.laidMetH_plain _ _ _ (by kernel_rfl)] at h
  have h1 := Lib.laidMet.reads h (n := "unicode/utf8.first") (d := Rows.laid_unicode_utf8_first) (.tail _ (.head _))
  have h2 := Lib.laidMet.reads h (n := "unicode/utf8.acceptRanges") (d := Rows.laid_unicode_utf8_acceptRanges) (.head _)
  rw [first_same] at h1
  rw [accept_same] at h2
  exact utf8Tabs_of_readsT (U8Types.of196 Tryz.validLay) ⟨by kernel_rfl, by kernel_rfl, by kernel_rfl, by kernel_rfl, by kernel_rfl, by kernel_rfl, by kernel_rfl⟩ h1 h2

/-- The settled world, with the two tables in it. -/
noncomputable def laidWorld (os : Os) : World :=
  let w0 := World.holding Tryz.prog os ⟨#[], #[], []⟩
  let put (h : Array Obj) (g : Nat) (cs : Array Value) : Array Obj := h.modify g fun
    | .cells _ t frozen => .cells cs t frozen
    | o => o
  let h1 := put w0.heap 0 (Lib.firstTab.map fun z => Value.int .u8 z).toArray
  let h2 := put h1 1 ((List.range 16).flatMap fun i => [Value.int .u8 (Lib.accLo i), Value.int .u8 (Lib.accHi i)]).toArray
  { w0 with heap := h2 }

theorem door_met (os : Os) (args : Array Value) : laidMetH Tryz.prog laidT ((laidWorld os).forCall (fun _ _ => 0) ⟨#[], args, []⟩).memory := by
  rw [MakeChecks.laidMetH_plain _ _ _ (by kernel_rfl)]
  exact laidMet_of_run' 8 (by kernel_rfl) (by kernel_rfl)

end Go.Proofs.YtoapgbaibpkckaaGreatDoor

/- Rows of ints that came in, as a row of the claim reads them. -/
namespace Go.Proofs.YtoapgbaibpkckaaGreatDoor
open Go.ChangeShapes Go.WideShapes Go.ChangeAt Go.RowKit Go.Deep Go.Maps

theorem spot_none {w : World} {a : Addr} {v : Value} (h : w.cell? (a.add 0) = some v) : ∃ g off, a = ⟨g, off, none⟩ ∧ g < w.heap.size := by
  obtain ⟨b, off, spot⟩ := a
  have hspot : spot = none := by simpa [Addr.add] using World.cell?_spot h
  subst hspot
  refine ⟨b, off, rfl, ?_⟩
  rw [Addr.add_lit] at h
  exact World.block_lt_of_cell? w _ h

theorem weight_head {H : Type} {P : Program} {t e : TypeId} {d : DataW H} {elems spare : List (DataW H)} (hd : d = .slice elems spare) (hu : P.underlying t = some (.slice e)) : (elems.length + spare.length) * P.bytesOf e ∈ d.weights P t := by
  subst hd
  simp [DataW.weights, hu]

theorem open_nums {H : Type} {enc : TypeId × Value → H} {W : World} {base fuel : Nat} {held : Bool} {cs : List Value} {x : DataW H × List MemPlace}
    (h : DataW.trod enc Tryz.prog W base (fun _ => true) held fuel 36 cs = some x) : ∃ v xs, cs = [v] ∧ Is W v xs ∧ ∀ R, (∀ n ∈ x.1.weights Tryz.prog 36, n ≤ R) → xs.length * 8 ≤ R := by
  rcases open_ints Tryz.underlying36 Tryz.underlying3 (by kernel_rfl) h with ⟨rfl, _⟩ | ⟨a, len, cap, zs, rfl, _, hl, hm, hz, hx, hcell, hwz⟩
  · exact ⟨_, [], rfl, Row.nil (by simp [maxLen]), by simp⟩
  · simp only [if_true] at hz
    have hlen : (zs.take len).length = len := by simp; omega
    have hfit : ∀ R, (∀ n ∈ x.1.weights Tryz.prog 36, n ≤ R) → len * 8 ≤ R := by
      intro R hR
      have := hR _ (weight_head (by rw [hx]) Tryz.underlying36)
      rw [show Tryz.prog.bytesOf 3 = 8 by kernel_rfl] at this
      simp only [lits, List.length_map, List.length_take, List.length_drop] at this
      omega
    refine ⟨_, zs.take len, rfl, ⟨some a, cap, by rw [hlen], by omega, hm, fun h0 => ?_⟩, by rw [hlen]; exact hfit⟩
    rw [hlen] at h0
    obtain ⟨g, off, rfl, hg⟩ := spot_none (hcell 0 (by omega))
    refine ⟨g, off, rfl, hg, fun k y hk => ?_⟩
    have hkl : k < len := by have := (List.getElem?_eq_some_iff.1 hk).1; omega
    have h1 := hcell k (by omega)
    rw [Addr.add_lit] at h1
    have hkz : k < zs.length := by omega
    have h2 := bounds_i64 (hwz zs[k] (List.getElem_mem hkz))
    rw [List.getElem?_take_of_lt hkl, List.getElem?_eq_getElem hkz, Option.some.injEq] at hk
    rw [List.getD_eq_getElem?_getD, List.getElem?_eq_getElem hkz, Option.getD_some] at h1
    subst hk
    rw [Nat.mul_one]
    exact ⟨by omega, by omega, h1⟩

end Go.Proofs.YtoapgbaibpkckaaGreatDoor

/- Signatures, binds and lists of rows that came in, as a row of the claim reads them. -/
namespace Go.Proofs.YtoapgbaibpkckaaGreatDoor
open Go.ChangeShapes Go.WideShapes Go.ChangeAt Go.RowKit Go.Deep Go.Maps

theorem weight_all {H : Type} {P : Program} {e : TypeId} {d : DataW H} {n : Nat} : ∀ {l : List (DataW H)}, d ∈ l → n ∈ d.weights P e → n ∈ DataW.weightsAll P e l
  | [], h, _ => by cases h
  | x :: r, h, hn => by
    unfold DataW.weightsAll
    rcases List.mem_cons.1 h with rfl | h
    · exact List.mem_append_left _ hn
    · exact List.mem_append_right _ (weight_all h hn)

theorem weight_elem {H : Type} {P : Program} {t e : TypeId} {d y : DataW H} {n : Nat} {elems spare : List (DataW H)} (hd : d = .slice elems spare) (hu : P.underlying t = some (.slice e)) (hy : y ∈ elems) (hn : n ∈ y.weights P e) : n ∈ d.weights P t := by
  subst hd
  have := weight_all hy hn
  simp [DataW.weights, hu, this]

theorem weight_agg {H : Type} {P : Program} {t u : TypeId} {fs : Array Field} {parts : List (DataW H)} {y : DataW H} {j n : Nat} (hu : P.underlying t = some (.struct fs)) (hj : (fs.toList.map (·.type))[j]? = some u) (hp : parts[j]? = some y) (hn : n ∈ y.weights P u) : n ∈ (DataW.agg parts).weights P t := by
  have := DataW.weights_mem_each hj hp n hn
  simp [DataW.weights, hu, this]

theorem open_syms {H : Type} {enc : TypeId × Value → H} {W : World} {base fuel : Nat} {held : Bool} {cs : List Value} {x : DataW H × List MemPlace}
    (h : DataW.trod enc Tryz.prog W base (fun _ => true) held fuel 22 cs = some x) : ∃ v p, cs = [v] ∧ Sg W v p := by
  rcases open_slice_pairs Tryz.underlying22 Tryz.underlying28 (by kernel_rfl) rfl rfl (by kernel_rfl) (by kernel_rfl) h with ⟨rfl, _⟩ | ⟨a, len, cap, m, n, V0, V1, D0, D1, P0, P1, rfl, _, hl, hm, hmm, hx, hall⟩
  · exact ⟨_, [], rfl, Row.nil (by simp [maxLen])⟩
  · simp only [if_true] at hmm
    have each : ∀ i, i < m → ∃ q : Sy, V0 i = .string q.1 ∧ V1 i = .int .i64 q.2 ∧ q.1.size ≤ maxLen ∧ -9223372036854775808 ≤ q.2 ∧ q.2 ≤ 9223372036854775807 := by
      intro i hi
      obtain ⟨_, _, t0, t1⟩ := hall i hi
      obtain ⟨s, e0, _, hs⟩ := DataW.trod_string Tryz.underlying9 t0
      obtain ⟨z, e1, _, hz⟩ := DataW.trod_int Tryz.underlying3 t1
      have hb := bounds_i64 hz
      simp only [List.cons.injEq, and_true] at e0 e1
      exact ⟨(s, z), e0, e1, hs, by omega, by omega⟩
    obtain ⟨q, hq⟩ := choose_lt each
    have hlen : ((List.range len).map q).length = len := by simp
    refine ⟨_, (List.range len).map q, rfl, some a, cap, by rw [hlen], by omega, hm, fun h0 => ?_⟩
    rw [hlen] at h0
    obtain ⟨g, off, rfl, hg⟩ := spot_none (hall 0 (by omega)).1
    refine ⟨g, off, rfl, hg, fun k y hk => ?_⟩
    have hkl : k < len := by have := (List.getElem?_eq_some_iff.1 hk).1; omega
    obtain ⟨h0, h1, _⟩ := hall k (by omega)
    rw [Addr.add_lit] at h0 h1
    obtain ⟨e0, e1, e2, e3, e4⟩ := hq k (by omega)
    simp only [List.getElem?_map, List.getElem?_range hkl, Option.map_some, Option.some.injEq] at hk
    subst hk
    exact ⟨e3, e4, e2, by rw [h0, e0], by rw [Nat.add_assoc, h1, e1]⟩

end Go.Proofs.YtoapgbaibpkckaaGreatDoor

/- Systems handed in. -/
namespace Go.Proofs.YtoapgbaibpkckaaGreatDoor
open Go.ChangeShapes Go.WideShapes Go.ChangeAt Go.RowKit Go.Deep Go.Maps

set_option maxRecDepth 100000 in
theorem open_rules {H : Type} {enc : TypeId × Value → H} {W : World} {base fuel : Nat} {held : Bool} {cs : List Value} {x : DataW H × List MemPlace}
    (h : DataW.trod enc Tryz.prog W base (fun _ => true) held fuel 30 cs = some x) (hR : ∀ n ∈ x.1.weights Tryz.prog 30, n ≤ 140737488351232) : ∃ v p, cs = [v] ∧ RU W v p := by
  rcases open_slice_pairs Tryz.underlying30 Tryz.underlying38 (by kernel_rfl) rfl rfl (by kernel_rfl) (by kernel_rfl) h with ⟨rfl, _⟩ | ⟨a, len, cap, m, n, V0, V1, D0, D1, P0, P1, rfl, _, hl, hm, hmm, hx, hall⟩
  · exact ⟨_, [], rfl, Row.nil (by simp [maxLen])⟩
  · simp only [if_true] at hmm
    have each : ∀ i, i < m → ∃ q : Rl, Is W (V0 i) q.1 ∧ Is W (V1 i) q.2 ∧ (∀ R, (∀ n ∈ (D0 i).weights Tryz.prog 36, n ≤ R) → q.1.length * 8 ≤ R) ∧ ∀ R, (∀ n ∈ (D1 i).weights Tryz.prog 36, n ≤ R) → q.2.length * 8 ≤ R := by
      intro i hi
      obtain ⟨_, _, t0, t1⟩ := hall i hi
      obtain ⟨v0, d, e0, hd, hf0⟩ := open_nums t0
      obtain ⟨v1, e, e1, he, hf1⟩ := open_nums t1
      simp only [List.cons.injEq, and_true] at e0 e1
      subst e0
      subst e1
      exact ⟨(d, e), hd, he, hf0, hf1⟩
    obtain ⟨q, hq⟩ := choose_lt each
    have hlen : ((List.range len).map q).length = len := by simp
    have hx1 : x.1 = .slice ((List.range len).map fun i => .agg [D0 i, D1 i]) ((List.range (m - len)).map fun j => .agg [D0 (len + j), D1 (len + j)]) := by rw [hx]
    refine ⟨_, (List.range len).map q, rfl, ⟨some a, cap, by rw [hlen], by omega, hm, fun h0 => ?_⟩⟩
    rw [hlen] at h0
    obtain ⟨g, off, rfl, hg⟩ := spot_none (hall 0 (by omega)).1
    refine ⟨g, off, rfl, hg, fun k y hk => ?_⟩
    have hkl : k < len := by have := (List.getElem?_eq_some_iff.1 hk).1; omega
    obtain ⟨h0, h1, _⟩ := hall k (by omega)
    rw [Addr.add_lit] at h0 h1
    obtain ⟨e0, e1, e2, e3⟩ := hq k (by omega)
    simp only [List.getElem?_map, List.getElem?_range hkl, Option.map_some, Option.some.injEq] at hk
    subst hk
    refine ⟨e2 _ fun n hn => ?_, e3 _ fun n hn => ?_, V0 k, V1 k, h0, by rw [Nat.add_assoc, h1], e0, e1⟩
    · exact hR n (weight_elem hx1 Tryz.underlying30 (List.mem_map.2 ⟨k, List.mem_range.2 hkl, rfl⟩) (weight_agg Tryz.underlying38 (j := 0) rfl rfl hn))
    · exact hR n (weight_elem hx1 Tryz.underlying30 (List.mem_map.2 ⟨k, List.mem_range.2 hkl, rfl⟩) (weight_agg Tryz.underlying38 (j := 1) rfl rfl hn))

set_option maxRecDepth 100000 in
theorem open_system {H : Type} {enc : TypeId × Value → H} {W : World} {base fuel : Nat} {held : Bool} {cs : List Value} {x : DataW H × List MemPlace}
    (h : DataW.trod enc Tryz.prog W base (fun _ => true) held fuel 32 cs = some x) (hR : ∀ n ∈ x.1.weights Tryz.prog 32, n ≤ 140737488351232) :
    ∃ v0 v1 p q, cs = [v0, v1] ∧ Sg W v0 p ∧ RU W v1 q := by
  obtain ⟨y0, y1, m, hx, hl, h0, h1⟩ := trod_struct2 Tryz.underlying32 h
  rw [show Tryz.prog.cellsOf 32 = 2 by kernel_rfl] at hl
  match cs, hl with
  | [v0, v1], _ =>
    have h0' : DataW.trod enc Tryz.prog W base (fun _ => true) held m 22 [v0] = some y0 := h0
    have h1' : DataW.trod enc Tryz.prog W base (fun _ => true) held m 30 [v1] = some y1 := h1
    have hx1 : x.1 = .agg [y0.1, y1.1] := by rw [hx]
    obtain ⟨u0, p, e0, hp⟩ := open_syms h0'
    obtain ⟨u1, q, e1, hq⟩ := open_rules h1' fun n hn => hR n (by rw [hx1]; exact weight_agg Tryz.underlying32 (j := 1) rfl rfl hn)
    simp only [List.cons.injEq, and_true] at e0 e1
    subst e0
    subst e1
    exact ⟨v0, v1, p, q, rfl, hp, hq⟩

end Go.Proofs.YtoapgbaibpkckaaGreatDoor
