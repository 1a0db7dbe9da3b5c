/- Lists of rows that came in, as a row of the claim reads them (a seat without a door; the Upto form). -/
import Derived.Test.YtmokokhhheonoaaOwn2
import Derived.Test.YtmokokhhheonoaaRows
import Derived.ProofKit
import Derived.OpenShut
import Derived.ShutString
import Derived.ChangeOld
import Derived.Deep.Slices
import Derived.Deep.SlicePairs
import Derived.SizedLaws
namespace Go.Proofs.Ytmokokhhheonoaa
open Go.ChangeShapes Go.WideShapes Go.ChangeAt Go.RowKit Go.Deep Go.Maps

theorem own14 : ownKnob Try.prog.godebug = none := by kernel_rfl

theorem spot_none14 {w : World} {a : Addr} {v : Value} (h : w.cell? (a.add 0) = some v) : ∃ g off, a = ⟨g, off, none⟩ ∧ g < w.heap.size := by
  obtain ⟨b, off, spot⟩ := a
  have hspot : spot = none := by simpa [Addr.add] using World.cell?_spot h
  subst hspot
  refine ⟨b, off, rfl, ?_⟩
  rw [Addr.add_lit] at h
  exact World.block_lt_of_cell? w _ h

theorem open_nums14 {H : Type} {enc : TypeId × Value → H} {W : World} {base fuel : Nat} {held : Bool} {cs : List Value} {x : DataW H × List MemPlace}
    (h : DataW.trod enc Try.prog W base (fun _ => true) held fuel 26 cs = some x) : ∃ v xs, cs = [v] ∧ Is W v xs := by
  rcases open_ints Try.underlying26 Try.underlying3 (by kernel_rfl) h with ⟨rfl, _⟩ | ⟨a, len, cap, zs, rfl, _, hl, hm, hz, hx, hcell, hwz⟩
  · exact ⟨_, [], rfl, Row.nil (by simp [maxLen])⟩
  · simp only [if_true] at hz
    have hlen : (zs.take len).length = len := by simp; omega
    refine ⟨_, zs.take len, rfl, ⟨some a, cap, by rw [hlen], by omega, hm, fun h0 => ?_⟩⟩
    rw [hlen] at h0
    obtain ⟨g, off, rfl, hg⟩ := spot_none14 (hcell 0 (by omega))
    refine ⟨g, off, rfl, hg, fun k y hk => ?_⟩
    have hkl : k < len := by have := (List.getElem?_eq_some_iff.1 hk).1; omega
    have h1 := hcell k (by omega)
    rw [Addr.add_lit] at h1
    have hkz : k < zs.length := by omega
    have h2 := bounds_i64 (hwz zs[k] (List.getElem_mem hkz))
    rw [List.getElem?_take_of_lt hkl, List.getElem?_eq_getElem hkz, Option.some.injEq] at hk
    rw [List.getD_eq_getElem?_getD, List.getElem?_eq_getElem hkz, Option.getD_some] at h1
    subst hk
    rw [Nat.mul_one]
    exact ⟨by omega, by omega, h1⟩

theorem bulk_one14 {H : Type} (d : DataW H) : 1 ≤ Rows.uptoBulk d := by
  cases d with
  | lit l => cases l <;> simp [Rows.uptoBulk]
  | nil => simp [Rows.uptoBulk]
  | ptr d => simp [Rows.uptoBulk]
  | slice elems spare => simp [Rows.uptoBulk]
  | agg parts => simp [Rows.uptoBulk]
  | iface t d => simp [Rows.uptoBulk]
  | map entries => simp [Rows.uptoBulk]
  | held h => simp [Rows.uptoBulk]

theorem bulk_mem14 {H : Type} {d : DataW H} : ∀ {l : List (DataW H)}, d ∈ l → Rows.uptoBulk d ≤ Rows.uptoBulkAll l
  | x :: r, h => by
    simp only [Rows.uptoBulkAll]
    rcases List.mem_cons.1 h with rfl | h
    · omega
    · have := bulk_mem14 h
      omega

theorem bulk_len14 {H : Type} : ∀ l : List (DataW H), l.length ≤ Rows.uptoBulkAll l
  | [] => by simp [Rows.uptoBulkAll]
  | x :: r => by
    have := bulk_one14 x
    have := bulk_len14 r
    simp only [Rows.uptoBulkAll, List.length_cons]
    omega

theorem bulk_elems14 {H : Type} {d : DataW H} {elems spare : List (DataW H)} (h : d = .slice elems spare) : Rows.uptoBulkAll elems ≤ Rows.uptoBulk d := by
  subst h
  simp only [Rows.uptoBulk]
  omega

theorem bulk_nums14 {H : Type} {enc : TypeId × Value → H} {W : World} {base fuel : Nat} {held : Bool} {v : Value} {xs : List Int} {x : DataW H × List MemPlace}
    (h : DataW.trod enc Try.prog W base (fun _ => true) held fuel 26 [v] = some x) (hi : Is W v xs) : xs.length ≤ Rows.uptoBulk x.1 := by
  rcases open_ints Try.underlying26 Try.underlying3 (by kernel_rfl) h with ⟨e, _⟩ | ⟨a, len, cap, zs, e, _, hl, hm, hz, hx, _⟩
  · simp only [List.cons.injEq, and_true] at e
    subst e
    have := Row.len hi
    omega
  · simp only [List.cons.injEq, and_true] at e
    subst e
    simp only [if_true] at hz
    have h1 := Row.len hi
    have h2 := bulk_elems14 (d := x.1) (by rw [hx])
    have h3 := bulk_len14 (lits (H := H) .i64 (zs.take len))
    simp only [lits, List.length_map, List.length_take] at h3
    have h4 : Rows.uptoBulkAll (lits (H := H) .i64 (zs.take len)) ≤ Rows.uptoBulk x.1 := h2
    simp only [lits] at h4
    omega

theorem sum_bulk14 {H : Type} (q : Nat → List Int) (D : Nat → DataW H) : ∀ L : List Nat, (∀ i ∈ L, (q i).length ≤ Rows.uptoBulk (D i)) → ((L.map q).map List.length).sum ≤ Rows.uptoBulkAll (L.map D)
  | [], _ => by simp [Rows.uptoBulkAll]
  | i :: L, h => by
    have h1 := h i (.head _)
    have h2 := sum_bulk14 q D L (fun j hj => h j (.tail _ hj))
    simp only [List.map_cons, List.sum_cons, Rows.uptoBulkAll]
    omega

theorem open_rows14 {H : Type} {enc : TypeId × Value → H} {W : World} {base fuel : Nat} {held : Bool} {cs : List Value} {x : DataW H × List MemPlace}
    (h : DataW.trod enc Try.prog W base (fun _ => true) held fuel 22 cs = some x) (hR : Rows.uptoBulk x.1 ≤ 1048576) : ∃ v l, cs = [v] ∧ Rs W v l ∧ (l.map List.length).sum ≤ 1048576 ∧ l.length ≤ 1048576 := by
  rcases open_slice1 Try.underlying22 (by kernel_rfl) h with ⟨rfl, _⟩ | ⟨a, len, cap, m, n, V, D, Pl, rfl, _, hl, hm, hmm, hx, hall⟩
  · exact ⟨_, [], rfl, Row.nil (by simp [maxLen]), by simp, by simp⟩
  · simp only [if_true] at hmm
    have each : ∀ i, i < m → ∃ q : List Int, Is W (V i) q ∧ q.length ≤ Rows.uptoBulk (D i) := by
      intro i hi
      obtain ⟨v0, c, e0, hc⟩ := open_nums14 (hall i hi).2
      simp only [List.cons.injEq, and_true] at e0
      subst e0
      exact ⟨c, hc, bulk_nums14 (hall i hi).2 hc⟩
    obtain ⟨q, hq⟩ := choose_lt each
    have hlen : ((List.range len).map q).length = len := by simp
    have hx1 : x.1 = .slice ((List.range len).map D) ((List.range (m - len)).map fun j => D (len + j)) := by rw [hx]
    have hb1 := bulk_elems14 hx1
    have hb2 := sum_bulk14 q D (List.range len) (fun i hi => (hq i (by have := List.mem_range.1 hi; omega)).2)
    have hb3 := bulk_len14 ((List.range len).map D)
    simp only [List.length_map, List.length_range] at hb3
    refine ⟨_, (List.range len).map q, rfl, ⟨some a, cap, by rw [hlen], by omega, hm, fun h0 => ?_⟩, by omega, by rw [hlen]; omega⟩
    rw [hlen] at h0
    obtain ⟨g, off, rfl, hg⟩ := spot_none14 (hall 0 (by omega)).1
    refine ⟨g, off, rfl, hg, fun k y hk => ?_⟩
    have hkl : k < len := by have := (List.getElem?_eq_some_iff.1 hk).1; omega
    have h0 := (hall k (by omega)).1
    rw [Addr.add_lit] at h0
    simp only [List.getElem?_map, List.getElem?_range hkl, Option.map_some, Option.some.injEq] at hk
    subst hk
    rw [Nat.mul_one]
    have hqk := (hq k (by omega)).2
    have hbk : Rows.uptoBulk (D k) ≤ Rows.uptoBulkAll ((List.range len).map D) := bulk_mem14 (List.mem_map.2 ⟨k, List.mem_range.2 hkl, rfl⟩)
    exact ⟨by omega, V k, h0, (hq k (by omega)).1⟩

end Go.Proofs.Ytmokokhhheonoaa
