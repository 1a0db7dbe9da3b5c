/- Rows of monomials, rows of limbs and rows of rows that came in, as a row of the claim reads them. -/
import Derived.Test.YtfifgmcjilkigaaPLawB
import Derived.Test.YtfifgmcjilkigaaRows
import Derived.ProofKit
import Derived.OpenShut
import Derived.ShutString
import Derived.ChangeOld
import Derived.Deep.Slices
import Derived.Deep.SlicePairs
import Derived.SizedLaws
namespace Go.Proofs.Ytfifgmcjilkigaa
open Go.ChangeShapes Go.WideShapes Go.ChangeAt Go.RowKit Go.Deep

theorem own : ownKnob Try.prog.godebug = none := by kernel_rfl

theorem spot_none {w : World} {a : Addr} {v : Value} (h : w.cell? (a.add 0) = some v) : ∃ g off, a = ⟨g, off, none⟩ ∧ g < w.heap.size := by
  obtain ⟨b, off, spot⟩ := a
  have hspot : spot = none := by simpa [Addr.add] using World.cell?_spot h
  subst hspot
  refine ⟨b, off, rfl, ?_⟩
  rw [Addr.add_lit] at h
  exact World.block_lt_of_cell? w _ h

/-- How much memory the rows of monomials take up at the most. -/
def Fit (R : Nat) (p : List Mn) : Prop := p.length * 48 ≤ R ∧ ∀ m ∈ p, m.1.length * 4 ≤ R ∧ m.2.length * 8 ≤ R

/-- How much memory the rows of polynomials take up at the most. -/
def FitP (R : Nat) (ps : List (List Mn)) : Prop := ps.length * 24 ≤ R ∧ ∀ p ∈ ps, Fit R p

theorem weight_head {H : Type} {P : Program} {t e : TypeId} {d : DataW H} {elems spare : List (DataW H)} (hd : d = .slice elems spare) (hu : P.underlying t = some (.slice e)) : (elems.length + spare.length) * P.bytesOf e ∈ d.weights P t := by
  subst hd
  simp [DataW.weights, hu]

theorem weight_all {H : Type} {P : Program} {e : TypeId} {d : DataW H} {n : Nat} : ∀ {l : List (DataW H)}, d ∈ l → n ∈ d.weights P e → n ∈ DataW.weightsAll P e l
  | [], h, _ => by cases h
  | x :: r, h, hn => by
    unfold DataW.weightsAll
    rcases List.mem_cons.1 h with rfl | h
    · exact List.mem_append_left _ hn
    · exact List.mem_append_right _ (weight_all h hn)

theorem weight_elem {H : Type} {P : Program} {t e : TypeId} {d y : DataW H} {n : Nat} {elems spare : List (DataW H)} (hd : d = .slice elems spare) (hu : P.underlying t = some (.slice e)) (hy : y ∈ elems) (hn : n ∈ y.weights P e) : n ∈ d.weights P t := by
  subst hd
  have := weight_all hy hn
  simp [DataW.weights, hu, this]

theorem weight_agg {H : Type} {P : Program} {t u : TypeId} {fs : Array Field} {parts : List (DataW H)} {y : DataW H} {j n : Nat} (hu : P.underlying t = some (.struct fs)) (hj : (fs.toList.map (·.type))[j]? = some u) (hp : parts[j]? = some y) (hn : n ∈ y.weights P u) : n ∈ (DataW.agg parts).weights P t := by
  have := DataW.weights_mem_each hj hp n hn
  simp [DataW.weights, hu, this]

theorem open_limbs {H : Type} {enc : TypeId × Value → H} {W : World} {base fuel : Nat} {held : Bool} {cs : List Value} {x : DataW H × List MemPlace}
    (h : DataW.trod enc Try.prog W base (fun _ => true) held fuel 36 cs = some x) : ∃ v xs, cs = [v] ∧ Sl W v xs ∧ ∀ R, (∀ n ∈ x.1.weights Try.prog 36, n ≤ R) → xs.length * 4 ≤ R := by
  rcases open_ints Try.underlying36 Try.underlying43 (by kernel_rfl) h with ⟨rfl, _⟩ | ⟨a, len, cap, zs, rfl, _, hl, hm, hz, hx, hcell, hwz⟩
  · exact ⟨_, [], rfl, ⟨by intro y hy; simp at hy, none, 0, rfl, by simp, by simp [maxLen], by simp⟩, by simp⟩
  · simp only [if_true] at hz
    have hlen : ((zs.take len).map Int.toNat).length = len := by simp; omega
    have hfit : ∀ R, (∀ n ∈ x.1.weights Try.prog 36, n ≤ R) → len * 4 ≤ R := by
      intro R hR
      have := hR _ (weight_head (by rw [hx]) Try.underlying36)
      rw [show Try.prog.bytesOf 43 = 4 by kernel_rfl] at this
      simp only [lits, List.length_map, List.length_take, List.length_drop] at this
      omega
    refine ⟨_, (zs.take len).map Int.toNat, rfl, ⟨?_, some a, cap, by rw [hlen], by omega, hm, fun h0 => ?_⟩, by rw [hlen]; exact hfit⟩
    · intro y hy
      obtain ⟨z, hz1, rfl⟩ := List.mem_map.1 hy
      have := bounds_u32 (hwz z (List.mem_of_mem_take hz1))
      omega
    · rw [hlen] at h0
      obtain ⟨g, off, rfl, hg⟩ := spot_none (hcell 0 (by omega))
      refine ⟨g, off, rfl, hg, fun k y hk => ?_⟩
      have hkl : k < len := by have := (List.getElem?_eq_some_iff.1 hk).1; omega
      have h1 := hcell k (by omega)
      rw [Addr.add_lit] at h1
      rw [h1]
      have hkz : k < zs.length := by omega
      have h2 := bounds_u32 (hwz zs[k] (List.getElem_mem hkz))
      simp only [List.getElem?_map, List.getElem?_take_of_lt hkl, List.getElem?_eq_getElem hkz, Option.map_some, Option.some.injEq] at hk
      rw [List.getD_eq_getElem?_getD, List.getElem?_eq_getElem hkz, Option.getD_some, ← hk]
      congr 2
      omega

theorem open_nums {H : Type} {enc : TypeId × Value → H} {W : World} {base fuel : Nat} {held : Bool} {cs : List Value} {x : DataW H × List MemPlace}
    (h : DataW.trod enc Try.prog W base (fun _ => true) held fuel 44 cs = some x) : ∃ v xs, cs = [v] ∧ Is W v xs ∧ ∀ R, (∀ n ∈ x.1.weights Try.prog 44, n ≤ R) → xs.length * 8 ≤ R := by
  rcases open_ints Try.underlying44 Try.underlying3 (by kernel_rfl) h with ⟨rfl, _⟩ | ⟨a, len, cap, zs, rfl, _, hl, hm, hz, hx, hcell, hwz⟩
  · exact ⟨_, [], rfl, Row.nil (by simp [maxLen]), by simp⟩
  · simp only [if_true] at hz
    have hlen : (zs.take len).length = len := by simp; omega
    have hfit : ∀ R, (∀ n ∈ x.1.weights Try.prog 44, n ≤ R) → len * 8 ≤ R := by
      intro R hR
      have := hR _ (weight_head (by rw [hx]) Try.underlying44)
      rw [show Try.prog.bytesOf 3 = 8 by kernel_rfl] at this
      simp only [lits, List.length_map, List.length_take, List.length_drop] at this
      omega
    refine ⟨_, zs.take len, rfl, ⟨some a, cap, by rw [hlen], by omega, hm, fun h0 => ?_⟩, by rw [hlen]; exact hfit⟩
    rw [hlen] at h0
    obtain ⟨g, off, rfl, hg⟩ := spot_none (hcell 0 (by omega))
    refine ⟨g, off, rfl, hg, fun k y hk => ?_⟩
    have hkl : k < len := by have := (List.getElem?_eq_some_iff.1 hk).1; omega
    have h1 := hcell k (by omega)
    rw [Addr.add_lit] at h1
    have hkz : k < zs.length := by omega
    have h2 := bounds_i64 (hwz zs[k] (List.getElem_mem hkz))
    rw [List.getElem?_take_of_lt hkl, List.getElem?_eq_getElem hkz, Option.some.injEq] at hk
    rw [List.getD_eq_getElem?_getD, List.getElem?_eq_getElem hkz, Option.getD_some] at h1
    subst hk
    rw [Nat.mul_one]
    exact ⟨by omega, by omega, h1⟩

theorem open_monos {H : Type} {enc : TypeId × Value → H} {W : World} {base fuel : Nat} {held : Bool} {cs : List Value} {x : DataW H × List MemPlace}
    (h : DataW.trod enc Try.prog W base (fun _ => true) held fuel 22 cs = some x) : ∃ v p, cs = [v] ∧ Ms W v p ∧ ∀ R, (∀ n ∈ x.1.weights Try.prog 22, n ≤ R) → Fit R p := by
  rcases open_slice_pairs Try.underlying22 Try.underlying46 (by kernel_rfl) rfl rfl (by kernel_rfl) (by kernel_rfl) h with ⟨rfl, _⟩ | ⟨a, len, cap, m, n, V0, V1, D0, D1, P0, P1, rfl, _, hl, hm, hmm, hx, hall⟩
  · exact ⟨_, [], rfl, Row.nil (by simp [maxLen]), fun R _ => ⟨by simp, by simp⟩⟩
  · simp only [if_true] at hmm
    have each : ∀ i, i < m → ∃ q : Mn, Mo W (V0 i) (V1 i) q ∧ ∀ R, (∀ n ∈ (D0 i).weights Try.prog 36, n ≤ R) → (∀ n ∈ (D1 i).weights Try.prog 44, n ≤ R) → q.1.length * 4 ≤ R ∧ q.2.length * 8 ≤ R := by
      intro i hi
      obtain ⟨_, _, t0, t1⟩ := hall i hi
      obtain ⟨v0, c, e0, hc, hf0⟩ := open_limbs t0
      obtain ⟨v1, e, e1, he, hf1⟩ := open_nums t1
      simp only [List.cons.injEq, and_true] at e0 e1
      subst e0; subst e1
      exact ⟨(c, e), ⟨hc, he⟩, fun R h0 h1 => ⟨hf0 R h0, hf1 R h1⟩⟩
    obtain ⟨q, hq⟩ := choose_lt each
    have hlen : ((List.range len).map q).length = len := by simp
    have hfit : ∀ R, (∀ n ∈ x.1.weights Try.prog 22, n ≤ R) → Fit R ((List.range len).map q) := by
      intro R hR
      have hx1 : x.1 = .slice ((List.range len).map fun i => .agg [D0 i, D1 i]) ((List.range (m - len)).map fun j => .agg [D0 (len + j), D1 (len + j)]) := by rw [hx]
      refine ⟨?_, fun y hy => ?_⟩
      · have := hR _ (weight_head hx1 Try.underlying22)
        rw [show Try.prog.bytesOf 46 = 48 by kernel_rfl] at this
        simp only [List.length_map, List.length_range] at this
        rw [hlen]
        omega
      · obtain ⟨i, hi, rfl⟩ := List.mem_map.1 hy
        have hi2 := List.mem_range.1 hi
        have hin : ∀ n ∈ (DataW.agg [D0 i, D1 i]).weights Try.prog 46, n ≤ R := fun n hn => hR n (weight_elem hx1 Try.underlying22 (List.mem_map.2 ⟨i, hi, rfl⟩) hn)
        refine (hq i (by omega)).2 R (fun n hn => hin n ?_) (fun n hn => hin n ?_)
        · exact weight_agg Try.underlying46 (j := 0) rfl rfl hn
        · exact weight_agg Try.underlying46 (j := 1) rfl rfl hn
    refine ⟨_, (List.range len).map q, rfl, ⟨some a, cap, by rw [hlen], by omega, hm, fun h0 => ?_⟩, hfit⟩
    rw [hlen] at h0
    obtain ⟨g, off, rfl, hg⟩ := spot_none (hall 0 (by omega)).1
    refine ⟨g, off, rfl, hg, fun k y hk => ?_⟩
    have hkl : k < len := by have := (List.getElem?_eq_some_iff.1 hk).1; omega
    obtain ⟨h0, h1, _⟩ := hall k (by omega)
    rw [Addr.add_lit] at h0 h1
    simp only [List.getElem?_map, List.getElem?_range hkl, Option.map_some, Option.some.injEq] at hk
    subst hk
    exact ⟨V0 k, V1 k, h0, h1, (hq k (by omega)).1⟩

theorem open_rows {H : Type} {enc : TypeId × Value → H} {W : World} {base fuel : Nat} {held : Bool} {cs : List Value} {x : DataW H × List MemPlace}
    (h : DataW.trod enc Try.prog W base (fun _ => true) held fuel 35 cs = some x) : ∃ v xs, cs = [v] ∧ Rs W v xs := by
  rcases open_slice1 Try.underlying35 (by kernel_rfl) h with ⟨rfl, _⟩ | ⟨a, len, cap, m, n, V, D, Pl, rfl, _, hl, hm, hmm, _, hall⟩
  · exact ⟨_, [], rfl, Row.nil (by simp [maxLen])⟩
  · simp only [if_true] at hmm
    have each : ∀ i, i < m → ∃ q : List Nat, Sl W (V i) q := by
      intro i hi
      obtain ⟨v0, c, e0, hc, _⟩ := open_limbs (hall i hi).2
      simp only [List.cons.injEq, and_true] at e0
      subst e0
      exact ⟨c, hc⟩
    obtain ⟨q, hq⟩ := choose_lt each
    have hlen : ((List.range len).map q).length = len := by simp
    refine ⟨_, (List.range len).map q, rfl, some a, cap, by rw [hlen], by omega, hm, fun h0 => ?_⟩
    rw [hlen] at h0
    obtain ⟨g, off, rfl, hg⟩ := spot_none (hall 0 (by omega)).1
    refine ⟨g, off, rfl, hg, fun k y hk => ?_⟩
    have hkl : k < len := by have := (List.getElem?_eq_some_iff.1 hk).1; omega
    have h0 := (hall k (by omega)).1
    rw [Addr.add_lit] at h0
    simp only [List.getElem?_map, List.getElem?_range hkl, Option.map_some, Option.some.injEq] at hk
    subst hk
    rw [Nat.mul_one]
    exact ⟨V k, h0, hq k (by omega)⟩

theorem open_polys {H : Type} {enc : TypeId × Value → H} {W : World} {base fuel : Nat} {held : Bool} {cs : List Value} {x : DataW H × List MemPlace}
    (h : DataW.trod enc Try.prog W base (fun _ => true) held fuel 32 cs = some x) : ∃ v xs, cs = [v] ∧ Ps W v xs ∧ ∀ R, (∀ n ∈ x.1.weights Try.prog 32, n ≤ R) → FitP R xs := by
  rcases open_slice1 Try.underlying32 (by kernel_rfl) h with ⟨rfl, _⟩ | ⟨a, len, cap, m, n, V, D, Pl, rfl, _, hl, hm, hmm, hx, hall⟩
  · exact ⟨_, [], rfl, Row.nil (by simp [maxLen]), fun R _ => ⟨by simp, by simp⟩⟩
  · simp only [if_true] at hmm
    have each : ∀ i, i < m → ∃ q : List Mn, Ms W (V i) q ∧ ∀ R, (∀ n ∈ (D i).weights Try.prog 22, n ≤ R) → Fit R q := by
      intro i hi
      obtain ⟨v0, c, e0, hc, hf⟩ := open_monos (hall i hi).2
      simp only [List.cons.injEq, and_true] at e0
      subst e0
      exact ⟨c, hc, hf⟩
    obtain ⟨q, hq⟩ := choose_lt each
    have hlen : ((List.range len).map q).length = len := by simp
    have hfit : ∀ R, (∀ n ∈ x.1.weights Try.prog 32, n ≤ R) → FitP R ((List.range len).map q) := by
      intro R hR
      have hx1 : x.1 = .slice ((List.range len).map D) ((List.range (m - len)).map fun j => D (len + j)) := by rw [hx]
      refine ⟨?_, fun y hy => ?_⟩
      · have := hR _ (weight_head hx1 Try.underlying32)
        rw [show Try.prog.bytesOf 22 = 24 by kernel_rfl] at this
        simp only [List.length_map, List.length_range] at this
        rw [hlen]
        omega
      · obtain ⟨i, hi, rfl⟩ := List.mem_map.1 hy
        have hi2 := List.mem_range.1 hi
        exact (hq i (by omega)).2 R fun n hn => hR n (weight_elem hx1 Try.underlying32 (List.mem_map.2 ⟨i, hi, rfl⟩) hn)
    refine ⟨_, (List.range len).map q, rfl, ⟨some a, cap, by rw [hlen], by omega, hm, fun h0 => ?_⟩, hfit⟩
    rw [hlen] at h0
    obtain ⟨g, off, rfl, hg⟩ := spot_none (hall 0 (by omega)).1
    refine ⟨g, off, rfl, hg, fun k y hk => ?_⟩
    have hkl : k < len := by have := (List.getElem?_eq_some_iff.1 hk).1; omega
    have h0 := (hall k (by omega)).1
    rw [Addr.add_lit] at h0
    simp only [List.getElem?_map, List.getElem?_range hkl, Option.map_some, Option.some.injEq] at hk
    subst hk
    rw [Nat.mul_one]
    exact ⟨V k, h0, (hq k (by omega)).1⟩

end Go.Proofs.Ytfifgmcjilkigaa
