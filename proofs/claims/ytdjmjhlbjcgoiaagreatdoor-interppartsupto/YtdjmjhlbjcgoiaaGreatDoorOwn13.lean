/- Texts of the proof, one behind the other. -/
import Derived.Test.YtdjmjhlbjcgoiaaGreatDoorOwn12
import Derived.Test.YtdjmjhlbjcgoiaaGreatDoorRows
import Derived.ProofKit
import Derived.OpenShut
import Derived.ShutString
import Derived.ChangeOld
import Derived.Deep.Slices
import Derived.Deep.SlicePairs
import Derived.SizedLaws
import Derived.Deep.Upon
/- The document's order and small. -/
namespace Go.Proofs.YtdjmjhlbjcgoiaaGreatDoor
open Go.RowKit Go.Maps

def ordGo (es fs : List Int) : Nat → Nat → Int
  | 0, _ => 0
  | n + 1, k => if expI es k < expI fs k then -1 else if expI fs k < expI es k then 1 else ordGo es fs n (k + 1)

/-- Which of two rows of exponents comes first, where one that ends goes on with 0. -/
def ordX (es fs : List Int) : Int := ordGo es fs (max es.length fs.length) 0

set_option maxRecDepth 100000 in
set_option maxHeartbeats 800000 in
theorem refOrder_any (v u : Value) (es fs : List Int) (w : World) (h : Is w v es) (h' : Is w u fs) :
    Calls Tryz.prog 92 #[v, u] w fun e w' => e = .returned (.int .i64 (ordX es fs)) ∧ w' = w := by
  obtain ⟨ao, cap, rfl, hao, hca, q0⟩ := Row.flat h
  obtain ⟨bo, cap', rfl, hbo, hcb, q0'⟩ := Row.flat h'
  unfold maxLen at hca hcb
  have HI : Hid (Is w (.slice ao es.length cap) es) := h
  have HJ : Hid (Is w (.slice bo fs.length cap') fs) := h'
  clear h h' q0 q0'
  go_enter Tryz.func92, Tryz.ntmps92
  go_wp2
  go_loopw [5] (fun i wr => ∃ k : Nat, k ≤ max es.length fs.length ∧ i = .int .i64 k ∧ ordX es fs = ordGo es fs (max es.length fs.length - k) k ∧ wr = w) (fun i _ => max es.length fs.length - (intOf i).toNat)
  case atStart => exact ⟨0, by omega, rfl, rfl, rfl⟩
  case round =>
    obtain ⟨k, hk, rfl, ho, hw⟩ := hrel
    have hw8 := hw.symm
    subst hw8
    clear hw
    have HO : Hid (ordX es fs = ordGo es fs (max es.length fs.length - k) k) := ho
    clear ho
    by_cases hend : k < max es.length fs.length
    · have HS : Hid (ordX es fs = if expI es k < expI fs k then -1 else if expI fs k < expI es k then 1 else ordGo es fs (max es.length fs.length - (k + 1)) (k + 1)) := by
        show _ = _
        rw [HO.out, show max es.length fs.length - k = (max es.length fs.length - (k + 1)) + 1 by omega, ordGo]
      have hgo : (k < es.length) ∨ (decide (k < es.length) = false ∧ k < fs.length) := by
        by_cases h1 : k < es.length
        · exact .inl h1
        · exact .inr ⟨decide_eq_false h1, by omega⟩
      have hk6 : k ≤ 9223372036854775807 := by omega
      obtain ⟨X, hX⟩ : ∃ X, X = expI es k := ⟨_, rfl⟩
      obtain ⟨Y, hY⟩ : ∃ Y, Y = expI fs k := ⟨_, rfl⟩
      have HX : Hid (X = expI es k) := hX
      have HY : Hid (Y = expI fs k) := hY
      rw [← hX, ← hY] at HS
      clear hX hY
      have hcon1 := fun W (hh : Is W (.slice ao es.length cap) es) => refExp_any (.slice ao es.length cap) es k W hh hk6
      have hm : (k : Int) + 1 ≤ 9223372036854775807 := by omega
      by_cases h1 : X < Y
      · rw [if_pos h1] at HS
        have HS2 : Hid (ordX es fs = -1) := HS
        rcases hgo with hgo | ⟨hgo, hgo2⟩
        all_goals
          clear hcon1
          go_wp2_with fail
          refine (refExp_any _ es k _ HI.out hk6).mono ?_
          rw [← HX.out]
          rintro e w9 ⟨rfl, hw9⟩
          have hw8 := hw9.symm
          subst hw8
          clear hw9
          go_wp2_with fail
          refine (refExp_any _ fs k _ HJ.out hk6).mono ?_
          rw [← HY.out]
          rintro e w9 ⟨rfl, hw9⟩
          have hw8 := hw9.symm
          subst hw8
          clear hw9
          go_wp2
          go_ret
          exact ⟨ret1i HS2.out.symm, rfl⟩
      by_cases h2 : Y < X
      · rw [if_neg h1, if_pos h2] at HS
        have HS2 : Hid (ordX es fs = 1) := HS
        have hd1 : decide (X < Y) = false := decide_eq_false h1
        have hd2 : decide (Y < X) = true := decide_eq_true h2
        clear h1 h2 HS
        rcases hgo with hgo | ⟨hgo, hgo2⟩
        all_goals
          clear hcon1
          go_wp2_with fail
          refine (refExp_any _ es k _ HI.out hk6).mono ?_
          rw [← HX.out]
          rintro e w9 ⟨rfl, hw9⟩
          have hw8 := hw9.symm
          subst hw8
          clear hw9
          go_wp2_with fail
          refine (refExp_any _ fs k _ HJ.out hk6).mono ?_
          rw [← HY.out]
          rintro e w9 ⟨rfl, hw9⟩
          have hw8 := hw9.symm
          subst hw8
          clear hw9
          go_wp2
          go_ret
          exact ⟨ret1i HS2.out.symm, rfl⟩
      · rw [if_neg h1, if_neg h2] at HS
        have HS2 : Hid (ordX es fs = ordGo es fs (max es.length fs.length - (k + 1)) (k + 1)) := HS
        obtain rfl : X = Y := by omega
        clear h1 h2 HS
        rcases hgo with hgo | ⟨hgo, hgo2⟩
        all_goals
          clear hcon1
          go_wp2_with fail
          refine (refExp_any _ es k _ HI.out hk6).mono ?_
          rw [← HX.out]
          rintro e w9 ⟨rfl, hw9⟩
          have hw8 := hw9.symm
          subst hw8
          clear hw9
          go_wp2_with fail
          refine (refExp_any _ fs k _ HJ.out hk6).mono ?_
          rw [← HY.out]
          rintro e w9 ⟨rfl, hw9⟩
          have hw8 := hw9.symm
          subst hw8
          clear hw9
          go_wp2
          go_roundw
          case rel => exact ⟨k + 1, by omega, by go_num, HS2.out, trivial⟩
          case measure => simp [intOf]; omega
    · have hke : k = max es.length fs.length := by omega
      have HF : Hid (ordX es fs = 0) := by
        show _ = _
        rw [HO.out, hke, Nat.sub_self]
        rfl
      have hd1 : decide (k < es.length) = false := decide_eq_false (by omega)
      have hd2 : decide (k < fs.length) = false := decide_eq_false (by omega)
      clear hke
      go_wp2
      go_ret
      exact ⟨ret1i HF.out.symm, rfl⟩

/-- Whether a monomial is in bounds, as the document's small says it. -/
def smallR (m : Mn) : Bool := m.2.all (fun n => decide (n ≤ 64)) && (decide (m.1.length ≤ 64) && decide (m.2.length ≤ 512))

set_option maxRecDepth 100000 in
set_option maxHeartbeats 800000 in
theorem refSmall_any (cv ev : Value) (m : Mn) (w : World) (h : Mo w cv ev m) :
    Calls Tryz.prog 93 #[.agg #[cv, ev]] w fun e w' => e = .returned (.bool (smallR m)) ∧ Below w.heap.size w w' := by
  obtain ⟨c, es⟩ := m
  obtain ⟨hs, hi⟩ := h
  simp only at hs hi
  have hB := below_alloc (w := w) (.cells #[cv, ev] 37)
  have HB : Hid (Below w.heap.size w (w.alloc (.cells #[cv, ev] 37))) := hB
  have hi2 := hi.kp (Kp.of_below hB)
  obtain ⟨ao, cap, rfl, hao, hca, q0⟩ := hs.flat
  obtain ⟨bo, cap', rfl, hbo, hcb, hcl⟩ := hi2.flat
  unfold maxLen at hca hcb
  clear q0 hs hi hi2 hB
  go_enter Tryz.func93, Tryz.ntmps93
  go_wp2
  obtain ⟨wb, hwb⟩ : ∃ wb, wb = w.alloc (.cells #[.slice ao c.length cap, .slice bo es.length cap'] 37) := ⟨_, rfl⟩
  have hc0 : wb.cell? ⟨w.heap.size, 0, none⟩ = some (.slice ao c.length cap) := by rw [hwb]; simp
  have hc1 : wb.cell? ⟨w.heap.size, 1, none⟩ = some (.slice bo es.length cap') := by rw [hwb]; simp
  rw [← hwb] at HB hcl ⊢
  clear hwb
  go_loopw [3] (fun i wr => ∃ k : Nat, k ≤ es.length ∧ i = .int .i64 k ∧ (∀ (j : Nat) (x : Int), j < k → es[j]? = some x → x ≤ 64) ∧ wr = wb) (fun i _ => es.length - (intOf i).toNat)
  case atStart => exact ⟨0, by omega, rfl, fun j x hj => absurd hj (by omega), rfl⟩
  case round =>
    obtain ⟨k, hk, rfl, hp, hw⟩ := hrel
    subst hw
    have HP : Hid (∀ (j : Nat) (x : Int), j < k → es[j]? = some x → x ≤ 64) := hp
    clear hp
    by_cases hlt : k < es.length
    · obtain ⟨g, off, x, rfl, hx1, hx2, hx3, hx4⟩ := hcl k hlt
      have HX : Hid (es[k]? = some x) := hx1
      rw [Nat.mul_one] at hx4
      clear hx1 hcl
      by_cases hx : x ≤ 64
      · go_wp2
        go_roundw
        case rel =>
          refine ⟨k + 1, by omega, by go_num, fun j y hj hy => ?_, trivial⟩
          by_cases hjk : j = k
          · subst hjk; rw [HX.out] at hy; cases hy; exact hx
          · exact HP.out j y (by omega) hy
        case measure => simp [intOf]; omega
      · have HF : Hid (smallR (c, es) = false) := by
          show _ = _
          have : es.all (fun n => decide (n ≤ 64)) = false := by rw [List.all_eq_false]; exact ⟨x, List.mem_of_getElem? HX.out, by simp; omega⟩
          simp [smallR, this]
        go_wp2
        go_ret
        exact ⟨ret1b HF.out.symm, HB.out⟩
    · have hke : k = es.length := by omega
      subst hke
      have HF : Hid (smallR (c, es) = (decide (c.length ≤ 64) && decide (es.length ≤ 512))) := by
        show _ = _
        have : es.all (fun n => decide (n ≤ 64)) = true := by
          rw [List.all_eq_true]
          intro x hx
          obtain ⟨j, hj⟩ := List.mem_iff_getElem?.1 hx
          simpa using HP.out j x (List.getElem?_eq_some_iff.1 hj).1 hj
        simp only [smallR, this, Bool.true_and]
      clear hcl
      by_cases h64 : c.length ≤ 64
      · have HF2 : Hid (smallR (c, es) = decide (es.length ≤ 512)) := by
          show _ = _
          rw [HF.out, decide_eq_true h64, Bool.true_and]
        go_wp2
        go_ret
        exact ⟨ret1b ((decide_eq_decide.2 (by omega)).trans HF2.out.symm), HB.out⟩
      · have hd : decide (c.length ≤ 64) = false := decide_eq_false h64
        have HF2 : Hid (smallR (c, es) = false) := by
          show _ = _
          rw [HF.out, hd, Bool.false_and]
        go_wp2
        go_ret
        exact ⟨ret1b HF2.out.symm, HB.out⟩

end Go.Proofs.YtdjmjhlbjcgoiaaGreatDoor

/- one of the law file, and small rows in memory. -/
namespace Go.Proofs.YtdjmjhlbjcgoiaaGreatDoor
open Go.RowKit Go.Maps

theorem is_two {w : World} {g : Nat} {a b : Int} (ha : -9223372036854775808 ≤ a ∧ a ≤ 9223372036854775807) (hb : -9223372036854775808 ≤ b ∧ b ≤ 9223372036854775807) (h : w.cell? ⟨g, 0, none⟩ = some (.int .i64 a)) (h' : w.cell? ⟨g, 1, none⟩ = some (.int .i64 b)) : Is w (.slice (some ⟨g, 0, none⟩) 2 2) [a, b] := by
  refine ⟨_, 2, rfl, by simp, by simp [maxLen], fun _ => ⟨g, 0, rfl, World.block_lt_of_cell? w _ h, ?_⟩⟩
  intro k x hk
  have hlt := (List.getElem?_eq_some_iff.1 hk).1
  match k, hlt with
  | 0, _ =>
    simp only [List.getElem?_cons_zero, Option.some.injEq] at hk
    subst hk
    exact ⟨ha.1, ha.2, h⟩
  | 1, _ =>
    simp only [List.getElem?_cons_succ, List.getElem?_cons_zero, Option.some.injEq] at hk
    subst hk
    exact ⟨hb.1, hb.2, h'⟩

end Go.Proofs.YtdjmjhlbjcgoiaaGreatDoor

/- Rows of monomials, rows of limbs and rows of rows that came in, as a row of the claim reads them. -/
namespace Go.Proofs.YtdjmjhlbjcgoiaaGreatDoor
open Go.ChangeShapes Go.WideShapes Go.ChangeAt Go.RowKit Go.Deep

theorem spot_noneY {w : World} {a : Addr} {v : Value} (h : w.cell? (a.add 0) = some v) : ∃ g off, a = ⟨g, off, none⟩ ∧ g < w.heap.size := by
  obtain ⟨b, off, spot⟩ := a
  have hspot : spot = none := by simpa [Addr.add] using World.cell?_spot h
  subst hspot
  refine ⟨b, off, rfl, ?_⟩
  rw [Addr.add_lit] at h
  exact World.block_lt_of_cell? w _ h

/-- How much memory the rows of monomials take up at the most. -/
def Fit (R : Nat) (p : List Mn) : Prop := p.length * 48 ≤ R ∧ ∀ m ∈ p, m.1.length * 4 ≤ R ∧ m.2.length * 8 ≤ R

theorem weight_headY {H : Type} {P : Program} {t e : TypeId} {d : DataW H} {elems spare : List (DataW H)} (hd : d = .slice elems spare) (hu : P.underlying t = some (.slice e)) : (elems.length + spare.length) * P.bytesOf e ∈ d.weights P t := by
  subst hd
  simp [DataW.weights, hu]

theorem weight_allY {H : Type} {P : Program} {e : TypeId} {d : DataW H} {n : Nat} : ∀ {l : List (DataW H)}, d ∈ l → n ∈ d.weights P e → n ∈ DataW.weightsAll P e l
  | [], h, _ => by cases h
  | x :: r, h, hn => by
    unfold DataW.weightsAll
    rcases List.mem_cons.1 h with rfl | h
    · exact List.mem_append_left _ hn
    · exact List.mem_append_right _ (weight_allY h hn)

theorem weight_elemY {H : Type} {P : Program} {t e : TypeId} {d y : DataW H} {n : Nat} {elems spare : List (DataW H)} (hd : d = .slice elems spare) (hu : P.underlying t = some (.slice e)) (hy : y ∈ elems) (hn : n ∈ y.weights P e) : n ∈ d.weights P t := by
  subst hd
  have := weight_allY hy hn
  simp [DataW.weights, hu, this]

theorem weight_aggY {H : Type} {P : Program} {t u : TypeId} {fs : Array Field} {parts : List (DataW H)} {y : DataW H} {j n : Nat} (hu : P.underlying t = some (.struct fs)) (hj : (fs.toList.map (·.type))[j]? = some u) (hp : parts[j]? = some y) (hn : n ∈ y.weights P u) : n ∈ (DataW.agg parts).weights P t := by
  have := DataW.weights_mem_each hj hp n hn
  simp [DataW.weights, hu, this]

theorem open_limbs {H : Type} {enc : TypeId × Value → H} {W : World} {base fuel : Nat} {held : Bool} {cs : List Value} {x : DataW H × List MemPlace}
    (h : DataW.trod enc Tryz.prog W base (fun _ => true) held fuel 35 cs = some x) : ∃ v xs, cs = [v] ∧ Sl W v xs ∧ ∀ R, (∀ n ∈ x.1.weights Tryz.prog 35, n ≤ R) → xs.length * 4 ≤ R := by
  rcases open_ints Tryz.underlying35 Tryz.underlying38 (by kernel_rfl) h with ⟨rfl, _⟩ | ⟨a, len, cap, zs, rfl, _, hl, hm, hz, hx, hcell, hwz⟩
  · exact ⟨_, [], rfl, ⟨by intro y hy; simp at hy, none, 0, rfl, by simp, by simp [maxLen], by simp⟩, by simp⟩
  · simp only [if_true] at hz
    have hlen : ((zs.take len).map Int.toNat).length = len := by simp; omega
    have hfit : ∀ R, (∀ n ∈ x.1.weights Tryz.prog 35, n ≤ R) → len * 4 ≤ R := by
      intro R hR
      have := hR _ (weight_headY (by rw [hx]) Tryz.underlying35)
      rw [show Tryz.prog.bytesOf 38 = 4 by kernel_rfl] at this
      simp only [lits, List.length_map, List.length_take, List.length_drop] at this
      omega
    refine ⟨_, (zs.take len).map Int.toNat, rfl, ⟨?_, some a, cap, by rw [hlen], by omega, hm, fun h0 => ?_⟩, by rw [hlen]; exact hfit⟩
    · intro y hy
      obtain ⟨z, hz1, rfl⟩ := List.mem_map.1 hy
      have := bounds_u32 (hwz z (List.mem_of_mem_take hz1))
      omega
    · rw [hlen] at h0
      obtain ⟨g, off, rfl, hg⟩ := spot_noneY (hcell 0 (by omega))
      refine ⟨g, off, rfl, hg, fun k y hk => ?_⟩
      have hkl : k < len := by have := (List.getElem?_eq_some_iff.1 hk).1; omega
      have h1 := hcell k (by omega)
      rw [Addr.add_lit] at h1
      rw [h1]
      have hkz : k < zs.length := by omega
      have h2 := bounds_u32 (hwz zs[k] (List.getElem_mem hkz))
      simp only [List.getElem?_map, List.getElem?_take_of_lt hkl, List.getElem?_eq_getElem hkz, Option.map_some, Option.some.injEq] at hk
      rw [List.getD_eq_getElem?_getD, List.getElem?_eq_getElem hkz, Option.getD_some, ← hk]
      congr 2
      omega

theorem open_numsY {H : Type} {enc : TypeId × Value → H} {W : World} {base fuel : Nat} {held : Bool} {cs : List Value} {x : DataW H × List MemPlace}
    (h : DataW.trod enc Tryz.prog W base (fun _ => true) held fuel 30 cs = some x) : ∃ v xs, cs = [v] ∧ Is W v xs ∧ ∀ R, (∀ n ∈ x.1.weights Tryz.prog 30, n ≤ R) → xs.length * 8 ≤ R := by
  rcases open_ints Tryz.underlying30 Tryz.underlying3 (by kernel_rfl) h with ⟨rfl, _⟩ | ⟨a, len, cap, zs, rfl, _, hl, hm, hz, hx, hcell, hwz⟩
  · exact ⟨_, [], rfl, Row.nil (by simp [maxLen]), by simp⟩
  · simp only [if_true] at hz
    have hlen : (zs.take len).length = len := by simp; omega
    have hfit : ∀ R, (∀ n ∈ x.1.weights Tryz.prog 30, n ≤ R) → len * 8 ≤ R := by
      intro R hR
      have := hR _ (weight_headY (by rw [hx]) Tryz.underlying30)
      rw [show Tryz.prog.bytesOf 3 = 8 by kernel_rfl] at this
      simp only [lits, List.length_map, List.length_take, List.length_drop] at this
      omega
    refine ⟨_, zs.take len, rfl, ⟨some a, cap, by rw [hlen], by omega, hm, fun h0 => ?_⟩, by rw [hlen]; exact hfit⟩
    rw [hlen] at h0
    obtain ⟨g, off, rfl, hg⟩ := spot_noneY (hcell 0 (by omega))
    refine ⟨g, off, rfl, hg, fun k y hk => ?_⟩
    have hkl : k < len := by have := (List.getElem?_eq_some_iff.1 hk).1; omega
    have h1 := hcell k (by omega)
    rw [Addr.add_lit] at h1
    have hkz : k < zs.length := by omega
    have h2 := bounds_i64 (hwz zs[k] (List.getElem_mem hkz))
    rw [List.getElem?_take_of_lt hkl, List.getElem?_eq_getElem hkz, Option.some.injEq] at hk
    rw [List.getD_eq_getElem?_getD, List.getElem?_eq_getElem hkz, Option.getD_some] at h1
    subst hk
    rw [Nat.mul_one]
    exact ⟨by omega, by omega, h1⟩

theorem open_monos {H : Type} {enc : TypeId × Value → H} {W : World} {base fuel : Nat} {held : Bool} {cs : List Value} {x : DataW H × List MemPlace}
    (h : DataW.trod enc Tryz.prog W base (fun _ => true) held fuel 31 cs = some x) : ∃ v p, cs = [v] ∧ Ms W v p ∧ ∀ R, (∀ n ∈ x.1.weights Tryz.prog 31, n ≤ R) → Fit R p := by
  rcases open_slice_pairs Tryz.underlying31 Tryz.underlying37 (by kernel_rfl) rfl rfl (by kernel_rfl) (by kernel_rfl) h with ⟨rfl, _⟩ | ⟨a, len, cap, m, n, V0, V1, D0, D1, P0, P1, rfl, _, hl, hm, hmm, hx, hall⟩
  · exact ⟨_, [], rfl, Row.nil (by simp [maxLen]), fun R _ => ⟨by simp, by simp⟩⟩
  · simp only [if_true] at hmm
    have each : ∀ i, i < m → ∃ q : Mn, Mo W (V0 i) (V1 i) q ∧ ∀ R, (∀ n ∈ (D0 i).weights Tryz.prog 35, n ≤ R) → (∀ n ∈ (D1 i).weights Tryz.prog 30, n ≤ R) → q.1.length * 4 ≤ R ∧ q.2.length * 8 ≤ R := by
      intro i hi
      obtain ⟨_, _, t0, t1⟩ := hall i hi
      obtain ⟨v0, c, e0, hc, hf0⟩ := open_limbs t0
      obtain ⟨v1, e, e1, he, hf1⟩ := open_numsY t1
      simp only [List.cons.injEq, and_true] at e0 e1
      subst e0; subst e1
      exact ⟨(c, e), ⟨hc, he⟩, fun R h0 h1 => ⟨hf0 R h0, hf1 R h1⟩⟩
    obtain ⟨q, hq⟩ := choose_lt each
    have hlen : ((List.range len).map q).length = len := by simp
    have hfit : ∀ R, (∀ n ∈ x.1.weights Tryz.prog 31, n ≤ R) → Fit R ((List.range len).map q) := by
      intro R hR
      have hx1 : x.1 = .slice ((List.range len).map fun i => .agg [D0 i, D1 i]) ((List.range (m - len)).map fun j => .agg [D0 (len + j), D1 (len + j)]) := by rw [hx]
      refine ⟨?_, fun y hy => ?_⟩
      · have := hR _ (weight_headY hx1 Tryz.underlying31)
        rw [show Tryz.prog.bytesOf 37 = 48 by kernel_rfl] at this
        simp only [List.length_map, List.length_range] at this
        rw [hlen]
        omega
      · obtain ⟨i, hi, rfl⟩ := List.mem_map.1 hy
        have hi2 := List.mem_range.1 hi
        have hin : ∀ n ∈ (DataW.agg [D0 i, D1 i]).weights Tryz.prog 37, n ≤ R := fun n hn => hR n (weight_elemY hx1 Tryz.underlying31 (List.mem_map.2 ⟨i, hi, rfl⟩) hn)
        refine (hq i (by omega)).2 R (fun n hn => hin n ?_) (fun n hn => hin n ?_)
        · exact weight_aggY Tryz.underlying37 (j := 0) rfl rfl hn
        · exact weight_aggY Tryz.underlying37 (j := 1) rfl rfl hn
    refine ⟨_, (List.range len).map q, rfl, ⟨some a, cap, by rw [hlen], by omega, hm, fun h0 => ?_⟩, hfit⟩
    rw [hlen] at h0
    obtain ⟨g, off, rfl, hg⟩ := spot_noneY (hall 0 (by omega)).1
    refine ⟨g, off, rfl, hg, fun k y hk => ?_⟩
    have hkl : k < len := by have := (List.getElem?_eq_some_iff.1 hk).1; omega
    obtain ⟨h0, h1, _⟩ := hall k (by omega)
    rw [Addr.add_lit] at h0 h1
    simp only [List.getElem?_map, List.getElem?_range hkl, Option.map_some, Option.some.injEq] at hk
    subst hk
    exact ⟨V0 k, V1 k, h0, h1, (hq k (by omega)).1⟩

end Go.Proofs.YtdjmjhlbjcgoiaaGreatDoor

/- What lies away from some blocks; rows of monomials that alias older ones. -/
namespace Go.Proofs.YtdjmjhlbjcgoiaaGreatDoor
open Go.RowKit Go.Maps

/-- The world with nothing in the blocks outside of A. -/
def onlyY (A : Nat → Bool) (w : World) : World := { w with heap := w.heap.mapIdx fun g o => if A g then o else .cells #[] 0 }

theorem only_sizeY (A : Nat → Bool) (w : World) : (onlyY A w).heap.size = w.heap.size := by simp [onlyY]

theorem only_blockY {A : Nat → Bool} {w : World} {g : Nat} (h : A g = true) : (onlyY A w).heap[g]? = w.heap[g]? := by
  simp only [onlyY, Array.getElem?_mapIdx, h, if_true]
  cases w.heap[g]? <;> rfl

theorem only_notY {A : Nat → Bool} {w : World} {a : Addr} (h : ¬ A a.block = true) : (onlyY A w).cell? a = none := by
  have hf : A a.block = false := by simpa using h
  unfold World.cell?
  simp only [onlyY, Array.getElem?_mapIdx]
  cases w.heap[a.block]? with
  | none => rfl
  | some o => simp [hf]

theorem only_cellY {A : Nat → Bool} {w : World} {a : Addr} (h : A a.block = true) : (onlyY A w).cell? a = w.cell? a := by
  unfold World.cell?
  rw [only_blockY h]

theorem only_kp (A : Nat → Bool) (w : World) : Kp (onlyY A w) w := by
  refine ⟨by rw [only_sizeY]; exact Nat.le_refl _, fun a v hv => ?_⟩
  by_cases h : A a.block = true
  · rw [only_cellY h] at hv
    exact hv
  · rw [only_notY h] at hv
    cases hv

/-- All blocks of A are as they were. -/
theorem only_step {A : Nat → Bool} {w w' : World} (hs : w.heap.size ≤ w'.heap.size) (h : ∀ g, g < w.heap.size → A g = true → w'.heap[g]? = w.heap[g]?) : Kp (onlyY A w) (onlyY A w') := by
  refine ⟨by rw [only_sizeY, only_sizeY]; exact hs, fun a v hv => ?_⟩
  by_cases hA : A a.block = true
  · have hlt := World.block_lt_of_cell? _ _ hv
    rw [only_sizeY] at hlt
    rw [only_cellY hA] at hv ⊢
    rw [World.cell?_of_block (h _ hlt hA)]
    exact hv
  · rw [only_notY hA] at hv
    cases hv

theorem only_below {A : Nat → Bool} {w w' : World} (h : Below w.heap.size w w') : Kp (onlyY A w) (onlyY A w') := only_step h.size fun g hg _ => h.block g hg

theorem only_owns {A : Nat → Bool} {w : World} {base : Nat} {e : TypeId} {s n : Nat} {v : Value} {xs : List Value} (h : w.ownsRow base e s v n xs) (hA : ∀ g, base ≤ g → A g = true) : (onlyY A w).ownsRow base e s v n xs := by
  refine ⟨h.1, ?_⟩
  rcases h.2 with h | ⟨g, cap, cur, hv, hb, hg, r⟩
  · exact .inl h
  · exact .inr ⟨g, cap, cur, hv, hb, by rw [only_blockY (hA g hb)]; exact hg, r⟩

end Go.Proofs.YtdjmjhlbjcgoiaaGreatDoor

/- What a polynomial is worth, as a natural. -/
namespace Go.Proofs.YtdjmjhlbjcgoiaaGreatDoor
open Go.RowKit Go.Maps

/-- The least natural that has too many limbs. -/
def bigN : Nat := 4294967296 ^ 64

theorem limbs_short (n : Nat) : (limbs n).length ≤ 64 ↔ n < bigN := by
  refine ⟨fun h => ?_, fun h => length_limbs_le h⟩
  have h1 := val_lt (limbs_lim n)
  rw [val_limbs] at h1
  exact Nat.lt_of_lt_of_le h1 (Nat.pow_le_pow_right (by omega) h)

/-- The limbs of a natural that has not too many of them. -/
def RtY (xs : List Nat) (n : Nat) : Prop := xs = limbs n ∧ n < bigN

theorem RtY.right {xs : List Nat} {n : Nat} (h : RtY xs n) : rightB xs = true := by
  rw [h.1, rightB_limbs]
  exact decide_eq_true ((limbs_short n).2 h.2)

theorem RtY.val {xs : List Nat} {n : Nat} (h : RtY xs n) : val xs = n := by rw [h.1, val_limbs]

theorem RtY.of {xs : List Nat} (h : Lim xs) (hr : rightB xs = true) : RtY xs (Go.Proofs.YtdjmjhlbjcgoiaaGreatDoor.val xs) :=
  ⟨(limbs_val_of_right h hr).symm, (limbs_short _).1 (by rw [limbs_val_of_right h hr]; exact length_le_of_right hr)⟩

theorem res_ok {n : Nat} (h : n < bigN) : resL n = limbs n ∧ resE n = 0 := by
  unfold resL resE
  rw [if_pos ((limbs_short n).2 h), if_pos ((limbs_short n).2 h)]
  exact ⟨rfl, rfl⟩

theorem res_no {n : Nat} (h : bigN ≤ n) : resL n = [] ∧ resE n = 2 := by
  have : ¬ (limbs n).length ≤ 64 := fun hh => by have := (limbs_short n).1 hh; omega
  unfold resL resE
  rw [if_neg this, if_neg this]
  exact ⟨rfl, rfl⟩

theorem mul_ok {xs ys : List Nat} {a b : Nat} (h : RtY xs a) (h' : RtY ys b) (hb : a * b < bigN) : mulE xs ys = 0 ∧ RtY (mulL xs ys) (a * b) := by
  unfold mulE mulL
  rw [h.right, h'.right, h.val, h'.val, (res_ok hb).1, (res_ok hb).2]
  exact ⟨rfl, rfl, hb⟩

theorem mul_no {xs ys : List Nat} {a b : Nat} (h : RtY xs a) (h' : RtY ys b) (hb : bigN ≤ a * b) : mulE xs ys = 2 ∧ mulL xs ys = [] := by
  unfold mulE mulL
  rw [h.right, h'.right, h.val, h'.val, (res_no hb).1, (res_no hb).2]
  exact ⟨rfl, rfl⟩

theorem add_ok {xs ys : List Nat} {a b : Nat} (h : RtY xs a) (h' : RtY ys b) (hb : a + b < bigN) : addE xs ys = 0 ∧ RtY (addL xs ys) (a + b) := by
  unfold addE addL
  rw [h.right, h'.right, h.val, h'.val, (res_ok hb).1, (res_ok hb).2]
  exact ⟨rfl, rfl, hb⟩

theorem add_no {xs ys : List Nat} {a b : Nat} (h : RtY xs a) (h' : RtY ys b) (hb : bigN ≤ a + b) : addE xs ys = 2 ∧ addL xs ys = [] := by
  unfold addE addL
  rw [h.right, h'.right, h.val, h'.val, (res_no hb).1, (res_no hb).2]
  exact ⟨rfl, rfl⟩

theorem bit_top {n : Nat} (h1 : 1 ≤ n) (h2 : n ≤ 64) : n / 2 ^ (Lib.bitLen n - 1) = 1 := by
  have h : ∀ k : Fin 65, 1 ≤ k.1 → k.1 / 2 ^ (Lib.bitLen k.1 - 1) = 1 := by decide +kernel
  exact h ⟨n, by omega⟩ h1

theorem val_pos {f : List Nat} (h : Lim f) (hr : rightB f = true) (h0 : ¬ f.length = 0) : 1 ≤ val f := by
  rcases Nat.eq_zero_or_pos (val f) with h1 | h1
  · have := limbs_val_of_right h hr
    rw [h1, limbs_zero] at this
    rw [← this] at h0
    exact absurd rfl h0
  · exact h1

/-- A monomial's limbs and exponents are right. -/
def GoodM (m : Mn) : Prop := Lim m.1 ∧ rightB m.1 = true ∧ ¬ m.1.length = 0 ∧ ∀ n ∈ m.2, 0 ≤ n ∧ n ≤ 64

end Go.Proofs.YtdjmjhlbjcgoiaaGreatDoor

/- Greater is greater: plain data. -/
namespace Go.Proofs.YtdjmjhlbjcgoiaaGreatDoor
open Go.RowKit Go.Maps

def SortedX : List Mn → Prop
  | [] => True
  | [_] => True
  | m :: n :: r => cmpX m.2 n.2 < 0 ∧ SortedX (n :: r)

theorem SortedX.tail {m : Mn} {r : List Mn} (h : SortedX (m :: r)) : SortedX r := by
  cases r with
  | nil => exact trivial
  | cons n r => exact h.2

theorem SortedX.head {m n : Mn} {r : List Mn} (h : SortedX (m :: r)) (hn : r[0]? = some n) : cmpX m.2 n.2 < 0 := by
  cases r with
  | nil => simp at hn
  | cons n' r =>
    simp at hn
    subst hn
    exact h.1

theorem sortedX_of {p : List Mn} (h : ∀ k m n, p[k]? = some m → p[k + 1]? = some n → cmpX m.2 n.2 < 0) : SortedX p := by
  induction p with
  | nil => exact trivial
  | cons m r ih =>
    cases r with
    | nil => exact trivial
    | cons n r => exact ⟨h 0 m n rfl rfl, ih fun k a b ha hb => h (k + 1) a b ha hb⟩

theorem polyB_sorted {p : List Mn} {vars : Int} (h : polyB p vars = true) : SortedX p := by
  refine sortedX_of fun k m n hm hn => ?_
  have := polyB_iff.1 h (k + 1) (List.getElem?_eq_some_iff.1 hn).1
  unfold okAt at this
  simp only [Bool.and_eq_true, Bool.or_eq_true, beq_iff_eq, decide_eq_true_eq] at this
  have h2 := this.2.resolve_left (by omega)
  unfold expsAt at h2
  rw [Nat.add_sub_cancel, hm, hn] at h2
  exact h2

theorem polyB_good {p : List Mn} {vars : Int} (h : polyB p vars = true) {m : Mn} (hm : m ∈ p) : monB m = true ∧ (m.2.length : Int) ≤ vars := by
  obtain ⟨k, hk⟩ := List.mem_iff_getElem?.1 hm
  have := polyB_iff.1 h k (List.getElem?_eq_some_iff.1 hk).1
  unfold okAt at this
  rw [hk] at this
  simp only [Bool.and_eq_true, decide_eq_true_eq] at this
  exact this.1

/-- A polynomial that Check lets by. -/
structure Pol (p : List Mn) : Prop where
  lim : ∀ m ∈ p, Lim m.1
  mon : ∀ m ∈ p, monB m = true
  sort : SortedX p
  small : ∀ m ∈ p, m.2.length ≤ 512 ∧ ∀ n ∈ m.2, n ≤ 64
  len : p.length ≤ 256

theorem check_iff {p : List Mn} {vars : Int} (hv : ¬ vars < 0) : checkE p vars = 0 ↔ polyB p vars = true ∧ boundsB p = true := by
  unfold checkE
  rw [if_neg hv]
  cases hp : polyB p vars <;> cases hb : boundsB p <;> simp

theorem Pol.of {p : List Mn} {vars : Int} (hl : ∀ m ∈ p, Lim m.1) (hv : ¬ vars < 0) (h : checkE p vars = 0) : Pol p := by
  obtain ⟨h1, h2⟩ := (check_iff hv).1 h
  simp only [boundsB, smallB, Bool.and_eq_true, decide_eq_true_eq, List.all_eq_true] at h2
  exact ⟨hl, fun m hm => (polyB_good h1 hm).1, polyB_sorted h1, h2.2, h2.1⟩

theorem Pol.good {p : List Mn} (h : Pol p) {m : Mn} (hm : m ∈ p) : GoodM m := by
  have h1 := h.mon m hm
  obtain ⟨c, es⟩ := m
  simp only [monB, Bool.and_eq_true, List.all_eq_true, decide_eq_true_eq, Bool.not_eq_true', beq_eq_false_iff_ne, ne_eq] at h1
  exact ⟨h.lim _ hm, h1.1.1.2, h1.1.1.1, fun n hn => ⟨h1.1.2 n hn, (h.small _ hm).2 n hn⟩⟩

theorem okAt_vars {p : List Mn} {a b : Int} {k : Nat} (h : okAt p a k = true) (hb : ∀ m, p[k]? = some m → (m.2.length : Int) ≤ b) : okAt p b k = true := by
  unfold okAt at h ⊢
  cases hk : p[k]? with
  | none => rw [hk] at h; simp at h
  | some m =>
    rw [hk] at h
    simp only [Bool.and_eq_true, decide_eq_true_eq] at h ⊢
    exact ⟨⟨h.1.1, hb m hk⟩, h.2⟩

/-- How many variables are asked for does not matter, where there are enough. -/
theorem check_vars {p : List Mn} {a b : Int} (ha : ¬ a < 0) (hb : 512 ≤ b) (h : checkE p a = 0) : checkE p b = 0 := by
  obtain ⟨h1, h2⟩ := (check_iff ha).1 h
  refine (check_iff (by omega)).2 ⟨polyB_iff.2 fun k hk => okAt_vars (polyB_iff.1 h1 k hk) fun m hm => ?_, h2⟩
  simp only [boundsB, smallB, Bool.and_eq_true, decide_eq_true_eq, List.all_eq_true] at h2
  have := (h2.2 m (List.mem_of_getElem? hm)).1
  omega

theorem varsN_iff {p : List Mn} {B : Nat} : varsN p ≤ B ↔ ∀ m ∈ p, m.2.length ≤ B := by
  have key : ∀ (p : List Mn) (a : Nat), p.foldl (fun a m => max a m.2.length) a ≤ B ↔ a ≤ B ∧ ∀ m ∈ p, m.2.length ≤ B := by
    intro p
    induction p with
    | nil => intro a; simp
    | cons m r ih =>
      intro a
      rw [List.foldl_cons, ih, Nat.max_le]
      simp only [List.mem_cons, forall_eq_or_imp, and_assoc]
  unfold varsN
  rw [key]
  simp

theorem checkAll2_iff {p q : List Mn} : checkAllE [p, q] = 0 ↔ checkE p 9223372036854775807 = 0 ∧ checkE q 9223372036854775807 = 0 := by
  simp only [checkAllE]
  by_cases h1 : checkE p 9223372036854775807 = 0
  · rw [if_pos h1]
    by_cases h2 : checkE q 9223372036854775807 = 0
    · simp [h1, h2]
    · simp [h1, h2]
  · simp [h1]

theorem checkAll1_iff {p : List Mn} : checkAllE [p] = 0 ↔ checkE p 9223372036854775807 = 0 := by
  simp only [checkAllE]
  by_cases h1 : checkE p 9223372036854775807 = 0 <;> simp [h1]

theorem rt_nil : RtY [] 0 := ⟨rfl, Nat.pow_pos (by omega)⟩

end Go.Proofs.YtdjmjhlbjcgoiaaGreatDoor

/- What sums and products are worth: plain data. -/
namespace Go.Proofs.YtdjmjhlbjcgoiaaGreatDoor
open Go.RowKit Go.Maps

theorem top_split (ks : List Nat) : ∃ n, ks = ks.take (topK ks) ++ List.replicate n 0 := by
  have h1 : ks = (ks.reverse.dropWhile (· == 0)).reverse ++ (ks.reverse.takeWhile (· == 0)).reverse := by
    rw [← List.reverse_append, List.takeWhile_append_dropWhile, List.reverse_reverse]
  have h2 : ks.take (topK ks) = (ks.reverse.dropWhile (· == 0)).reverse := by
    unfold topK
    have := congrArg (List.take (ks.reverse.dropWhile (· == 0)).length) h1
    rw [this, List.take_left' (by simp)]
  refine ⟨(ks.reverse.takeWhile (· == 0)).length, ?_⟩
  rw [h2]
  have h3 : (ks.reverse.takeWhile (· == 0)).reverse = List.replicate (ks.reverse.takeWhile (· == 0)).length 0 := by
    rw [List.eq_replicate_iff]
    refine ⟨by simp, fun b hb => ?_⟩
    have := List.mem_reverse.1 hb
    have hall : ∀ (l : List Nat) (x : Nat), x ∈ l.takeWhile (· == 0) → x = 0 := by
      intro l
      induction l with
      | nil => intro x hx; simp at hx
      | cons a l ih =>
        intro x hx
        rw [List.takeWhile_cons] at hx
        split at hx
        · rename_i ha
          rcases List.mem_cons.1 hx with rfl | hx
          · simpa using ha
          · exact ih x hx
        · simp at hx
    exact hall _ b this
  rw [← h3]
  exact h1

theorem map_ofNat (l : List Nat) : (l.map Int.ofNat).map Int.toNat = l := by
  rw [List.map_map]
  conv => rhs; rw [← List.map_id l]
  exact List.map_congr_left fun x _ => rfl

theorem coefK_head {p : List Nat × List Nat} {r : LkY} : coefK (p :: r) p.1 = p.2 := by simp [coefK]

theorem coefK_tail {p : List Nat × List Nat} {r : LkY} {k : List Nat} (h : ¬ k = p.1) : coefK (p :: r) k = coefK r k := by
  have hb : (p.1 == k) = false := by rw [beq_eq_false_iff_ne]; exact fun e => h e.symm
  unfold coefK
  rw [List.find?_cons, hb]

theorem rising_nil : Rising [] := List.Pairwise.nil

end Go.Proofs.YtdjmjhlbjcgoiaaGreatDoor

/- A row of likes is fixed by its totals; when sums and products are too big: plain data. -/
namespace Go.Proofs.YtdjmjhlbjcgoiaaGreatDoor
open Go.RowKit Go.Maps

/-- Terms: a key and a natural each. -/
abbrev Tm := List (List Nat × Nat)

/-- What the terms at a key come to. -/
def tot : Tm → List Nat → Nat
  | [], _ => 0
  | t :: l, k => (if t.1 = k then t.2 else 0) + tot l k

def ofP (p : List Mn) : Tm := p.map fun m => (keyX m.2, val m.1)

def ofL (L : LkY) : Tm := L.map fun q => (q.1, val q.2)

theorem tot_append (l l' : Tm) (k : List Nat) : tot (l ++ l') k = tot l k + tot l' k := by
  induction l with
  | nil => simp [tot]
  | cons t l ih => simp only [List.cons_append, tot, ih]; omega

/-- The likes L hold the totals f, each of them a right natural above 0. -/
structure StY (L : LkY) (f : List Nat → Nat) : Prop where
  rising : Rising L
  right : ∀ q ∈ L, RtY q.2 (val q.2) ∧ 1 ≤ val q.2
  tots : ∀ k, val (coefK L k) = f k

theorem StY.mem {L : LkY} {f : List Nat → Nat} (h : StY L f) (q : List Nat × List Nat) : q ∈ L ↔ 1 ≤ f q.1 ∧ q.2 = limbs (f q.1) := by
  constructor
  · intro hq
    have h1 := coefK_mem (k := q.1) (c := q.2) h.rising hq
    have h2 := h.tots q.1
    rw [h1] at h2
    obtain ⟨h3, h4⟩ := h.right q hq
    rw [← h2]
    exact ⟨h4, h3.1⟩
  · rintro ⟨h1, h2⟩
    cases hk : hasK L q.1 with
    | false =>
      have := h.tots q.1
      rw [coefK_none hk] at this
      simp only [val] at this
      omega
    | true =>
      obtain ⟨c, hc⟩ := hasK_iff.1 hk
      have h3 := coefK_mem h.rising hc
      have h4 := h.tots q.1
      rw [h3] at h4
      have h5 := (h.right _ hc).1.1
      simp only at h5
      rw [h4, ← h2] at h5
      subst h5
      exact hc

theorem rising_eq : ∀ {L L' : LkY}, Rising L → Rising L' → (∀ q, q ∈ L ↔ q ∈ L') → L = L'
  | [], [], _, _, _ => rfl
  | [], b :: l', _, _, h => absurd ((h b).2 (by simp)) (by simp)
  | a :: l, [], _, _, h => absurd ((h a).1 (by simp)) (by simp)
  | a :: l, b :: l', hL, hL', h => by
    unfold Rising at hL hL'
    rw [List.pairwise_cons] at hL hL'
    have hab : a = b := by
      rcases List.mem_cons.1 ((h a).1 (by simp)) with e | ha
      · exact e
      · rcases List.mem_cons.1 ((h b).2 (by simp)) with e | hb
        · exact e.symm
        · exact absurd (ltK_trans (hL.1 b hb) (hL'.1 a ha)) (ltK_irrefl _)
    subst hab
    have hn : a ∉ l := fun ha => ltK_irrefl _ (hL.1 a ha)
    have hn' : a ∉ l' := fun ha => ltK_irrefl _ (hL'.1 a ha)
    rw [rising_eq hL.2 hL'.2 (fun q => ?_)]
    constructor
    · intro hq
      rcases List.mem_cons.1 ((h q).1 (List.mem_cons_of_mem _ hq)) with rfl | hq'
      · exact absurd hq hn
      · exact hq'
    · intro hq
      rcases List.mem_cons.1 ((h q).2 (List.mem_cons_of_mem _ hq)) with rfl | hq'
      · exact absurd hq hn'
      · exact hq'

/-- The totals fix the likes. -/
theorem StY.eq {L L' : LkY} {f : List Nat → Nat} (h : StY L f) (h' : StY L' f) : L = L' :=
  rising_eq h.rising h'.rising fun q => by rw [h.mem, h'.mem]

/-- Totals that are in bounds: each below bigN, no exponent above 64, at most 256 keys. -/
def OkF (f : List Nat → Nat) : Prop := (∀ k, f k < bigN) ∧ (∀ k, 1 ≤ f k → ∀ x ∈ k, x ≤ 64) ∧ ∀ l : List (List Nat), l.Nodup → (∀ k ∈ l, 1 ≤ f k) → l.length ≤ 256

theorem OkF.mono {f g : List Nat → Nat} (h : OkF g) (hle : ∀ k, f k ≤ g k) : OkF f :=
  ⟨fun k => Nat.lt_of_le_of_lt (hle k) (h.1 k), fun k hk => h.2.1 k (Nat.le_trans hk (hle k)), fun l hn hl => h.2.2 l hn fun k hk => Nat.le_trans (hl k hk) (hle k)⟩

theorem StY.nodup {L : LkY} {f : List Nat → Nat} (h : StY L f) : (L.map (·.1)).Nodup := by
  have := h.rising
  unfold Rising at this
  rw [List.Nodup, List.pairwise_map]
  refine List.Pairwise.imp ?_ this
  intro a b hab e
  rw [e] at hab
  exact ltK_irrefl _ hab

theorem StY.keys {L : LkY} {f : List Nat → Nat} (h : StY L f) (k : List Nat) : k ∈ L.map (·.1) ↔ 1 ≤ f k := by
  rw [List.mem_map]
  constructor
  · rintro ⟨q, hq, rfl⟩
    exact ((h.mem q).1 hq).1
  · intro hk
    exact ⟨(k, limbs (f k)), (h.mem _).2 ⟨hk, rfl⟩, rfl⟩

theorem nodup_length_le {α : Type} [DecidableEq α] : ∀ {l m : List α}, l.Nodup → (∀ x ∈ l, x ∈ m) → l.length ≤ m.length
  | [], _, _, _ => Nat.zero_le _
  | a :: l, m, hn, h => by
    rw [List.nodup_cons] at hn
    have ha := h a (by simp)
    have h1 : l.length ≤ (m.erase a).length := nodup_length_le hn.2 fun x hx => by
      have hne : x ≠ a := fun e => hn.1 (e ▸ hx)
      rw [List.mem_erase_of_ne hne]
      exact h x (List.mem_cons_of_mem _ hx)
    rw [List.length_erase_of_mem ha] at h1
    have : 0 < m.length := List.length_pos_of_mem ha
    simp only [List.length_cons]
    omega

/-- Totals with likes are in bounds just if there are not too many likes, and no exponent is above 64. -/
theorem StY.ok {L : LkY} {f : List Nat → Nat} (h : StY L f) (hl : L.length ≤ 256) (hk : ∀ k, 1 ≤ f k → ∀ x ∈ k, x ≤ 64) : OkF f := by
  refine ⟨fun k => ?_, hk, fun l hn hl2 => ?_⟩
  · by_cases h0 : 1 ≤ f k
    · obtain ⟨q, hq, rfl⟩ := List.mem_map.1 ((h.keys k).2 h0)
      have h1 := (h.right q hq).1
      have h2 := coefK_mem (k := q.1) (c := q.2) h.rising hq
      rw [← h.tots q.1, h2]
      exact h1.2
    · have : f k = 0 := by omega
      rw [this]
      exact rt_nil.2
  · have := nodup_length_le hn fun k hk => (h.keys k).2 (hl2 k hk)
    rw [List.length_map] at this
    omega

theorem OkF.len {L : LkY} {f : List Nat → Nat} (h : OkF f) (hs : StY L f) : L.length ≤ 256 := by
  have := h.2.2 (L.map (·.1)) hs.nodup fun k hk => (hs.keys k).1 hk
  rwa [List.length_map] at this

/-- Totals with one term more. -/
def plus (f : List Nat → Nat) (k : List Nat) (c : Nat) : List Nat → Nat := fun k' => f k' + if k = k' then c else 0

theorem coefK_ins {L : LkY} {k c k' : List Nat} (hL : Rising L) : coefK (insK L k c) k' = if k = k' then c else coefK L k' := by
  by_cases hk : k = k'
  · subst hk
    rw [if_pos rfl]
    exact coefK_mem (rising_insK hL) ((mem_insK hL _).2 (.inl rfl))
  · rw [if_neg hk]
    cases h : hasK L k' with
    | true =>
      obtain ⟨d, hd⟩ := hasK_iff.1 h
      rw [coefK_mem hL hd]
      exact coefK_mem (rising_insK hL) ((mem_insK hL _).2 (.inr ⟨hd, fun e => hk e.symm⟩))
    | false =>
      rw [coefK_none h]
      refine coefK_none ?_
      rw [Bool.eq_false_iff]
      intro h2
      obtain ⟨d, hd⟩ := hasK_iff.1 h2
      rcases (mem_insK hL _).1 hd with e | ⟨hd2, _⟩
      · exact hk (congrArg Prod.fst e).symm
      · rw [hasK_iff.2 ⟨d, hd2⟩] at h
        cases h

theorem StY.coef {L : LkY} {f : List Nat → Nat} (h : StY L f) (k : List Nat) : RtY (coefK L k) (f k) := by
  cases hk : hasK L k with
  | false =>
    have := h.tots k
    rw [coefK_none hk] at this ⊢
    rw [← this]
    exact rt_nil
  | true =>
    obtain ⟨c, hc⟩ := hasK_iff.1 hk
    have h1 := (h.right _ hc).1
    have h2 := h.tots k
    rw [coefK_mem h.rising hc] at h2 ⊢
    rw [← h2]
    exact h1

/-- One term put: either it is in bounds, and the totals have it; or it is not. -/
theorem put_spec {L : LkY} {f : List Nat → Nat} {k c : List Nat} {n : Nat} (h : StY L f) (hc : RtY c n) (hn : 1 ≤ n) (h64 : ∀ x ∈ k, x ≤ 64) (hf : ∀ k, 1 ≤ f k → ∀ x ∈ k, x ≤ 64) :
    (putE L k c = 0 ∧ OkF (plus f k n) ∧ StY (putL L k c) (plus f k n)) ∨ (putE L k c = 2 ∧ ¬ OkF (plus f k n)) := by
  have hf2 : ∀ k', 1 ≤ plus f k n k' → ∀ x ∈ k', x ≤ 64 := by
    intro k' hk'
    unfold plus at hk'
    by_cases e : k = k'
    · subst e; exact h64
    · rw [if_neg e, Nat.add_zero] at hk'; exact hf k' hk'
  have hpk : plus f k n k = f k + n := by unfold plus; rw [if_pos rfl]
  by_cases hb : f k + n < bigN
  · obtain ⟨e1, r1⟩ := add_ok (h.coef k) hc hb
    have hs : StY (insK L k (addL (coefK L k) c)) (plus f k n) := by
      refine ⟨rising_insK h.rising, fun q hq => ?_, fun k' => ?_⟩
      · rcases (mem_insK h.rising q).1 hq with rfl | ⟨hq2, _⟩
        · simp only
          rw [r1.val]
          exact ⟨r1, by omega⟩
        · exact h.right q hq2
      · rw [coefK_ins h.rising]
        unfold plus
        by_cases e : k = k'
        · subst e
          rw [if_pos rfl, if_pos rfl, r1.val]
        · rw [if_neg e, if_neg e, h.tots k', Nat.add_zero]
    unfold putE putL
    rw [if_pos e1, if_pos e1]
    by_cases hl : (insK L k (addL (coefK L k) c)).length ≤ 256
    · rw [if_pos hl]
      exact .inl ⟨rfl, hs.ok hl hf2, hs⟩
    · rw [if_neg hl]
      exact .inr ⟨rfl, fun ho => hl (ho.len hs)⟩
  · obtain ⟨e1, _⟩ := add_no (h.coef k) hc (by omega)
    unfold putE
    rw [if_neg (by rw [e1]; decide), e1]
    refine .inr ⟨rfl, fun ho => ?_⟩
    have := ho.1 k
    rw [hpk] at this
    exact hb this

/-- Monomials put one after the other. -/
theorem puts_spec : ∀ {p : List Mn} {L : LkY} {f : List Nat → Nat}, (∀ m ∈ p, GoodM m) → DomM p → StY L f → OkF f →
    ((puts L p).2 = 0 ∧ OkF (fun k => f k + tot (ofP p) k) ∧ StY (puts L p).1 (fun k => f k + tot (ofP p) k)) ∨ ((puts L p).2 = 2 ∧ ¬ OkF (fun k => f k + tot (ofP p) k))
  | [], L, f, _, _, h, ho => .inl ⟨rfl, ho, h⟩
  | m :: p, L, f, hg, hd, h, ho => by
    obtain ⟨g1, g2, g3, _⟩ := hg m (by simp)
    have hsm : Small m.2 := hd 0 m rfl
    have hk64 : ∀ x ∈ keyX m.2, x ≤ 64 := fun x hx => by
      obtain ⟨j, hj⟩ := List.mem_iff_getElem?.1 hx
      exact keyX_le hsm j x hj
    have efun : (fun k => f k + tot (ofP (m :: p)) k) = fun k => plus f (keyX m.2) (val m.1) k + tot (ofP p) k := by
      funext k
      simp only [ofP, List.map_cons, tot, plus]
      omega
    rw [efun]
    rcases put_spec (k := keyX m.2) (c := m.1) (n := val m.1) h (RtY.of g1 g2) (val_pos g1 g2 g3) hk64 ho.2.1 with ⟨e, ho2, hs2⟩ | ⟨e, hno⟩
    · unfold puts
      rw [if_pos e]
      exact puts_spec (fun n hn => hg n (List.mem_cons_of_mem _ hn)) (fun k x hx => hd (k + 1) x hx) hs2 ho2
    · unfold puts
      rw [if_neg (by rw [e]; decide)]
      exact .inr ⟨e, fun hh => hno (hh.mono fun k => Nat.le_add_right _ _)⟩

/-- The terms of a product. -/
def mulT (l r : Tm) : Tm := l.flatMap fun t => r.map fun u => (addK t.1 u.1, t.2 * u.2)

theorem mulT_cons (t : List Nat × Nat) (l r : Tm) : mulT (t :: l) r = (r.map fun u => (addK t.1 u.1, t.2 * u.2)) ++ mulT l r := rfl

theorem prodIn_spec {m : Mn} (hgm : GoodM m) (hm : Small m.2) : ∀ {q : List Mn} {L : LkY} {f : List Nat → Nat}, (∀ n ∈ q, GoodM n) → DomM q → StY L f → OkF f →
    ((prodIn m L q).2 = 0 ∧ OkF (fun k => f k + tot ((ofP q).map fun u => (addK (keyX m.2) u.1, val m.1 * u.2)) k) ∧ StY (prodIn m L q).1 (fun k => f k + tot ((ofP q).map fun u => (addK (keyX m.2) u.1, val m.1 * u.2)) k)) ∨
    ((prodIn m L q).2 = 2 ∧ ¬ OkF (fun k => f k + tot ((ofP q).map fun u => (addK (keyX m.2) u.1, val m.1 * u.2)) k))
  | [], L, f, _, _, h, ho => .inl ⟨rfl, ho, h⟩
  | n :: q, L, f, hg, hd, h, ho => by
    obtain ⟨g1, g2, g3, _⟩ := hg n (by simp)
    obtain ⟨c1, c2, c3, _⟩ := hgm
    have hp1 := val_pos g1 g2 g3
    have hp2 := val_pos c1 c2 c3
    have hpos : 1 ≤ val m.1 * val n.1 := Nat.mul_pos hp2 hp1
    have efun : (fun k => f k + tot ((ofP (n :: q)).map fun u => (addK (keyX m.2) u.1, val m.1 * u.2)) k) = fun k => plus f (addK (keyX m.2) (keyX n.2)) (val m.1 * val n.1) k + tot ((ofP q).map fun u => (addK (keyX m.2) u.1, val m.1 * u.2)) k := by
      funext k
      simp only [ofP, List.map_cons, tot, plus]
      omega
    have hat : plus f (addK (keyX m.2) (keyX n.2)) (val m.1 * val n.1) (addK (keyX m.2) (keyX n.2)) = f (addK (keyX m.2) (keyX n.2)) + val m.1 * val n.1 := by unfold plus; rw [if_pos rfl]
    rw [efun]
    by_cases ha : (addK (keyX m.2) (keyX n.2)).all (fun x => decide (x ≤ 64)) = true
    · have e0 : raisedE (keyX m.2) n.2 = 0 := by unfold raisedE; rw [if_pos ha]
      have ek : raisedK (keyX m.2) n.2 = addK (keyX m.2) (keyX n.2) := by unfold raisedK; rw [if_pos ha]
      have h64 : ∀ x ∈ addK (keyX m.2) (keyX n.2), x ≤ 64 := fun x hx => by simpa using List.all_eq_true.1 ha x hx
      unfold prodIn
      rw [if_pos e0, ek]
      by_cases hb : val m.1 * val n.1 < bigN
      · obtain ⟨e1, r1⟩ := mul_ok (RtY.of c1 c2) (RtY.of g1 g2) hb
        rw [if_pos e1]
        rcases put_spec h r1 hpos h64 ho.2.1 with ⟨e, ho2, hs2⟩ | ⟨e, hno⟩
        · rw [if_pos e]
          exact prodIn_spec ⟨c1, c2, c3, by assumption⟩ hm (fun x hx => hg x (List.mem_cons_of_mem _ hx)) (fun k x hx => hd (k + 1) x hx) hs2 ho2
        · rw [if_neg (by rw [e]; decide)]
          exact .inr ⟨e, fun hh => hno (hh.mono fun k => Nat.le_add_right _ _)⟩
      · obtain ⟨e1, _⟩ := mul_no (RtY.of c1 c2) (RtY.of g1 g2) (by omega)
        rw [if_neg (by rw [e1]; decide)]
        refine .inr ⟨e1, fun hh => ?_⟩
        have h1 := hh.1 (addK (keyX m.2) (keyX n.2))
        simp only at h1
        rw [hat] at h1
        omega
    · have e0 : raisedE (keyX m.2) n.2 = 2 := by unfold raisedE; rw [if_neg ha]
      unfold prodIn
      rw [if_neg (by rw [e0]; decide)]
      refine .inr ⟨e0, fun hh => ha ?_⟩
      rw [List.all_eq_true]
      intro x hx
      have h1 := hh.2.1 (addK (keyX m.2) (keyX n.2)) (by simp only; rw [hat]; omega) x hx
      simpa using h1

theorem prods_spec {q : List Mn} (hgq : ∀ n ∈ q, GoodM n) (hdq : DomM q) : ∀ {p : List Mn} {L : LkY} {f : List Nat → Nat}, (∀ m ∈ p, GoodM m) → DomM p → StY L f → OkF f →
    ((prods q L p).2 = 0 ∧ OkF (fun k => f k + tot (mulT (ofP p) (ofP q)) k) ∧ StY (prods q L p).1 (fun k => f k + tot (mulT (ofP p) (ofP q)) k)) ∨ ((prods q L p).2 = 2 ∧ ¬ OkF (fun k => f k + tot (mulT (ofP p) (ofP q)) k))
  | [], L, f, _, _, h, ho => .inl ⟨rfl, ho, h⟩
  | m :: p, L, f, hg, hd, h, ho => by
    have efun : (fun k => f k + tot (mulT (ofP (m :: p)) (ofP q)) k) = fun k => (f k + tot ((ofP q).map fun u => (addK (keyX m.2) u.1, val m.1 * u.2)) k) + tot (mulT (ofP p) (ofP q)) k := by
      funext k
      have e : ofP (m :: p) = (keyX m.2, val m.1) :: ofP p := rfl
      rw [e, mulT_cons, tot_append]
      simp only
      omega
    rw [efun]
    rcases prodIn_spec (hg m (by simp)) (hd 0 m rfl) hgq hdq h ho with ⟨e, ho2, hs2⟩ | ⟨e, hno⟩
    · unfold prods
      rw [if_pos e]
      exact prods_spec hgq hdq (fun x hx => hg x (List.mem_cons_of_mem _ hx)) (fun k x hx => hd (k + 1) x hx) hs2 ho2
    · unfold prods
      rw [if_neg (by rw [e]; decide)]
      exact .inr ⟨e, fun hh => hno (hh.mono fun k => Nat.le_add_right _ _)⟩

theorem StY.nil : StY [] (fun _ => 0) := ⟨rising_nil, fun q hq => (by cases hq), fun k => rfl⟩

theorem okF_zero : OkF (fun _ => 0) := ⟨fun _ => rt_nil.2, fun k hk => absurd hk (by simp), fun l _ hl => by
  cases l with
  | nil => simp
  | cons a l => exact absurd (hl a (by simp)) (by simp)⟩

theorem Pol.dom {p : List Mn} (h : Pol p) : DomM p := fun _ m hk =>
  ⟨(h.small m (List.mem_of_getElem? hk)).1, fun _ x hj => (h.good (List.mem_of_getElem? hk)).2.2.2 x (List.mem_of_getElem? hj)⟩

/-- Where a product is in bounds, and what it is then. -/
theorem prod_spec {p q : List Mn} (hp : Pol p) (hq : Pol q) :
    (prodE p q = 0 ∧ OkF (tot (mulT (ofP p) (ofP q))) ∧ ∃ L, StY L (tot (mulT (ofP p) (ofP q))) ∧ prodL p q = rowLY L) ∨ (prodE p q = 2 ∧ ¬ OkF (tot (mulT (ofP p) (ofP q))) ∧ prodL p q = []) := by
  have h := prods_spec (fun n hn => hq.good hn) hq.dom (fun m hm => hp.good hm) hp.dom StY.nil okF_zero
  simp only [Nat.zero_add] at h
  rcases h with ⟨e, ho, hs⟩ | ⟨e, hno⟩
  · have e2 : prodE p q = 0 := e
    exact .inl ⟨e, ho, _, hs, by unfold prodL; rw [if_pos e2]⟩
  · have e2 : prodE p q = 2 := e
    exact .inr ⟨e, hno, by unfold prodL; rw [if_neg (by rw [e2]; decide)]⟩

end Go.Proofs.YtdjmjhlbjcgoiaaGreatDoor

/- The row of likes in bounds is a polynomial that Check lets by: plain data. -/
namespace Go.Proofs.YtdjmjhlbjcgoiaaGreatDoor
open Go.RowKit Go.Maps

theorem topK_cons (x : Nat) (a : List Nat) : topK (x :: a) = if topK a = 0 ∧ x = 0 then 0 else topK a + 1 := by
  unfold topK
  rw [List.reverse_cons, List.dropWhile_append]
  by_cases h : (a.reverse.dropWhile (· == 0)).isEmpty = true
  · have h1 : a.reverse.dropWhile (· == 0) = [] := List.isEmpty_iff.1 h
    rw [if_pos h, h1]
    by_cases hx : x = 0
    · subst hx; simp
    · have : (x == 0) = false := by simpa using hx
      simp [List.dropWhile, this, hx]
  · have h1 : ¬ (a.reverse.dropWhile (· == 0)).length = 0 := fun e => h (by rw [List.eq_nil_of_length_eq_zero e]; rfl)
    rw [if_neg h, if_neg (fun hh => h1 hh.1)]
    simp

theorem unX_cons (x : Nat) (a : List Nat) : unX (x :: a) = if topK a = 0 ∧ x = 0 then [] else (x : Int) :: unX a := by
  unfold unX
  rw [topK_cons]
  split
  · rfl
  · rw [List.take_succ_cons, List.map_cons]; rfl

theorem unX_nil_iff (a : List Nat) : unX a = [] ↔ topK a = 0 := by
  cases a with
  | nil => simp [unX, topK]
  | cons x a =>
    rw [unX_cons, topK_cons]
    split
    · simp
    · simp

theorem cmp_trim : ∀ {a b : List Nat}, a.length = b.length → ltK a b → cmpX (unX a) (unX b) < 0
  | [], [], _, h => absurd h (ltK_irrefl _)
  | [], _ :: _, h, _ => by simp at h
  | _ :: _, [], h, _ => by simp at h
  | x :: a, y :: b, hl, h => by
    have hl' : a.length = b.length := by simpa using hl
    unfold ltK cmpK at h
    rw [unX_cons, unX_cons]
    by_cases hxy : x < y
    · rw [if_neg (show ¬ (topK b = 0 ∧ y = 0) by omega)]
      split
      · unfold cmpX; decide
      · unfold cmpX
        rw [if_pos (by omega)]
        decide
    · rw [if_neg hxy] at h
      by_cases hyx : y < x
      · rw [if_pos hyx] at h
        exact absurd h (by decide)
      · rw [if_neg hyx] at h
        have hxe : x = y := by omega
        subst hxe
        have ih := cmp_trim hl' h
        by_cases hb : topK b = 0
        · rw [(unX_nil_iff b).2 hb] at ih
          cases hu : unX a with
          | nil => rw [hu] at ih; exact absurd ih (by decide)
          | cons z r => rw [hu] at ih; exact absurd ih (by unfold cmpX; decide)
        · rw [if_neg (show ¬ (topK b = 0 ∧ x = 0) from fun hh => hb hh.1)]
          split
          · unfold cmpX; decide
          · unfold cmpX
            rw [if_neg (by omega), if_neg (by omega)]
            exact ih

theorem keyX_unX {k : List Nat} (h : k.length = 512) : keyX (unX k) = k := by
  obtain ⟨n, hn⟩ := top_split k
  unfold keyX
  have hlen : (unX k).length = (k.take (topK k)).length := by unfold unX; simp
  have hn2 : 512 - (unX k).length = n := by
    have := congrArg List.length hn
    rw [List.length_append, List.length_replicate, h] at this
    rw [hlen]
    omega
  rw [hn2]
  unfold unX
  rw [map_ofNat]
  exact hn.symm

theorem unX_last (l : List Nat) : (unX l).getLast? ≠ some 0 := by
  induction l with
  | nil => simp [unX]
  | cons x a ih =>
    rw [unX_cons]
    split
    · simp
    · rename_i h
      cases hu : unX a with
      | nil =>
        have := (unX_nil_iff a).1 hu
        simp
        omega
      | cons z r =>
        rw [hu] at ih
        rw [List.getLast?_cons_cons]
        exact ih

theorem StY.row {L : LkY} {f : List Nat → Nat} (h : StY L f) (ho : OkF f) (hk : ∀ q ∈ L, q.1.length = 512) : Pol (rowLY L) ∧ checkE (rowLY L) 9223372036854775807 = 0 ∧ tot (ofP (rowLY L)) = f := by
  have hmem : ∀ m ∈ rowLY L, ∃ q ∈ L, m = (q.2, unX q.1) := by
    intro m hm
    obtain ⟨q, hq, rfl⟩ := List.mem_map.1 hm
    exact ⟨q, hq, rfl⟩
  have hmon : ∀ m ∈ rowLY L, monB m = true := by
    intro m hm
    obtain ⟨q, hq, rfl⟩ := hmem m hm
    obtain ⟨h1, h2⟩ := h.right q hq
    have hne : ¬ q.2.length = 0 := fun e => by
      rw [List.eq_nil_of_length_eq_zero e] at h2
      simp [val] at h2
    have hl := unX_last q.1
    rw [List.getLast?_eq_getElem?] at hl
    rw [monB_yes hne h1.right (fun k x hx => by
      unfold unX at hx
      rw [List.getElem?_map] at hx
      cases hy : (q.1.take (topK q.1))[k]? with
      | none => rw [hy] at hx; simp at hx
      | some y => rw [hy] at hx; simp at hx; subst hx; exact Int.natCast_nonneg y)]
    simp only [Bool.or_eq_true, Bool.not_eq_true', beq_eq_false_iff_ne, ne_eq]
    exact .inr hl
  have hsort : SortedX (rowLY L) := by
    refine sortedX_of fun k m n hm hn => ?_
    unfold rowLY at hm hn
    rw [List.getElem?_map] at hm hn
    cases ha : L[k]? with
    | none => rw [ha] at hm; simp at hm
    | some a =>
      cases hb : L[k + 1]? with
      | none => rw [hb] at hn; simp at hn
      | some b =>
        rw [ha] at hm
        rw [hb] at hn
        simp at hm hn
        subst hm; subst hn
        have hr := h.rising
        unfold Rising at hr
        rw [List.pairwise_iff_getElem] at hr
        obtain ⟨i1, e1⟩ := List.getElem?_eq_some_iff.1 ha
        obtain ⟨i2, e2⟩ := List.getElem?_eq_some_iff.1 hb
        have hlt := hr k (k + 1) i1 i2 (by omega)
        rw [e1, e2] at hlt
        exact cmp_trim (by rw [hk a (List.mem_of_getElem? ha), hk b (List.mem_of_getElem? hb)]) hlt
  have hsm : ∀ m ∈ rowLY L, m.2.length ≤ 512 ∧ ∀ n ∈ m.2, n ≤ 64 := by
    intro m hm
    obtain ⟨q, hq, rfl⟩ := hmem m hm
    refine ⟨?_, fun n hn => ?_⟩
    · unfold unX
      have := hk q hq
      simp only [List.length_map, List.length_take]
      omega
    · simp only at hn
      unfold unX at hn
      obtain ⟨x, hx, rfl⟩ := List.mem_map.1 hn
      have := ho.2.1 q.1 ((h.mem q).1 hq).1 x (List.mem_of_mem_take hx)
      exact Int.ofNat_le.2 this
  have hlim : ∀ m ∈ rowLY L, Lim m.1 := by
    intro m hm
    obtain ⟨q, hq, rfl⟩ := hmem m hm
    simp only
    rw [(h.right q hq).1.1]
    exact limbs_lim _
  have hlen : (rowLY L).length ≤ 256 := by unfold rowLY; rw [List.length_map]; exact ho.len h
  refine ⟨⟨hlim, hmon, hsort, hsm, hlen⟩, (check_iff (by omega)).2 ⟨polyB_iff.2 fun k hkk => ?_, ?_⟩, ?_⟩
  · unfold okAt
    rw [List.getElem?_eq_getElem hkk]
    have hm := List.getElem_mem hkk
    simp only [Bool.and_eq_true, decide_eq_true_eq, Bool.or_eq_true, beq_iff_eq]
    refine ⟨⟨hmon _ hm, ?_⟩, ?_⟩
    · have := (hsm _ hm).1
      omega
    · by_cases h0 : k = 0
      · exact .inl h0
      · right
        have h1 : k - 1 < (rowLY L).length := by omega
        have hs : ∀ {p : List Mn}, SortedX p → ∀ k m n, p[k]? = some m → p[k + 1]? = some n → cmpX m.2 n.2 < 0 := by
          intro p
          induction p with
          | nil => intro _ k m n hm; simp at hm
          | cons a r ih =>
            intro hs k m n hm hn
            cases k with
            | zero =>
              simp at hm
              subst hm
              exact hs.head (by simpa using hn)
            | succ k => exact ih hs.tail k m n (by simpa using hm) (by simpa using hn)
        unfold expsAt
        rw [List.getElem?_eq_getElem hkk, List.getElem?_eq_getElem h1]
        exact hs hsort (k - 1) _ _ (List.getElem?_eq_getElem h1) (by rw [show k - 1 + 1 = k by omega]; exact List.getElem?_eq_getElem hkk)
  · unfold boundsB smallB
    simp only [Bool.and_eq_true, decide_eq_true_eq, List.all_eq_true]
    exact ⟨hlen, hsm⟩
  · funext k
    have key : ∀ {M : LkY}, Rising M → (∀ q ∈ M, q.1.length = 512) → tot (ofP (rowLY M)) k = val (coefK M k) := by
      intro M
      induction M with
      | nil => intro _ _; rfl
      | cons q M ih =>
        intro hr hk2
        have hr' := hr
        unfold Rising at hr
        rw [List.pairwise_cons] at hr
        have e : ofP (rowLY (q :: M)) = (keyX (unX q.1), val q.2) :: ofP (rowLY M) := rfl
        rw [e, tot, ih hr.2 (fun x hx => hk2 x (List.mem_cons_of_mem _ hx)), keyX_unX (hk2 q (by simp))]
        by_cases hq : q.1 = k
        · subst hq
          rw [if_pos rfl, coefK_head]
          have : coefK M q.1 = [] := by
            refine coefK_none ?_
            rw [Bool.eq_false_iff]
            intro hh
            obtain ⟨d, hd⟩ := hasK_iff.1 hh
            exact ltK_irrefl q.1 (hr.1 (q.1, d) hd)
          rw [this]
          simp [val]
        · rw [if_neg hq, coefK_tail (fun e => hq e.symm), Nat.zero_add]
    rw [key h.rising hk, h.tots k]

end Go.Proofs.YtdjmjhlbjcgoiaaGreatDoor
