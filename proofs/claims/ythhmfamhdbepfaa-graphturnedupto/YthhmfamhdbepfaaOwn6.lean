/- Texts of the proof, one behind the other. -/
import Derived.Test.YthhmfamhdbepfaaOwn2
import Derived.BigRegion
import Derived.Test.YthhmfamhdbepfaaOwn5
/- same of layer 14's law file: two lists of rows. -/
namespace Go.Proofs.Ythhmfamhdbepfaa
open Go.RowKit Go.Maps Go.BigFrame

set_option maxRecDepth 100000 in
set_option maxHeartbeats 1600000 in
theorem same14_any (v u : Value) (a b : List (List Int)) (w : World) (h : Rs w v a) (h' : Rs w u b) :
    Calls Try.prog 13 #[v, u] w fun e w' => e = .returned (.bool (decide (a = b))) ∧ Below w.heap.size w w' := by
  obtain ⟨ao, cap, rfl, hao, hca, _⟩ := Row.flat h
  obtain ⟨bo, cap', rfl, hbo, hcb, _⟩ := Row.flat h'
  unfold maxLen at hca hcb
  have HA := hid h
  have HB := hid h'
  clear h h'
  by_cases hl : a.length = b.length
  · have hle : ((a.length : Int) != b.length) = false := by simp; omega
    have hlb : a.length ≤ b.length := by omega
    have HL := hid hl
    clear hl
    go_enter Try.func13, Try.ntmps13
    go_wp2
    go_loopw [5, 6] (fun i _ wr => ∃ k : Nat, k ≤ a.length ∧ i = .int .i64 k ∧ a.take k = b.take k ∧ Below w.heap.size w wr) (fun i _ _ => a.length - (intOf i).toNat)
    case atStart => exact ⟨0, Nat.zero_le _, rfl, rfl, Below.refl _ _⟩
    case round =>
      obtain ⟨k, hk, rfl, ht, hbl⟩ := hrel
      have HT := hid ht
      have HBl := hid hbl
      clear ht
      by_cases hlt : k < a.length
      · obtain ⟨g, off, xa, x, xc, rfl, hx1, hx2, hx3, hx4⟩ := (HA.out.kp (Kp.of_below hbl)).at hlt
        obtain ⟨g', off', ya, y, yc, rfl, hy1, hy2, hy3, hy4⟩ := (HB.out.kp (Kp.of_below hbl)).at (k := k) (by omega)
        have HX := hid hx1
        have HY := hid hy1
        have HXi := hid hx3
        have HYi := hid hy3
        have hlt' : k < b.length := by omega
        clear hx1 hy1 hx3 hy3 hbl
        by_cases hxy : x.length = y.length
        · as_aux_lemma =>
            have hne : ((x.length : Int) != y.length) = false := by simp; omega
            have HXY := hid hxy
            clear hxy
            go_wp2
            go_region
            go_wp2
            go_loopw [6] (fun j wc => ∃ m : Nat, m ≤ x.length ∧ j = .int .i64 m ∧ x.take m = y.take m ∧ Below w.heap.size w wc) (fun j _ => x.length - (intOf j).toNat)
            case atStart => exact ⟨0, Nat.zero_le _, rfl, rfl, HBl.out.drew⟩
            case round =>
              obtain ⟨m, hm, rfl, ht, hbl⟩ := hrel
              have HTm := hid ht
              have HBm := hid hbl
              obtain ⟨_, _, xa', x', xc', e1, hx1, hx2, hx3, _⟩ := (HA.out.kp (Kp.of_below hbl)).at hlt
              obtain ⟨_, _, ya', y', yc', e2, hy1, hy2, hy3, _⟩ := (HB.out.kp (Kp.of_below hbl)).at (k := k) (by omega)
              rw [HX.out] at hx1
              rw [HY.out] at hy1
              cases hx1
              cases hy1
              cases e1
              cases e2
              by_cases hml : m < x.length
              · as_aux_lemma =>
                  obtain ⟨gx, ox, p, rfl, hp1, hp2, hp3, hp4⟩ := hx3.at hml
                  obtain ⟨gy, oy, q, rfl, hq1, hq2, hq3, hq4⟩ := hy3.at (k := m) (by rw [← HXY.out]; exact hml)
                  have hmy : m < y.length := by rw [← HXY.out]; exact hml
                  have HP := hid hp1
                  have HQ := hid hq1
                  clear hp1 hq1 hx3 hy3 ht hbl
                  by_cases hpq : p = q
                  · as_aux_lemma =>
                      subst hpq
                      have HE : Hid (x.take (m + 1) = y.take (m + 1)) := by show _ = _; rw [take_get HP.out, take_get HQ.out, HTm.out]
                      have hd : (p != p) = false := by simp
                      go_wp2
                      go_region
                      go_wp2
                      go_roundw
                      case rel => exact ⟨m + 1, hml, by go_num, HE.out, HBm.out.drew⟩
                      case measure => simp only [intOf]; omega
                  · as_aux_lemma =>
                      have hd : (p != q) = true := by simpa using hpq
                      have HE : Hid (decide (a = b) = false) := decide_eq_false (by
                        rintro rfl
                        have h1 := HX.out.symm.trans HY.out
                        simp at h1
                        subst h1
                        have h2 := HP.out.symm.trans HQ.out
                        simp at h2
                        exact hpq h2)
                      clear hpq
                      go_wp2
                      go_region
                      go_wp2
                      go_ret
                      exact ⟨ret1b HE.out.symm, HBm.out.drew⟩
              · as_aux_lemma =>
                  have hmx : m = x.length := by omega
                  have HE : Hid (a.take (k + 1) = b.take (k + 1)) := by
                    have h9 := HTm.out
                    rw [List.take_of_length_le (by omega), List.take_of_length_le (by rw [← HXY.out]; omega)] at h9
                    show _ = _
                    rw [take_get HX.out, take_get HY.out, HT.out, h9]
                  subst hmx
                  clear ht hbl hx3 hy3
                  go_wp2
                  go_roundw
                  case rel => exact ⟨k + 1, hlt, by go_num, HE.out, HBm.out⟩
                  case measure => simp only [intOf]; omega
        · as_aux_lemma =>
            have hne : ((x.length : Int) != y.length) = true := by simp; omega
            have HE : Hid (decide (a = b) = false) := decide_eq_false (by
              rintro rfl
              have h1 := HX.out.symm.trans HY.out
              simp at h1
              subst h1
              exact hxy rfl)
            clear hxy
            go_wp2
            go_region
            go_wp2
            go_ret
            exact ⟨ret1b HE.out.symm, HBl.out.drew⟩
      · have hk' : k = a.length := by omega
        have HE : Hid (decide (a = b) = true) := by
          have h9 := HT.out
          rw [List.take_of_length_le (by omega), List.take_of_length_le (by have := HL.out; omega)] at h9
          exact decide_eq_true h9
        go_wp2
        go_ret
        exact ⟨ret1b HE.out.symm, hbl⟩
  · have hne : ((a.length : Int) != b.length) = true := by rw [bne_iff_ne]; omega
    have HE : Hid (decide (a = b) = false) := decide_eq_false (fun h => hl (by rw [h]))
    go_enter Try.func13, Try.ntmps13
    go_wp2
    go_ret
    exact ⟨ret1b HE.out.symm, Below.refl _ _⟩

end Go.Proofs.Ythhmfamhdbepfaa

/- The examples of layer 14 come out true. -/
namespace Go.Proofs.Ythhmfamhdbepfaa
open Go.RowKit Go.Maps Go.BigFrame

/-- Rows laid one behind the other. -/
def lits14 : World → List (List Int) → World × List Value
  | w, [] => (w, [])
  | w, x :: r => ((lits14 (w.alloc (.cells (x.map I64).toArray 3)) r).1, .slice (some ⟨w.heap.size, 0, none⟩) x.length x.length :: (lits14 (w.alloc (.cells (x.map I64).toArray 3)) r).2)

theorem lits14_ok : ∀ (l : List (List Int)) (w : World), (∀ x, x ∈ l → ZI x ∧ x.length ≤ 1000) → Below w.heap.size w (lits14 w l).1 ∧ (lits14 w l).2.length = l.length ∧ ∀ (j : Nat) (u : Value) (x : List Int), (lits14 w l).2[j]? = some u → l[j]? = some x → Is (lits14 w l).1 u x
  | [], w, _ => ⟨Below.refl _ _, rfl, fun j u x hu => by simp [lits14] at hu⟩
  | x :: r, w, h => by
    obtain ⟨h1, h2, h3⟩ := lits14_ok r (w.alloc (.cells (x.map I64).toArray 3)) (fun y hy => h y (by simp [hy]))
    refine ⟨below_step (below_alloc _) h1, by simp [lits14, h2], fun j u y hu hy => ?_⟩
    cases j with
    | zero =>
      simp only [lits14, List.getElem?_cons_zero, Option.some.injEq] at hu hy
      subst hu hy
      have hz := h x (by simp)
      exact (is_new w x 3 (fun y hy => by obtain ⟨k, hk⟩ := List.getElem?_of_mem hy; exact hz.1 k y hk) hz.2).kp (Kp.of_below h1)
    | succ j =>
      simp only [lits14, List.getElem?_cons_succ] at hu hy
      exact h3 j u y hu hy

theorem lits14_rs (l : List (List Int)) (w : World) (h : ∀ x, x ∈ l → ZI x ∧ x.length ≤ 1000) (hl : l.length ≤ 1000) : Rs ((lits14 w l).1.alloc (.cells (lits14 w l).2.toArray 26)) (.slice (some ⟨(lits14 w l).1.heap.size, 0, none⟩) l.length l.length) l ∧ Below w.heap.size w ((lits14 w l).1.alloc (.cells (lits14 w l).2.toArray 26)) := by
  obtain ⟨h1, h2, h3⟩ := lits14_ok l w h
  refine ⟨⟨_, l.length, rfl, Nat.le_refl _, by unfold maxLen; omega, fun _ => ⟨(lits14 w l).1.heap.size, 0, rfl, by simp, fun k x hk => ?_⟩⟩, below_step h1 (below_alloc _)⟩
  have hkl := (List.getElem?_eq_some_iff.1 hk).1
  refine ⟨by have := (h x (List.mem_of_getElem? hk)).2; omega, (lits14 w l).2[k]'(by omega), ?_, (h3 k _ x (List.getElem?_eq_getElem (by omega)) hk).kp (Kp.of_below (below_alloc _))⟩
  rw [Nat.zero_add, Nat.mul_one, cell_of_row _ _ _ _ _ _ (heap_alloc_new _ _)]
  simp [h2, hkl]

theorem zi_small {l : List (List Int)} (h : l.all (fun x => x.all (fun y => decide (-100 ≤ y) && decide (y ≤ 100)) && decide (x.length ≤ 1000)) = true) : ∀ x, x ∈ l → ZI x ∧ x.length ≤ 1000 := fun x hx => by
  have h1 := List.all_eq_true.1 h x hx
  rw [Bool.and_eq_true] at h1
  refine ⟨fun k y hk => ?_, of_decide_eq_true h1.2⟩
  have h2 := List.all_eq_true.1 h1.1 y (List.mem_of_getElem? hk)
  rw [Bool.and_eq_true] at h2
  have a := of_decide_eq_true h2.1
  have b := of_decide_eq_true h2.2
  omega

/-- What Parts answers is read as the parts. -/
theorem PO14.rs {w0 w : World} {G : List (List Int)} {v : Value} {vs : List Value} {Ps : List (List Nat)} (h : PO14 w0 w G v vs Ps) (hG : G.length ≤ 4096) : Rs w v ((partsG G).map natL) := by
  obtain ⟨h1, h2, h3, _, h5⟩ := h
  have e := h5.eq
  subst e
  have hr := rs_of_own (l := (partsG G).map natL) (by rw [List.length_map]; exact h1) h3 (fun t ht => by
    obtain ⟨P, hP, rfl⟩ := List.mem_map.1 ht
    rw [natL_len]
    obtain ⟨i, _, hk, hr⟩ := h5.part P hP
    have := nodup_few (n := G.length) (xs := P) (hr.imp fun h => by omega) (fun x hx => (wy_lt ((hk x).1 hx).1).2)
    omega)
  exact hr

set_option maxRecDepth 100000 in
set_option maxHeartbeats 3200000 in
theorem shown14_any (w : World) : Calls Try.prog 9 #[] w fun e w' => e = .returned (.bool true) ∧ Below w.heap.size w w' := by
  have L1 := fun w => lits14_rs [[1], [2], [0, 3], [3], [0]] w (zi_small (by decide)) (by decide)
  have L2 := fun w => lits14_rs [[3, -1, 9], [2], [1], [0]] w (zi_small (by decide)) (by decide)
  have L3 := fun w => lits14_rs [[1], [2], []] w (zi_small (by decide)) (by decide)
  have L4 := fun w => lits14_rs [[0]] w (zi_small (by decide)) (by decide)
  have L5 := fun w => lits14_rs [[0, 1, 2], [3]] w (zi_small (by decide)) (by decide)
  have L6 := fun w => lits14_rs [[0, 3], [1, 2]] w (zi_small (by decide)) (by decide)
  simp only [lits14, I64, List.map_cons, List.map_nil, List.length_cons, List.length_nil, World.size_alloc, Nat.zero_add, Nat.reduceAdd] at L1 L2 L3 L4 L5 L6
  have H1 := hid L1
  have H2 := hid L2
  have H3 := hid L3
  have H4 := hid L4
  have H5 := hid L5
  have H6 := hid L6
  clear L1 L2 L3 L4 L5 L6
  go_enter Try.func9, Try.ntmps9
  go_wp2_with fail
  refine (parts_any14 (H1.out w).1 (by decide)).mono ?_
  rintro e w1 ⟨va, _, _, rfl, ha⟩
  have HA := hid (ha.rs (by decide))
  have B1 := hid (below_step (H1.out w).2 ha.2.2.2.1)
  clear ha
  rw [ex14_1] at HA
  go_wp2_with fail
  refine (parts_any14 (H2.out w1).1 (by decide)).mono ?_
  rintro e w2 ⟨vb, _, _, rfl, hb⟩
  have HB := hid (hb.rs (by decide))
  have C2 := hid (below_step (H2.out w1).2 hb.2.2.2.1)
  have B2 := hid (below_step B1.out C2.out)
  have HA2 := hid (HA.out.kp (Kp.of_below C2.out))
  clear hb HA C2 B1
  rw [ex14_2] at HB
  go_wp2_with fail
  refine (parts_any14 (H3.out w2).1 (by decide)).mono ?_
  rintro e w3 ⟨vc, _, _, rfl, hc⟩
  have HC := hid (hc.rs (by decide))
  have C3 := hid (below_step (H3.out w2).2 hc.2.2.2.1)
  have B3 := hid (below_step B2.out C3.out)
  have HA3 := hid (HA2.out.kp (Kp.of_below C3.out))
  have HB3 := hid (HB.out.kp (Kp.of_below C3.out))
  clear hc HA2 HB C3 B2
  rw [ex14_3] at HC
  obtain ⟨co, cc, hvc, _⟩ := Row.flat HC.out
  have hvc2 : vc = .slice co 0 cc := hvc
  clear hvc
  subst hvc2
  go_wp2_with fail
  refine (parts_any14 (H4.out w3).1 (by decide)).mono ?_
  rintro e w4 ⟨vd, _, _, rfl, hd⟩
  have HD := hid (hd.rs (by decide))
  have C4 := hid (below_step (H4.out w3).2 hd.2.2.2.1)
  have B4 := hid (below_step B3.out C4.out)
  have HA4 := hid (HA3.out.kp (Kp.of_below C4.out))
  have HB4 := hid (HB3.out.kp (Kp.of_below C4.out))
  clear hd HA3 HB3 C4 B3 HC
  rw [ex14_4] at HD
  go_wp2_with fail
  refine (same14_any _ _ _ _ _ (HA4.out.kp (Kp.of_below (H5.out w4).2)) (H5.out w4).1).mono ?_
  rintro e w5 ⟨rfl, hb5⟩
  have C5 := hid (below_step (H5.out w4).2 hb5)
  have B5 := hid (below_step B4.out C5.out)
  have HB5 := hid (HB4.out.kp (Kp.of_below C5.out))
  have HD5 := hid (HD.out.kp (Kp.of_below C5.out))
  rw [show decide (List.map natL [[0, 1, 2], [3]] = [[0, 1, 2], [3]]) = true by decide]
  clear hb5 HA4 HB4 HD C5 B4
  go_wp2_with fail
  refine (same14_any _ _ _ _ _ (HB5.out.kp (Kp.of_below (H6.out w5).2)) (H6.out w5).1).mono ?_
  rintro e w6 ⟨rfl, hb6⟩
  have C6 := hid (below_step (H6.out w5).2 hb6)
  have B6 := hid (below_step B5.out C6.out)
  have HD6 := hid (HD5.out.kp (Kp.of_below C6.out))
  rw [show decide (List.map natL [[0, 3], [1, 2]] = [[0, 3], [1, 2]]) = true by decide]
  clear hb6 HB5 HD5 C6 B5
  go_wp2_with fail
  refine (same14_any _ _ _ _ _ (HD6.out.kp (Kp.of_below (H4.out w6).2)) (H4.out w6).1).mono ?_
  rintro e w7 ⟨rfl, hb7⟩
  have B7 := hid (below_step B6.out (below_step (H4.out w6).2 hb7))
  rw [show decide (List.map natL [[0]] = [[0]]) = true by decide]
  clear hb7 HD6 B6
  go_wp2
  go_ret
  exact ⟨rfl, B7.out⟩

end Go.Proofs.Ythhmfamhdbepfaa

/- A list of rows of one's own that grow one by one. -/
namespace Go.Proofs.Ythhmfamhdbepfaa
open Go.RowKit Go.Maps Go.BigFrame

theorem zip_set14 {α β : Type} (xs : List α) (ys : List β) (k : Nat) (x : α) (y : β) : (xs.zip ys).set k (x, y) = (xs.set k x).zip (ys.set k y) := by
  induction xs generalizing ys k with
  | nil => simp
  | cons a xs ih =>
    cases ys with
    | nil => cases k <;> simp
    | cons b ys =>
      cases k with
      | zero => rfl
      | succ k => simp [ih]

/-- The rows' headers stand in one block; each row lies in a block of its own. -/
structure Bk14 (w0 w : World) (g n : Nat) (vals : List Value) (rws : List (List Int)) : Prop where
  bel : Below w0.heap.size w0 w
  base : w0.heap.size ≤ g
  blk : w.heap[g]? = some (.cells vals.toArray 26 (0, 0))
  len : vals.length = n
  rlen : rws.length = n
  own : Owns w w0.heap.size (vals.zip rws)

theorem Bk14.later {w0 w w' : World} {g n : Nat} {vals : List Value} {rws : List (List Int)} (h : Bk14 w0 w g n vals rws) (hb : Below w.heap.size w w') : Bk14 w0 w' g n vals rws :=
  ⟨below_step h.bel hb, h.base, (hb.block g (Array.getElem?_eq_some_iff.1 h.blk).1).trans h.blk, h.len, h.rlen, h.own.later hb⟩

theorem Bk14.one {w0 w : World} {g n x : Nat} {vals : List Value} {rws : List (List Int)} (h : Bk14 w0 w g n vals rws) (hx : x < n) : ∃ v r, vals[x]? = some v ∧ rws[x]? = some r ∧ OwI w w0.heap.size v r ∧ w.cell? ⟨g, x, none⟩ = some v ∧ w.frozen? ⟨g, x, none⟩ = false := by
  have h1 : x < vals.length := by rw [h.len]; exact hx
  have h2 : x < rws.length := by rw [h.rlen]; exact hx
  refine ⟨vals[x], rws[x], List.getElem?_eq_getElem h1, List.getElem?_eq_getElem h2, h.own.own x _ _ (List.getElem?_zip_eq_some.2 ⟨List.getElem?_eq_getElem h1, List.getElem?_eq_getElem h2⟩), ?_, frozen_of_row w g x _ _ h.blk⟩
  rw [cell_of_row w g x _ _ _ h.blk]
  simp [h1]

/-- A number more behind one of the rows. -/
theorem Bk14.push (ty : TypeId) {w0 w : World} {g n x : Nat} {vals : List Value} {rws : List (List Int)} {v : Value} {r : List Int} {c : Int} (h : Bk14 w0 w g n vals rws) (_hx : x < n) (hv : vals[x]? = some v) (hr : rws[x]? = some r) (h1 : -9223372036854775808 ≤ c) (h2 : c ≤ 9223372036854775807) (hl : (r.length + 1) * 8 ≤ 140737488355328) :
    ∃ v' w', (Builtin.append_ #[26, 26] ty #[v, .slice (some ⟨w.heap.size, 0, none⟩) 1 1]).run Try.prog (w.alloc (.cells #[.int .i64 c] 3)) = .ok v' w' ∧ (∃ a m d, v' = .slice a m d) ∧ w'.cell? ⟨g, x, none⟩ = some v ∧ w'.frozen? ⟨g, x, none⟩ = false ∧ Bk14 w0 (w'.setCell ⟨g, x, none⟩ v') g n (vals.set x v') (rws.set x (r ++ [c])) := by
  have ho := h.own.own x v r (List.getElem?_zip_eq_some.2 ⟨hv, hr⟩)
  have h' := h.later (below_alloc (.cells #[.int .i64 c] 3))
  obtain ⟨v', w', hrun, g1, g2, g3⟩ := join_one ty ho h1 h2 h.bel.size hl
  have hs := h'.own.step (i := x) (List.getElem?_zip_eq_some.2 ⟨hv, hr⟩) g2 g1 (by
    rcases g3 with g3 | g3
    · exact .inl g3
    · exact .inr ⟨_, g3, Nat.le_refl _⟩)
  rw [zip_set14] at hs
  have ho' := h'.own.own x v r (List.getElem?_zip_eq_some.2 ⟨hv, hr⟩)
  have hblk : w'.heap[g]? = some (.cells vals.toArray 26 (0, 0)) := (g2.block g (Array.getElem?_eq_some_iff.1 h'.blk).1 (fun e => own_ne ho'.2 h'.blk (by decide) e.symm)).trans h'.blk
  have hbel : Below w0.heap.size w0 w' := h'.bel.grown g2 h'.bel.size (fun k hk => own_blk ho'.2 hk)
  obtain ⟨ao, cap, hv', _⟩ := g1.shape
  refine ⟨v', w', hrun, ⟨_, _, _, hv'⟩, ?_, frozen_of_row w' g x _ _ hblk, hbel.setCell (p := ⟨g, x, none⟩) h.base v', h.base, ?_, by rw [List.length_set, h.len], by rw [List.length_set, h.rlen], hs.kept (set_grown w' g x v') hblk (by decide)⟩
  · rw [cell_of_row w' g x _ _ _ hblk]
    simpa using hv
  · rw [heap_setCell_same w' g x _ _ _ hblk]
    simp

theorem Bk14.rs {w0 w : World} {g n : Nat} {vals : List Value} {rws : List (List Int)} (h : Bk14 w0 w g n vals rws) (hn : n ≤ 1048576) (hl : ∀ r, r ∈ rws → r.length * 8 ≤ 140737488351232) : Rs w (.slice (some ⟨g, 0, none⟩) n n) rws := by
  refine ⟨some ⟨g, 0, none⟩, n, by rw [h.rlen], by rw [h.rlen]; exact Nat.le_refl _, by unfold maxLen; omega, fun _ => ⟨g, 0, rfl, (Array.getElem?_eq_some_iff.1 h.blk).1, fun k r hk => ?_⟩⟩
  have hk2 := (List.getElem?_eq_some_iff.1 hk).1
  rw [h.rlen] at hk2
  obtain ⟨v, r', h1, h2, h3, h4, _⟩ := h.one hk2
  rw [hk] at h2
  cases h2
  exact ⟨hl r (List.mem_of_getElem? hk), v, by rw [Nat.zero_add, Nat.mul_one]; exact h4, h3.is⟩

/-- New rows, all empty. -/
theorem Bk14.new (w : World) (n : Nat) : Bk14 w (w.alloc (.cells (List.replicate n (Value.slice none 0 0)).toArray 26)) w.heap.size n (List.replicate n (.slice none 0 0)) (List.replicate n []) := by
  refine ⟨below_alloc _, Nat.le_refl _, heap_alloc_new _ _, by simp, by simp, ⟨fun i v xs hi => ?_, fun i j v u xs ys _ hi _ => ?_⟩⟩
  · have := List.getElem?_zip_eq_some.1 hi
    have e1 := (List.mem_replicate.1 (List.mem_of_getElem? this.1)).2
    have e2 := (List.mem_replicate.1 (List.mem_of_getElem? this.2)).2
    simp only at e1 e2
    subst e1 e2
    exact ow_nil14 _ _
  · have := List.getElem?_zip_eq_some.1 hi
    have e1 := (List.mem_replicate.1 (List.mem_of_getElem? this.1)).2
    simp only at e1
    subst e1
    exact dis_nil14 _

theorem run_makeR14 (w : World) (n : Nat) (hn : n * 24 ≤ 140737488355328) : (Instr.makeSlice 22 (.int .i64 (n : Int)) (.int .i64 (n : Int))).run Try.prog w = .ok (.slice (some ⟨w.heap.size, 0, none⟩) n n) (w.alloc (.cells (List.replicate n (Value.slice none 0 0)).toArray 26)) := by
  obtain ⟨i0, hi, hz0, hz1, hz2⟩ := info_parts info_ints
  have h := run_make (P := Try.prog) w 22 26 i0 (.slice none 0 0) under_rows hi hz0 .i64 .i64 (n : Int) (n : Int) (by omega) (Int.le_refl _) (by rw [hz2]; omega) (by omega)
  rw [hz1, Int.toNat_natCast] at h
  have e : madeCells (Value.slice none 0 0).cells (n * 1) = (List.replicate n (Value.slice none 0 0)).toArray := by
    apply Array.ext'
    rw [made_nilS]
  rw [e] at h
  exact h

end Go.Proofs.Ythhmfamhdbepfaa

/- GraphTurned: with all edges turned round the parts are the same. -/
namespace Go.Proofs.Ythhmfamhdbepfaa
open Go.RowKit Go.Maps Go.BigFrame

def cnt14 (G : List (List Int)) (i k : Nat) : Nat := ((G.take i).map List.length).sum + k

/-- The edges turned round, as far as the place k of the row i. -/
def Tn14 (G : List (List Int)) (i k : Nat) (rws : List (List Int)) : Prop :=
  ∀ (x : Nat) (r : List Int), rws[x]? = some r → r.length ≤ cnt14 G i k ∧ ∀ y : Int, y ∈ r ↔ ∃ (a c : Nat) (es : List Int), (a < i ∨ (a = i ∧ c < k)) ∧ G[a]? = some es ∧ es[c]? = some (x : Int) ∧ y = (a : Int)

theorem Tn14.start (G : List (List Int)) (n : Nat) : Tn14 G 0 0 (List.replicate n []) := fun x r hr => by
  have := (List.mem_replicate.1 (List.mem_of_getElem? hr)).2
  subst this
  refine ⟨Nat.zero_le _, fun y => ⟨fun h => by simp at h, ?_⟩⟩
  rintro ⟨a, c, es, h, _⟩
  omega

theorem Tn14.row {G : List (List Int)} {i : Nat} {es : List Int} {rws : List (List Int)} (h : Tn14 G i es.length rws) (hes : G[i]? = some es) : Tn14 G (i + 1) 0 rws := fun x r hr => by
  obtain ⟨h1, h2⟩ := h x r hr
  refine ⟨?_, fun y => ?_⟩
  · unfold cnt14 at h1 ⊢
    rw [take_get hes, List.map_append, List.sum_append]
    simp only [List.map_cons, List.map_nil, List.sum_cons, List.sum_nil]
    omega
  · rw [h2]
    constructor
    · rintro ⟨a, c, fs, h3, h4, h5, h6⟩
      exact ⟨a, c, fs, .inl (by omega), h4, h5, h6⟩
    · rintro ⟨a, c, fs, h3, h4, h5, h6⟩
      refine ⟨a, c, fs, ?_, h4, h5, h6⟩
      by_cases e : a = i
      · subst e
        rw [hes] at h4
        cases h4
        exact .inr ⟨rfl, (List.getElem?_eq_some_iff.1 h5).1⟩
      · exact .inl (by omega)

theorem Tn14.skip {G : List (List Int)} {i k : Nat} {es : List Int} {t : Int} {rws : List (List Int)} (h : Tn14 G i k rws) (hes : G[i]? = some es) (ht : es[k]? = some t) (hx : ∀ x : Nat, x < rws.length → t ≠ (x : Int)) : Tn14 G i (k + 1) rws := fun x r hr => by
  obtain ⟨h1, h2⟩ := h x r hr
  have hxl := (List.getElem?_eq_some_iff.1 hr).1
  refine ⟨by unfold cnt14 at *; omega, fun y => ?_⟩
  rw [h2]
  constructor
  · rintro ⟨a, c, fs, h3, h4, h5, h6⟩
    exact ⟨a, c, fs, by omega, h4, h5, h6⟩
  · rintro ⟨a, c, fs, h3, h4, h5, h6⟩
    refine ⟨a, c, fs, ?_, h4, h5, h6⟩
    by_cases e : a = i ∧ c = k
    · obtain ⟨rfl, rfl⟩ := e
      rw [hes] at h4
      cases h4
      rw [ht] at h5
      cases h5
      exact absurd rfl (hx x hxl)
    · omega

theorem Tn14.put {G : List (List Int)} {i k x : Nat} {es r : List Int} {rws : List (List Int)} (h : Tn14 G i k rws) (hes : G[i]? = some es) (ht : es[k]? = some (x : Int)) (hr : rws[x]? = some r) : Tn14 G i (k + 1) (rws.set x (r ++ [(i : Int)])) := fun z q hq => by
  by_cases e : x = z
  · subst e
    rw [List.getElem?_set_self (List.getElem?_eq_some_iff.1 hr).1] at hq
    cases hq
    obtain ⟨h1, h2⟩ := h x r hr
    refine ⟨by unfold cnt14 at *; rw [List.length_append, List.length_singleton]; omega, fun y => ?_⟩
    rw [List.mem_append, h2]
    constructor
    · rintro (⟨a, c, fs, h3, h4, h5, h6⟩ | hy)
      · exact ⟨a, c, fs, by omega, h4, h5, h6⟩
      · exact ⟨i, k, es, by omega, hes, ht, by simpa using hy⟩
    · rintro ⟨a, c, fs, h3, h4, h5, h6⟩
      by_cases e : a = i ∧ c = k
      · exact .inr (by rw [h6, e.1]; simp)
      · exact .inl ⟨a, c, fs, by omega, h4, h5, h6⟩
  · rw [List.getElem?_set_ne e] at hq
    obtain ⟨h1, h2⟩ := h z q hq
    refine ⟨by unfold cnt14 at *; omega, fun y => ?_⟩
    rw [h2]
    constructor
    · rintro ⟨a, c, fs, h3, h4, h5, h6⟩
      exact ⟨a, c, fs, by omega, h4, h5, h6⟩
    · rintro ⟨a, c, fs, h3, h4, h5, h6⟩
      refine ⟨a, c, fs, ?_, h4, h5, h6⟩
      by_cases e2 : a = i ∧ c = k
      · obtain ⟨rfl, rfl⟩ := e2
        rw [hes] at h4
        cases h4
        rw [ht] at h5
        cases h5
        exact absurd rfl e
      · omega

theorem sum_le14 (G : List (List Int)) : ∀ i, ((G.take i).map List.length).sum ≤ (G.map List.length).sum := fun i => by
  have : (G.map List.length).sum = ((G.take i).map List.length).sum + ((G.drop i).map List.length).sum := by
    rw [← List.sum_append, ← List.map_append, List.take_append_drop]
  omega

theorem cnt_le14 {G : List (List Int)} {i k : Nat} {es : List Int} (h : G[i]? = some es) (hk : k ≤ es.length) : cnt14 G i k ≤ (G.map List.length).sum := by
  have := sum_le14 G (i + 1)
  rw [take_get h, List.map_append, List.sum_append] at this
  simp only [List.map_cons, List.map_nil, List.sum_cons, List.sum_nil] at this
  unfold cnt14
  omega

/-- The turned graph's parts. -/
theorem turned14 {G rws : List (List Int)} (h : Tn14 G G.length 0 rws) (hl : rws.length = G.length) : partsG rws = partsG G := by
  have e : ∀ i k, Ed rws i k ↔ Ed G k i := fun i k => by
    constructor
    · rintro ⟨r, h1, h2, h3⟩
      obtain ⟨a, c, es, h4, h5, h6, h7⟩ := ((h i r h1).2 k).1 h2
      obtain rfl : k = a := by omega
      exact ⟨es, h5, List.mem_of_getElem? h6, by rw [← hl]; exact (List.getElem?_eq_some_iff.1 h1).1⟩
    · rintro ⟨es, h1, h2, h3⟩
      obtain ⟨c, hc⟩ := List.getElem?_of_mem h2
      have hi : i < rws.length := by rw [hl]; exact h3
      refine ⟨rws[i], List.getElem?_eq_getElem hi, ((h i _ (List.getElem?_eq_getElem hi)).2 k).2 ⟨k, c, es, .inl (List.getElem?_eq_some_iff.1 h1).1, h1, hc, rfl⟩, by rw [hl]; exact (List.getElem?_eq_some_iff.1 h1).1⟩
  refine ((partsB_is rws).congr (F := Ed G) fun i k => ?_).eq
  have h1 : ∀ i k, Wy (Ed rws) i k ↔ Wy (Ed G) k i := fun i k => ⟨fun h => h.back (fun a b he => (e a b).1 he), fun h => h.back (fun a b he => (e b a).2 he)⟩
  rw [h1, h1]
  exact And.comm

set_option maxRecDepth 100000 in
set_option maxHeartbeats 3200000 in
theorem graphTurned_any (v : Value) (G : List (List Int)) (w : World) (h : Rs w v G) (hsum : (G.map List.length).sum ≤ 1048576) :
    Calls Try.prog 5 #[v] w fun e w' => e = .returned (.bool true) ∧ Below w.heap.size w w' := by
  obtain ⟨ao, cap, rfl, hao, hca, _⟩ := Row.flat h
  unfold maxLen at hca
  have HG := hid h
  have HSum := hid hsum
  clear h hsum
  go_enter Try.func5, Try.ntmps5
  go_wp2_with fail
  refine (shown14_any w).mono ?_
  rintro e w1 ⟨rfl, hb1⟩
  have B1 := hid hb1
  clear hb1
  by_cases hbig : 200 < G.length
  · have hd : decide (200 < G.length) = true := by simpa using hbig
    go_wp2
    go_ret
    exact ⟨rfl, B1.out⟩
  · have hd : decide (200 < G.length) = false := by simpa using hbig
    have hmk := run_makeR14 w1 G.length (by omega)
    have hnw := Bk14.new w1 G.length
    obtain ⟨W, hW⟩ : ∃ X, X = w1.alloc (.cells (List.replicate G.length (Value.slice none 0 0)).toArray 26) := ⟨_, rfl⟩
    rw [← hW] at hmk hnw
    have HN := hid hnw
    clear hnw hW
    generalize hg : w1.heap.size = g at hmk HN
    have HRs := hid (HG.out.kp (Kp.of_below B1.out))
    go_wp2
    go_loopw [5, 6] (fun i _ wr => ∃ (k : Nat) (vals : List Value) (rws : List (List Int)), k ≤ G.length ∧ i = .int .i64 k ∧ Bk14 w1 wr g G.length vals rws ∧ Tn14 G k 0 rws) (fun i _ _ => G.length - (intOf i).toNat)
    case atStart => exact ⟨0, _, _, Nat.zero_le _, rfl, HN.out, Tn14.start G _⟩
    case round =>
      obtain ⟨i, vals, rws, hi, rfl, hbk, htn⟩ := hrel
      have HB := hid hbk
      have HT := hid htn
      clear hbk htn HN
      by_cases hlt : i < G.length
      · as_aux_lemma =>
          obtain ⟨g1, o1, xa, es, xc, rfl, hes, hx2, hx3, hx4⟩ := (HRs.out.kp (Kp.of_below HB.out.bel)).at hlt
          have HEs := hid hes
          clear hes hx2 hx3 hx4
          go_wp2
          go_loopw [6, 7] (fun j _ wr => ∃ (k : Nat) (vals : List Value) (rws : List (List Int)), k ≤ es.length ∧ j = .int .i64 k ∧ Bk14 w1 wr g G.length vals rws ∧ Tn14 G i k rws) (fun j _ _ => es.length - (intOf j).toNat)
          case atStart => exact ⟨0, _, _, Nat.zero_le _, rfl, HB.out, HT.out⟩
          case round =>
            obtain ⟨k, vals, rws, hk, rfl, hbk, htn⟩ := hrel
            have HB2 := hid hbk
            have HT2 := hid htn
            clear hbk htn HB HT
            obtain ⟨_, _, xa, es', xc, e1, hes, hx2, hx3, hx4⟩ := (HRs.out.kp (Kp.of_below HB2.out.bel)).at hlt
            rw [HEs.out] at hes
            cases hes
            cases e1
            by_cases hkl : k < es.length
            · as_aux_lemma =>
                obtain ⟨g2, o2, t, rfl, ht, ht2, ht3, ht4⟩ := hx3.at hkl
                have HTt := hid ht
                have hw1 : IntKind.i64.wrap ((k : Int) + 1) = ((k + 1 : Nat) : Int) := by rw [IntWalk.i64_in _ ⟨by omega, by omega⟩]; omega
                clear ht hx3
                by_cases hin : 0 ≤ t ∧ t < G.length
                · as_aux_lemma =>
                    obtain ⟨x, rfl⟩ : ∃ x : Nat, t = (x : Int) := ⟨t.toNat, by omega⟩
                    have hxl : x < G.length := by omega
                    obtain ⟨v9, r9, hv9, hr9, hbo, hc9, hf9⟩ := HB2.out.one hxl
                    have hrl := (HT2.out x r9 hr9).1
                    have hcl := cnt_le14 HEs.out (Nat.le_of_lt hkl)
                    have hsm := HSum.out
                    obtain ⟨v', w', hrun, ⟨a9, m9, c8, rfl⟩, hc8, hf8, hbk⟩ := HB2.out.push 26 (c := (i : Int)) hxl hv9 hr9 (by omega) (by omega) (by omega)
                    obtain ⟨W3, hW3⟩ : ∃ X, X = w'.setCell ⟨g, x, none⟩ (.slice a9 m9 c8) := ⟨_, rfl⟩
                    rw [← hW3] at hbk
                    have HB3 := hid hbk
                    have HT3 := hid (HT2.out.put HEs.out HTt.out hr9)
                    have HR := hid hrun
                    obtain ⟨bo, bc, hvv, _, _⟩ := hbo.shape
                    subst hvv
                    have hd0 : decide (0 ≤ (x : Int)) = true := by simp
                    have hd1 : decide (x < G.length) = true := by simpa using hxl
                    clear hbk hrun hbo hv9 hr9 hrl hcl hsm hin
                    go_wp2_with (first
                      | (at_builtin; refine wpList_append_run rfl _ _ _ rfl _ _ rfl rfl HR.out ?_))
                    rw [← hW3]
                    go_wp2
                    go_roundw
                    case rel => exact ⟨k + 1, _, _, hkl, by go_num, HB3.out, HT3.out⟩
                    case measure => simp only [intOf]; omega
                · as_aux_lemma =>
                    have HT3 := hid (HT2.out.skip HEs.out HTt.out (fun x hx e => hin ⟨by omega, by have := HB2.out.rlen; omega⟩))
                    by_cases hneg : 0 ≤ t
                    · have hge : ¬ t < G.length := fun h => hin ⟨hneg, h⟩
                      have hd0 : decide (0 ≤ t) = true := by simpa using hneg
                      have hd1 : decide (t < G.length) = false := by simpa using hge
                      clear hin
                      go_wp2
                      go_roundw
                      case rel => exact ⟨k + 1, _, _, hkl, by go_num, HB2.out, HT3.out⟩
                      case measure => simp only [intOf]; omega
                    · have hd0 : decide (0 ≤ t) = false := by simpa using hneg
                      clear hin
                      go_wp2
                      go_roundw
                      case rel => exact ⟨k + 1, _, _, hkl, by go_num, HB2.out, HT3.out⟩
                      case measure => simp only [intOf]; omega
            · as_aux_lemma =>
                have hke : k = es.length := by omega
                have HT3 : Hid (Tn14 G (i + 1) 0 rws) := by
                  have h9 := HT2.out
                  rw [hke] at h9
                  exact h9.row HEs.out
                clear hke
                go_wp2
                go_roundw
                case rel => exact ⟨i + 1, _, _, hlt, by go_num, HB2.out, HT3.out⟩
                case measure => simp only [intOf]; omega
      · have hie : i = G.length := by omega
        have HT3 : Hid (Tn14 G G.length 0 rws) := by have h9 := HT.out; rw [hie] at h9; exact h9
        clear hie
        have HRb := hid (HB.out.rs (by omega) (fun r hr => by
          obtain ⟨x, hx⟩ := List.getElem?_of_mem hr
          have h1 := (HT3.out x r hx).1
          have h2 := sum_le14 G G.length
          have h3 := HSum.out
          unfold cnt14 at h1
          omega))
        have HRg := hid (HRs.out.kp (Kp.of_below HB.out.bel))
        have HLr := hid HB.out.rlen
        have HEq := hid (turned14 HT3.out HB.out.rlen)
        have BW := hid (below_step B1.out HB.out.bel)
        go_wp2_with fail
        refine (parts_any14 HRb.out (by rw [HLr.out]; omega)).mono ?_
        rintro e w3 ⟨va, _, _, rfl, ha⟩
        have HA := hid (ha.rs (by rw [HLr.out]; omega))
        have C3 := hid ha.2.2.2.1
        clear ha
        go_wp2_with fail
        refine (parts_any14 (HRg.out.kp (Kp.of_below C3.out)) (by omega)).mono ?_
        rintro e w4 ⟨vb, _, _, rfl, hb⟩
        have HBb := hid (hb.rs (by omega))
        have C4 := hid hb.2.2.2.1
        clear hb
        go_wp2_with fail
        refine (same14_any _ _ _ _ _ (HA.out.kp (Kp.of_below C4.out)) HBb.out).mono ?_
        rintro e w5 ⟨rfl, hb5⟩
        have B5 := hid (below_step BW.out (below_step C3.out (below_step C4.out hb5)))
        rw [HEq.out, decide_eq_true rfl]
        clear hb5
        go_wp2
        go_ret
        exact ⟨rfl, B5.out⟩

end Go.Proofs.Ythhmfamhdbepfaa
