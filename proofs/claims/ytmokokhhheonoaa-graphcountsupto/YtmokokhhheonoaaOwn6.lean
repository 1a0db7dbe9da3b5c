/- Texts of the proof, one behind the other. -/
import Derived.Test.YtmokokhhheonoaaOwn2
import Derived.BigRegion
import Derived.Test.YtmokokhhheonoaaOwn5
/- same of layer 14's law file: two lists of rows. -/
namespace Go.Proofs.Ytmokokhhheonoaa
open Go.RowKit Go.Maps Go.BigFrame

set_option maxRecDepth 100000 in
set_option maxHeartbeats 1600000 in
theorem same14_any (v u : Value) (a b : List (List Int)) (w : World) (h : Rs w v a) (h' : Rs w u b) :
    Calls Try.prog 13 #[v, u] w fun e w' => e = .returned (.bool (decide (a = b))) ∧ Below w.heap.size w w' := by
  obtain ⟨ao, cap, rfl, hao, hca, _⟩ := Row.flat h
  obtain ⟨bo, cap', rfl, hbo, hcb, _⟩ := Row.flat h'
  unfold maxLen at hca hcb
  have HA := hid h
  have HB := hid h'
  clear h h'
  by_cases hl : a.length = b.length
  · have hle : ((a.length : Int) != b.length) = false := by simp; omega
    have hlb : a.length ≤ b.length := by omega
    have HL := hid hl
    clear hl
    go_enter Try.func13, Try.ntmps13
    go_wp2
    go_loopw [5, 6] (fun i _ wr => ∃ k : Nat, k ≤ a.length ∧ i = .int .i64 k ∧ a.take k = b.take k ∧ Below w.heap.size w wr) (fun i _ _ => a.length - (intOf i).toNat)
    case atStart => exact ⟨0, Nat.zero_le _, rfl, rfl, Below.refl _ _⟩
    case round =>
      obtain ⟨k, hk, rfl, ht, hbl⟩ := hrel
      have HT := hid ht
      have HBl := hid hbl
      clear ht
      by_cases hlt : k < a.length
      · obtain ⟨g, off, xa, x, xc, rfl, hx1, hx2, hx3, hx4⟩ := (HA.out.kp (Kp.of_below hbl)).at hlt
        obtain ⟨g', off', ya, y, yc, rfl, hy1, hy2, hy3, hy4⟩ := (HB.out.kp (Kp.of_below hbl)).at (k := k) (by omega)
        have HX := hid hx1
        have HY := hid hy1
        have HXi := hid hx3
        have HYi := hid hy3
        have hlt' : k < b.length := by omega
        clear hx1 hy1 hx3 hy3 hbl
        by_cases hxy : x.length = y.length
        · as_aux_lemma =>
            have hne : ((x.length : Int) != y.length) = false := by simp; omega
            have HXY := hid hxy
            clear hxy
            go_wp2
            go_region
            go_wp2
            go_loopw [6] (fun j wc => ∃ m : Nat, m ≤ x.length ∧ j = .int .i64 m ∧ x.take m = y.take m ∧ Below w.heap.size w wc) (fun j _ => x.length - (intOf j).toNat)
            case atStart => exact ⟨0, Nat.zero_le _, rfl, rfl, HBl.out.drew⟩
            case round =>
              obtain ⟨m, hm, rfl, ht, hbl⟩ := hrel
              have HTm := hid ht
              have HBm := hid hbl
              obtain ⟨_, _, xa', x', xc', e1, hx1, hx2, hx3, _⟩ := (HA.out.kp (Kp.of_below hbl)).at hlt
              obtain ⟨_, _, ya', y', yc', e2, hy1, hy2, hy3, _⟩ := (HB.out.kp (Kp.of_below hbl)).at (k := k) (by omega)
              rw [HX.out] at hx1
              rw [HY.out] at hy1
              cases hx1
              cases hy1
              cases e1
              cases e2
              by_cases hml : m < x.length
              · as_aux_lemma =>
                  obtain ⟨gx, ox, p, rfl, hp1, hp2, hp3, hp4⟩ := hx3.at hml
                  obtain ⟨gy, oy, q, rfl, hq1, hq2, hq3, hq4⟩ := hy3.at (k := m) (by rw [← HXY.out]; exact hml)
                  have hmy : m < y.length := by rw [← HXY.out]; exact hml
                  have HP := hid hp1
                  have HQ := hid hq1
                  clear hp1 hq1 hx3 hy3 ht hbl
                  by_cases hpq : p = q
                  · as_aux_lemma =>
                      subst hpq
                      have HE : Hid (x.take (m + 1) = y.take (m + 1)) := by show _ = _; rw [take_get HP.out, take_get HQ.out, HTm.out]
                      have hd : (p != p) = false := by simp
                      go_wp2
                      go_region
                      go_wp2
                      go_roundw
                      case rel => exact ⟨m + 1, hml, by go_num, HE.out, HBm.out.drew⟩
                      case measure => simp only [intOf]; omega
                  · as_aux_lemma =>
                      have hd : (p != q) = true := by simpa using hpq
                      have HE : Hid (decide (a = b) = false) := decide_eq_false (by
                        rintro rfl
                        have h1 := HX.out.symm.trans HY.out
                        simp at h1
                        subst h1
                        have h2 := HP.out.symm.trans HQ.out
                        simp at h2
                        exact hpq h2)
                      clear hpq
                      go_wp2
                      go_region
                      go_wp2
                      go_ret
                      exact ⟨ret1b HE.out.symm, HBm.out.drew⟩
              · as_aux_lemma =>
                  have hmx : m = x.length := by omega
                  have HE : Hid (a.take (k + 1) = b.take (k + 1)) := by
                    have h9 := HTm.out
                    rw [List.take_of_length_le (by omega), List.take_of_length_le (by rw [← HXY.out]; omega)] at h9
                    show _ = _
                    rw [take_get HX.out, take_get HY.out, HT.out, h9]
                  subst hmx
                  clear ht hbl hx3 hy3
                  go_wp2
                  go_roundw
                  case rel => exact ⟨k + 1, hlt, by go_num, HE.out, HBm.out⟩
                  case measure => simp only [intOf]; omega
        · as_aux_lemma =>
            have hne : ((x.length : Int) != y.length) = true := by simp; omega
            have HE : Hid (decide (a = b) = false) := decide_eq_false (by
              rintro rfl
              have h1 := HX.out.symm.trans HY.out
              simp at h1
              subst h1
              exact hxy rfl)
            clear hxy
            go_wp2
            go_region
            go_wp2
            go_ret
            exact ⟨ret1b HE.out.symm, HBl.out.drew⟩
      · have hk' : k = a.length := by omega
        have HE : Hid (decide (a = b) = true) := by
          have h9 := HT.out
          rw [List.take_of_length_le (by omega), List.take_of_length_le (by have := HL.out; omega)] at h9
          exact decide_eq_true h9
        go_wp2
        go_ret
        exact ⟨ret1b HE.out.symm, hbl⟩
  · have hne : ((a.length : Int) != b.length) = true := by rw [bne_iff_ne]; omega
    have HE : Hid (decide (a = b) = false) := decide_eq_false (fun h => hl (by rw [h]))
    go_enter Try.func13, Try.ntmps13
    go_wp2
    go_ret
    exact ⟨ret1b HE.out.symm, Below.refl _ _⟩

end Go.Proofs.Ytmokokhhheonoaa

/- The examples of layer 14 come out true. -/
namespace Go.Proofs.Ytmokokhhheonoaa
open Go.RowKit Go.Maps Go.BigFrame

/-- Rows laid one behind the other. -/
def lits14 : World → List (List Int) → World × List Value
  | w, [] => (w, [])
  | w, x :: r => ((lits14 (w.alloc (.cells (x.map I64).toArray 3)) r).1, .slice (some ⟨w.heap.size, 0, none⟩) x.length x.length :: (lits14 (w.alloc (.cells (x.map I64).toArray 3)) r).2)

theorem lits14_ok : ∀ (l : List (List Int)) (w : World), (∀ x, x ∈ l → ZI x ∧ x.length ≤ 1000) → Below w.heap.size w (lits14 w l).1 ∧ (lits14 w l).2.length = l.length ∧ ∀ (j : Nat) (u : Value) (x : List Int), (lits14 w l).2[j]? = some u → l[j]? = some x → Is (lits14 w l).1 u x
  | [], w, _ => ⟨Below.refl _ _, rfl, fun j u x hu => by simp [lits14] at hu⟩
  | x :: r, w, h => by
    obtain ⟨h1, h2, h3⟩ := lits14_ok r (w.alloc (.cells (x.map I64).toArray 3)) (fun y hy => h y (by simp [hy]))
    refine ⟨below_step (below_alloc _) h1, by simp [lits14, h2], fun j u y hu hy => ?_⟩
    cases j with
    | zero =>
      simp only [lits14, List.getElem?_cons_zero, Option.some.injEq] at hu hy
      subst hu hy
      have hz := h x (by simp)
      exact (is_new w x 3 (fun y hy => by obtain ⟨k, hk⟩ := List.getElem?_of_mem hy; exact hz.1 k y hk) hz.2).kp (Kp.of_below h1)
    | succ j =>
      simp only [lits14, List.getElem?_cons_succ] at hu hy
      exact h3 j u y hu hy

theorem lits14_rs (l : List (List Int)) (w : World) (h : ∀ x, x ∈ l → ZI x ∧ x.length ≤ 1000) (hl : l.length ≤ 1000) : Rs ((lits14 w l).1.alloc (.cells (lits14 w l).2.toArray 26)) (.slice (some ⟨(lits14 w l).1.heap.size, 0, none⟩) l.length l.length) l ∧ Below w.heap.size w ((lits14 w l).1.alloc (.cells (lits14 w l).2.toArray 26)) := by
  obtain ⟨h1, h2, h3⟩ := lits14_ok l w h
  refine ⟨⟨_, l.length, rfl, Nat.le_refl _, by unfold maxLen; omega, fun _ => ⟨(lits14 w l).1.heap.size, 0, rfl, by simp, fun k x hk => ?_⟩⟩, below_step h1 (below_alloc _)⟩
  have hkl := (List.getElem?_eq_some_iff.1 hk).1
  refine ⟨by have := (h x (List.mem_of_getElem? hk)).2; omega, (lits14 w l).2[k]'(by omega), ?_, (h3 k _ x (List.getElem?_eq_getElem (by omega)) hk).kp (Kp.of_below (below_alloc _))⟩
  rw [Nat.zero_add, Nat.mul_one, cell_of_row _ _ _ _ _ _ (heap_alloc_new _ _)]
  simp [h2, hkl]

theorem zi_small {l : List (List Int)} (h : l.all (fun x => x.all (fun y => decide (-100 ≤ y) && decide (y ≤ 100)) && decide (x.length ≤ 1000)) = true) : ∀ x, x ∈ l → ZI x ∧ x.length ≤ 1000 := fun x hx => by
  have h1 := List.all_eq_true.1 h x hx
  rw [Bool.and_eq_true] at h1
  refine ⟨fun k y hk => ?_, of_decide_eq_true h1.2⟩
  have h2 := List.all_eq_true.1 h1.1 y (List.mem_of_getElem? hk)
  rw [Bool.and_eq_true] at h2
  have a := of_decide_eq_true h2.1
  have b := of_decide_eq_true h2.2
  omega

/-- What Parts answers is read as the parts. -/
theorem PO14.rs {w0 w : World} {G : List (List Int)} {v : Value} {vs : List Value} {Ps : List (List Nat)} (h : PO14 w0 w G v vs Ps) (hG : G.length ≤ 4096) : Rs w v ((partsG G).map natL) := by
  obtain ⟨h1, h2, h3, _, h5⟩ := h
  have e := h5.eq
  subst e
  have hr := rs_of_own (l := (partsG G).map natL) (by rw [List.length_map]; exact h1) h3 (fun t ht => by
    obtain ⟨P, hP, rfl⟩ := List.mem_map.1 ht
    rw [natL_len]
    obtain ⟨i, _, hk, hr⟩ := h5.part P hP
    have := nodup_few (n := G.length) (xs := P) (hr.imp fun h => by omega) (fun x hx => (wy_lt ((hk x).1 hx).1).2)
    omega)
  exact hr

set_option maxRecDepth 100000 in
set_option maxHeartbeats 3200000 in
theorem shown14_any (w : World) : Calls Try.prog 9 #[] w fun e w' => e = .returned (.bool true) ∧ Below w.heap.size w w' := by
  have L1 := fun w => lits14_rs [[1], [2], [0, 3], [3], [0]] w (zi_small (by decide)) (by decide)
  have L2 := fun w => lits14_rs [[3, -1, 9], [2], [1], [0]] w (zi_small (by decide)) (by decide)
  have L3 := fun w => lits14_rs [[1], [2], []] w (zi_small (by decide)) (by decide)
  have L4 := fun w => lits14_rs [[0]] w (zi_small (by decide)) (by decide)
  have L5 := fun w => lits14_rs [[0, 1, 2], [3]] w (zi_small (by decide)) (by decide)
  have L6 := fun w => lits14_rs [[0, 3], [1, 2]] w (zi_small (by decide)) (by decide)
  simp only [lits14, I64, List.map_cons, List.map_nil, List.length_cons, List.length_nil, World.size_alloc, Nat.zero_add, Nat.reduceAdd] at L1 L2 L3 L4 L5 L6
  have H1 := hid L1
  have H2 := hid L2
  have H3 := hid L3
  have H4 := hid L4
  have H5 := hid L5
  have H6 := hid L6
  clear L1 L2 L3 L4 L5 L6
  go_enter Try.func9, Try.ntmps9
  go_wp2_with fail
  refine (parts_any14 (H1.out w).1 (by decide)).mono ?_
  rintro e w1 ⟨va, _, _, rfl, ha⟩
  have HA := hid (ha.rs (by decide))
  have B1 := hid (below_step (H1.out w).2 ha.2.2.2.1)
  clear ha
  rw [ex14_1] at HA
  go_wp2_with fail
  refine (parts_any14 (H2.out w1).1 (by decide)).mono ?_
  rintro e w2 ⟨vb, _, _, rfl, hb⟩
  have HB := hid (hb.rs (by decide))
  have C2 := hid (below_step (H2.out w1).2 hb.2.2.2.1)
  have B2 := hid (below_step B1.out C2.out)
  have HA2 := hid (HA.out.kp (Kp.of_below C2.out))
  clear hb HA C2 B1
  rw [ex14_2] at HB
  go_wp2_with fail
  refine (parts_any14 (H3.out w2).1 (by decide)).mono ?_
  rintro e w3 ⟨vc, _, _, rfl, hc⟩
  have HC := hid (hc.rs (by decide))
  have C3 := hid (below_step (H3.out w2).2 hc.2.2.2.1)
  have B3 := hid (below_step B2.out C3.out)
  have HA3 := hid (HA2.out.kp (Kp.of_below C3.out))
  have HB3 := hid (HB.out.kp (Kp.of_below C3.out))
  clear hc HA2 HB C3 B2
  rw [ex14_3] at HC
  obtain ⟨co, cc, hvc, _⟩ := Row.flat HC.out
  have hvc2 : vc = .slice co 0 cc := hvc
  clear hvc
  subst hvc2
  go_wp2_with fail
  refine (parts_any14 (H4.out w3).1 (by decide)).mono ?_
  rintro e w4 ⟨vd, _, _, rfl, hd⟩
  have HD := hid (hd.rs (by decide))
  have C4 := hid (below_step (H4.out w3).2 hd.2.2.2.1)
  have B4 := hid (below_step B3.out C4.out)
  have HA4 := hid (HA3.out.kp (Kp.of_below C4.out))
  have HB4 := hid (HB3.out.kp (Kp.of_below C4.out))
  clear hd HA3 HB3 C4 B3 HC
  rw [ex14_4] at HD
  go_wp2_with fail
  refine (same14_any _ _ _ _ _ (HA4.out.kp (Kp.of_below (H5.out w4).2)) (H5.out w4).1).mono ?_
  rintro e w5 ⟨rfl, hb5⟩
  have C5 := hid (below_step (H5.out w4).2 hb5)
  have B5 := hid (below_step B4.out C5.out)
  have HB5 := hid (HB4.out.kp (Kp.of_below C5.out))
  have HD5 := hid (HD.out.kp (Kp.of_below C5.out))
  rw [show decide (List.map natL [[0, 1, 2], [3]] = [[0, 1, 2], [3]]) = true by decide]
  clear hb5 HA4 HB4 HD C5 B4
  go_wp2_with fail
  refine (same14_any _ _ _ _ _ (HB5.out.kp (Kp.of_below (H6.out w5).2)) (H6.out w5).1).mono ?_
  rintro e w6 ⟨rfl, hb6⟩
  have C6 := hid (below_step (H6.out w5).2 hb6)
  have B6 := hid (below_step B5.out C6.out)
  have HD6 := hid (HD5.out.kp (Kp.of_below C6.out))
  rw [show decide (List.map natL [[0, 3], [1, 2]] = [[0, 3], [1, 2]]) = true by decide]
  clear hb6 HB5 HD5 C6 B5
  go_wp2_with fail
  refine (same14_any _ _ _ _ _ (HD6.out.kp (Kp.of_below (H4.out w6).2)) (H4.out w6).1).mono ?_
  rintro e w7 ⟨rfl, hb7⟩
  have B7 := hid (below_step B6.out (below_step (H4.out w6).2 hb7))
  rw [show decide (List.map natL [[0]] = [[0]]) = true by decide]
  clear hb7 HD6 B6
  go_wp2
  go_ret
  exact ⟨rfl, B7.out⟩

end Go.Proofs.Ytmokokhhheonoaa

/- A list of rows of one's own that grow one by one. -/
namespace Go.Proofs.Ytmokokhhheonoaa
open Go.RowKit Go.Maps Go.BigFrame

theorem zip_set14 {α β : Type} (xs : List α) (ys : List β) (k : Nat) (x : α) (y : β) : (xs.zip ys).set k (x, y) = (xs.set k x).zip (ys.set k y) := by
  induction xs generalizing ys k with
  | nil => simp
  | cons a xs ih =>
    cases ys with
    | nil => cases k <;> simp
    | cons b ys =>
      cases k with
      | zero => rfl
      | succ k => simp [ih]

/-- The rows' headers stand in one block; each row lies in a block of its own. -/
structure Bk14 (w0 w : World) (g n : Nat) (vals : List Value) (rws : List (List Int)) : Prop where
  bel : Below w0.heap.size w0 w
  base : w0.heap.size ≤ g
  blk : w.heap[g]? = some (.cells vals.toArray 26 (0, 0))
  len : vals.length = n
  rlen : rws.length = n
  own : Owns w w0.heap.size (vals.zip rws)

theorem Bk14.later {w0 w w' : World} {g n : Nat} {vals : List Value} {rws : List (List Int)} (h : Bk14 w0 w g n vals rws) (hb : Below w.heap.size w w') : Bk14 w0 w' g n vals rws :=
  ⟨below_step h.bel hb, h.base, (hb.block g (Array.getElem?_eq_some_iff.1 h.blk).1).trans h.blk, h.len, h.rlen, h.own.later hb⟩

theorem Bk14.one {w0 w : World} {g n x : Nat} {vals : List Value} {rws : List (List Int)} (h : Bk14 w0 w g n vals rws) (hx : x < n) : ∃ v r, vals[x]? = some v ∧ rws[x]? = some r ∧ OwI w w0.heap.size v r ∧ w.cell? ⟨g, x, none⟩ = some v ∧ w.frozen? ⟨g, x, none⟩ = false := by
  have h1 : x < vals.length := by rw [h.len]; exact hx
  have h2 : x < rws.length := by rw [h.rlen]; exact hx
  refine ⟨vals[x], rws[x], List.getElem?_eq_getElem h1, List.getElem?_eq_getElem h2, h.own.own x _ _ (List.getElem?_zip_eq_some.2 ⟨List.getElem?_eq_getElem h1, List.getElem?_eq_getElem h2⟩), ?_, frozen_of_row w g x _ _ h.blk⟩
  rw [cell_of_row w g x _ _ _ h.blk]
  simp [h1]

theorem Bk14.rs {w0 w : World} {g n : Nat} {vals : List Value} {rws : List (List Int)} (h : Bk14 w0 w g n vals rws) (hn : n ≤ 1048576) (hl : ∀ r, r ∈ rws → r.length * 8 ≤ 140737488351232) : Rs w (.slice (some ⟨g, 0, none⟩) n n) rws := by
  refine ⟨some ⟨g, 0, none⟩, n, by rw [h.rlen], by rw [h.rlen]; exact Nat.le_refl _, by unfold maxLen; omega, fun _ => ⟨g, 0, rfl, (Array.getElem?_eq_some_iff.1 h.blk).1, fun k r hk => ?_⟩⟩
  have hk2 := (List.getElem?_eq_some_iff.1 hk).1
  rw [h.rlen] at hk2
  obtain ⟨v, r', h1, h2, h3, h4, _⟩ := h.one hk2
  rw [hk] at h2
  cases h2
  exact ⟨hl r (List.mem_of_getElem? hk), v, by rw [Nat.zero_add, Nat.mul_one]; exact h4, h3.is⟩

/-- New rows, all empty. -/
theorem Bk14.new (w : World) (n : Nat) : Bk14 w (w.alloc (.cells (List.replicate n (Value.slice none 0 0)).toArray 26)) w.heap.size n (List.replicate n (.slice none 0 0)) (List.replicate n []) := by
  refine ⟨below_alloc _, Nat.le_refl _, heap_alloc_new _ _, by simp, by simp, ⟨fun i v xs hi => ?_, fun i j v u xs ys _ hi _ => ?_⟩⟩
  · have := List.getElem?_zip_eq_some.1 hi
    have e1 := (List.mem_replicate.1 (List.mem_of_getElem? this.1)).2
    have e2 := (List.mem_replicate.1 (List.mem_of_getElem? this.2)).2
    simp only at e1 e2
    subst e1 e2
    exact ow_nil14 _ _
  · have := List.getElem?_zip_eq_some.1 hi
    have e1 := (List.mem_replicate.1 (List.mem_of_getElem? this.1)).2
    simp only at e1
    subst e1
    exact dis_nil14 _

theorem run_makeR14 (w : World) (n : Nat) (hn : n * 24 ≤ 140737488355328) : (Instr.makeSlice 22 (.int .i64 (n : Int)) (.int .i64 (n : Int))).run Try.prog w = .ok (.slice (some ⟨w.heap.size, 0, none⟩) n n) (w.alloc (.cells (List.replicate n (Value.slice none 0 0)).toArray 26)) := by
  obtain ⟨i0, hi, hz0, hz1, hz2⟩ := info_parts info_ints
  have h := run_make (P := Try.prog) w 22 26 i0 (.slice none 0 0) under_rows hi hz0 .i64 .i64 (n : Int) (n : Int) (by omega) (Int.le_refl _) (by rw [hz2]; omega) (by omega)
  rw [hz1, Int.toNat_natCast] at h
  have e : madeCells (Value.slice none 0 0).cells (n * 1) = (List.replicate n (Value.slice none 0 0)).toArray := by
    apply Array.ext'
    rw [made_nilS]
  rw [e] at h
  exact h

end Go.Proofs.Ytmokokhhheonoaa

/- home of layer 14's law file: which part a node is in. -/
namespace Go.Proofs.Ytmokokhhheonoaa
open Go.RowKit Go.Maps Go.BigFrame

/-- The first row that holds a number; -1: none. -/
def homeI : List (List Int) → Int → Int
  | [], _ => -1
  | r :: l, x => if x ∈ r then 0 else if homeI l x < 0 then -1 else homeI l x + 1

theorem homeI_at : ∀ (l : List (List Int)) (x : Int), (∃ k : Nat, homeI l x = (k : Int) ∧ (∃ r, l[k]? = some r ∧ x ∈ r) ∧ ∀ (j : Nat) r, j < k → l[j]? = some r → x ∉ r) ∨ (homeI l x = -1 ∧ ∀ r, r ∈ l → x ∉ r)
  | [], x => .inr ⟨rfl, fun r hr => by simp at hr⟩
  | r :: l, x => by
    unfold homeI
    by_cases h : x ∈ r
    · rw [if_pos h]
      exact .inl ⟨0, rfl, ⟨r, rfl, h⟩, fun j q hj => by omega⟩
    · rw [if_neg h]
      rcases homeI_at l x with ⟨k, h1, ⟨q, h2, h3⟩, h4⟩ | ⟨h1, h2⟩
      · rw [h1, if_neg (by omega)]
        refine .inl ⟨k + 1, by omega, ⟨q, by simpa using h2, h3⟩, fun j q' hj hq' => ?_⟩
        cases j with
        | zero => simp at hq'; subst hq'; exact h
        | succ j => exact h4 j q' (by omega) (by simpa using hq')
      · rw [h1, if_pos (by omega)]
        refine .inr ⟨rfl, fun q hq => ?_⟩
        rcases List.mem_cons.1 hq with rfl | hq
        · exact h
        · exact h2 q hq

theorem homeI_first {l : List (List Int)} {x : Int} {k : Nat} {r : List Int} (h : l[k]? = some r) (hx : x ∈ r) (hn : ∀ (j : Nat) q, j < k → l[j]? = some q → x ∉ q) : homeI l x = (k : Int) := by
  rcases homeI_at l x with ⟨m, h1, ⟨q, h2, h3⟩, h4⟩ | ⟨_, h2⟩
  · have : m = k := by
      rcases Nat.lt_trichotomy m k with hlt | e | hlt
      · exact absurd h3 (hn m q hlt h2)
      · exact e
      · exact absurd hx (h4 k r hlt h)
    rw [h1, this]
  · exact absurd hx (h2 r (List.mem_of_getElem? h))

theorem homeI_none {l : List (List Int)} {x : Int} (h : ∀ r, r ∈ l → x ∉ r) : homeI l x = -1 := by
  rcases homeI_at l x with ⟨m, _, ⟨q, h2, h3⟩, _⟩ | ⟨h1, _⟩
  · exact absurd h3 (h q (List.mem_of_getElem? h2))
  · exact h1

set_option maxRecDepth 100000 in
set_option maxHeartbeats 1600000 in
theorem home14_any (v : Value) (l : List (List Int)) (x : Int) (w : World) (h : Rs w v l) :
    Calls Try.prog 14 #[v, .int .i64 x] w fun e w' => e = .returned (.int .i64 (homeI l x)) ∧ w' = w := by
  obtain ⟨ao, cap, rfl, hao, hca, _⟩ := Row.flat h
  unfold maxLen at hca
  have HL := hid h
  clear h
  go_enter Try.func14, Try.ntmps14
  go_wp2
  go_loopw [5, 6] (fun i _ wr => ∃ k : Nat, k ≤ l.length ∧ i = .int .i64 k ∧ (∀ (j : Nat) q, j < k → l[j]? = some q → x ∉ q) ∧ wr = w) (fun i _ _ => l.length - (intOf i).toNat)
  case atStart => exact ⟨0, Nat.zero_le _, rfl, fun j q hj => by omega, rfl⟩
  case round =>
    obtain ⟨k, hk, rfl, hn, hw⟩ := hrel
    have HN := hid hn
    have hw' := hw
    subst hw'
    clear hn hw
    by_cases hlt : k < l.length
    · obtain ⟨g, off, xa, r, xc, rfl, hr, hx2, hx3, hx4⟩ := HL.out.at hlt
      have HR := hid hr
      have hw1 : IntKind.i64.wrap ((k : Int) + 1) = ((k + 1 : Nat) : Int) := by rw [IntWalk.i64_in _ ⟨by omega, by omega⟩]; omega
      clear hr
      go_wp2
      go_loopw [6] (fun i wr2 => ∃ m : Nat, m ≤ r.length ∧ i = .int .i64 m ∧ x ∉ r.take m ∧ wr2 = wr) (fun i _ => r.length - (intOf i).toNat)
      case atStart => exact ⟨0, Nat.zero_le _, rfl, by simp, rfl⟩
      case round =>
        obtain ⟨m, hm, rfl, ht, hw⟩ := hrel
        subst hw
        have HT := hid ht
        clear ht
        by_cases hml : m < r.length
        · obtain ⟨gx, ox, p, rfl, hp1, hp2, hp3, hp4⟩ := hx3.at hml
          have HP := hid hp1
          have hw2 : IntKind.i64.wrap ((m : Int) + 1) = ((m + 1 : Nat) : Int) := by rw [IntWalk.i64_in _ ⟨by omega, by omega⟩]; omega
          clear hp1
          by_cases hpx : p = x
          · have HE : Hid (homeI l x = (k : Int)) := homeI_first HR.out (by rw [← hpx]; exact List.mem_of_getElem? HP.out) HN.out
            have hd : (p == x) = true := by simpa using hpx
            clear hpx hx3
            go_wp2
            go_ret
            exact ⟨by rw [HE.out]; rfl, rfl⟩
          · have hd : (p == x) = false := by simpa using hpx
            have HE : Hid (x ∉ r.take (m + 1)) := by
              show _
              rw [take_get HP.out, List.mem_append]
              rintro (h | h)
              · exact HT.out h
              · simp at h; exact hpx h.symm
            clear hpx hx3
            go_wp2
            go_roundw
            case rel => exact ⟨m + 1, hml, by go_num, HE.out, trivial⟩
            case measure => simp only [intOf]; omega
        · have HE : Hid (∀ (j : Nat) q, j < k + 1 → l[j]? = some q → x ∉ q) := fun j q hj hq => by
            by_cases e : j = k
            · subst e
              rw [HR.out] at hq
              cases hq
              have h9 := HT.out
              rw [List.take_of_length_le (by omega)] at h9
              exact h9
            · exact HN.out j q (by omega) hq
          obtain rfl : m = r.length := by omega
          clear hx3
          go_wp2
          go_roundw
          case rel => exact ⟨k + 1, hlt, by go_num, HE.out, trivial⟩
          case measure => simp only [intOf]; omega
    · have HE : Hid (homeI l x = -1) := homeI_none fun r hr => by
        obtain ⟨j, hj⟩ := List.getElem?_of_mem hr
        exact HN.out j r (by have := (List.getElem?_eq_some_iff.1 hj).1; omega) hj
      obtain rfl : k = l.length := by omega
      go_wp2
      go_ret
      exact ⟨by rw [HE.out]; rfl, rfl⟩

/-- Two nodes with one home: they go round with one another. -/
theorem home_class {G : List (List Int)} (i k : Nat) : (0 ≤ homeI ((partsG G).map natL) (i : Int) ∧ homeI ((partsG G).map natL) (k : Int) = homeI ((partsG G).map natL) (i : Int)) ↔ (Wy (Ed G) i k ∧ Wy (Ed G) k i) := by
  have hp := partsB_is G
  have row : ∀ {j : Nat} {r : List Int}, ((partsG G).map natL)[j]? = some r → ∃ P, (partsG G)[j]? = some P ∧ r = natL P := fun {j r} h => by
    rw [List.getElem?_map] at h
    cases hP : (partsG G)[j]? with
    | none => rw [hP] at h; simp at h
    | some P => rw [hP] at h; simp at h; exact ⟨P, rfl, h.symm⟩
  have inl : ∀ (P : List Nat) (x : Nat), (x : Int) ∈ natL P ↔ x ∈ P := fun P x => by
    unfold natL
    rw [List.mem_map]
    constructor
    · rintro ⟨y, hy, e⟩
      obtain rfl : y = x := by omega
      exact hy
    · exact fun h => ⟨x, h, rfl⟩
  constructor
  · rintro ⟨h1, h2⟩
    rcases homeI_at ((partsG G).map natL) (i : Int) with ⟨m, e1, ⟨r, e2, e3⟩, _⟩ | ⟨e1, _⟩
    · rcases homeI_at ((partsG G).map natL) (k : Int) with ⟨m', f1, ⟨r', f2, f3⟩, _⟩ | ⟨f1, _⟩
      · obtain rfl : m = m' := by omega
        rw [e2] at f2
        cases f2
        obtain ⟨P, hP, rfl⟩ := row e2
        obtain ⟨a, ha, hm, _⟩ := hp.part P (List.mem_of_getElem? hP)
        have hi := (hm i).1 ((inl P i).1 e3)
        have hk := (hm k).1 ((inl P k).1 f3)
        exact ⟨hi.2.trans hk.1, hk.2.trans hi.1⟩
      · omega
    · omega
  · rintro ⟨h1, h2⟩
    obtain ⟨P, hP, hiP⟩ := hp.all i (h1.trans h2)
    obtain ⟨a, ha, hm, _⟩ := hp.part P hP
    have hi := (hm i).1 hiP
    have hkP := (hm k).2 ⟨hi.1.trans h1, h2.trans hi.2⟩
    obtain ⟨j, hj⟩ := List.getElem?_of_mem hP
    have hjl := (List.getElem?_eq_some_iff.1 hj).1
    have hj2 : ((partsG G).map natL)[j]? = some (natL P) := by rw [List.getElem?_map]; unfold partsG; rw [hj]; rfl
    have apart : ∀ x, x ∈ P → ∀ (m : Nat) q, m < j → ((partsG G).map natL)[m]? = some q → (x : Int) ∉ q := fun x hx m q hmj hq hxq => by
      obtain ⟨Q, hQ, rfl⟩ := row hq
      have hQ2 : (partsB G G.length)[m]? = some Q := hQ
      have hml := (List.getElem?_eq_some_iff.1 hQ2).1
      obtain ⟨b, hb, hn, hrQ⟩ := hp.part Q (List.mem_of_getElem? hQ2)
      have hxQ := (hn x).1 ((inl Q x).1 hxq)
      have hxP := (hm x).1 hx
      obtain ⟨_, _, _, hrP⟩ := hp.part P hP
      have e : Q = P := rise_ext hrQ hrP fun z => by rw [hn, hm]; exact part_same hxQ.1 hxQ.2 hxP.1 hxP.2 z
      have hri := List.pairwise_iff_getElem.1 hp.rise m j hml hjl hmj
      have e1 : (partsB G G.length)[m] = Q := by rw [List.getElem?_eq_getElem hml] at hQ2; exact Option.some.inj hQ2
      have e2 : (partsB G G.length)[j] = P := by rw [List.getElem?_eq_getElem hjl] at hj; exact Option.some.inj hj
      rw [e1, e2, e] at hri
      have hne := hp.ne hP
      cases P with
      | nil => exact hne rfl
      | cons p ps => exact absurd (hri p p rfl rfl) (by omega)
    have e1 := homeI_first hj2 ((inl P i).2 hiP) (apart i hiP)
    have e2 := homeI_first hj2 ((inl P k).2 hkP) (apart k hkP)
    rw [e1, e2]
    exact ⟨by omega, rfl⟩

/-- The same, with what is told of the world ahead of the store. -/
theorem Bk14.pushB (ty : TypeId) {w0 w : World} {g n x : Nat} {vals : List Value} {rws : List (List Int)} {v : Value} {r : List Int} {c : Int} (h : Bk14 w0 w g n vals rws) (_hx : x < n) (hv : vals[x]? = some v) (hr : rws[x]? = some r) (h1 : -9223372036854775808 ≤ c) (h2 : c ≤ 9223372036854775807) (hl : (r.length + 1) * 8 ≤ 140737488355328) :
    ∃ v' w', (Builtin.append_ #[26, 26] ty #[v, .slice (some ⟨w.heap.size, 0, none⟩) 1 1]).run Try.prog (w.alloc (.cells #[.int .i64 c] 3)) = .ok v' w' ∧ (∃ a m d, v' = .slice a m d) ∧ w'.cell? ⟨g, x, none⟩ = some v ∧ w'.frozen? ⟨g, x, none⟩ = false ∧ Below w0.heap.size w0 w' ∧ Bk14 w0 (w'.setCell ⟨g, x, none⟩ v') g n (vals.set x v') (rws.set x (r ++ [c])) := by
  have ho := h.own.own x v r (List.getElem?_zip_eq_some.2 ⟨hv, hr⟩)
  have h' := h.later (below_alloc (.cells #[.int .i64 c] 3))
  obtain ⟨v', w', hrun, g1, g2, g3⟩ := join_one ty ho h1 h2 h.bel.size hl
  have hs := h'.own.step (i := x) (List.getElem?_zip_eq_some.2 ⟨hv, hr⟩) g2 g1 (by
    rcases g3 with g3 | g3
    · exact .inl g3
    · exact .inr ⟨_, g3, Nat.le_refl _⟩)
  rw [zip_set14] at hs
  have ho' := h'.own.own x v r (List.getElem?_zip_eq_some.2 ⟨hv, hr⟩)
  have hblk : w'.heap[g]? = some (.cells vals.toArray 26 (0, 0)) := (g2.block g (Array.getElem?_eq_some_iff.1 h'.blk).1 (fun e => own_ne ho'.2 h'.blk (by decide) e.symm)).trans h'.blk
  have hbel : Below w0.heap.size w0 w' := h'.bel.grown g2 h'.bel.size (fun k hk => own_blk ho'.2 hk)
  obtain ⟨ao, cap, hv', _⟩ := g1.shape
  refine ⟨v', w', hrun, ⟨_, _, _, hv'⟩, ?_, frozen_of_row w' g x _ _ hblk, hbel, hbel.setCell (p := ⟨g, x, none⟩) h.base v', h.base, ?_, by rw [List.length_set, h.len], by rw [List.length_set, h.rlen], hs.kept (set_grown w' g x v') hblk (by decide)⟩
  · rw [cell_of_row w' g x _ _ _ hblk]
    simpa using hv
  · rw [heap_setCell_same w' g x _ _ _ hblk]
    simp

end Go.Proofs.Ytmokokhhheonoaa

/- GraphTurned: with all edges turned round the parts are the same. -/
namespace Go.Proofs.Ytmokokhhheonoaa
open Go.RowKit Go.Maps Go.BigFrame

def cnt14 (G : List (List Int)) (i k : Nat) : Nat := ((G.take i).map List.length).sum + k

theorem sum_le14 (G : List (List Int)) : ∀ i, ((G.take i).map List.length).sum ≤ (G.map List.length).sum := fun i => by
  have : (G.map List.length).sum = ((G.take i).map List.length).sum + ((G.drop i).map List.length).sum := by
    rw [← List.sum_append, ← List.map_append, List.take_append_drop]
  omega

theorem cnt_le14 {G : List (List Int)} {i k : Nat} {es : List Int} (h : G[i]? = some es) (hk : k ≤ es.length) : cnt14 G i k ≤ (G.map List.length).sum := by
  have := sum_le14 G (i + 1)
  rw [take_get h, List.map_append, List.sum_append] at this
  simp only [List.map_cons, List.map_nil, List.sum_cons, List.sum_nil] at this
  unfold cnt14
  omega

end Go.Proofs.Ytmokokhhheonoaa

/- GraphCounts: edges alone that stay within a part count. -/
namespace Go.Proofs.Ytmokokhhheonoaa
open Go.RowKit Go.Maps Go.BigFrame

/-- The edges that stay within a part, as far as the place k of the row i. -/
def Ls14 (G : List (List Int)) (H : Int → Int) (i k : Nat) (rws : List (List Int)) : Prop :=
  ∀ (a : Nat) (r : List Int), rws[a]? = some r → r.length ≤ cnt14 G i k ∧ ∀ y : Int, y ∈ r ↔ ∃ (c : Nat) (es : List Int), (a < i ∨ (a = i ∧ c < k)) ∧ G[a]? = some es ∧ es[c]? = some y ∧ 0 ≤ H (a : Int) ∧ H y = H (a : Int)

theorem Ls14.start (G : List (List Int)) (H : Int → Int) (n : Nat) : Ls14 G H 0 0 (List.replicate n []) := fun x r hr => by
  have := (List.mem_replicate.1 (List.mem_of_getElem? hr)).2
  subst this
  refine ⟨Nat.zero_le _, fun y => ⟨fun h => by simp at h, ?_⟩⟩
  rintro ⟨c, es, h, _⟩
  omega

theorem Ls14.row {G : List (List Int)} {H : Int → Int} {i k : Nat} {es : List Int} {rws : List (List Int)} (h : Ls14 G H i k rws) (hes : G[i]? = some es) (hk : k ≤ es.length) (he : k = es.length ∨ ¬ 0 ≤ H (i : Int)) : Ls14 G H (i + 1) 0 rws := fun x r hr => by
  obtain ⟨h1, h2⟩ := h x r hr
  refine ⟨?_, fun y => ?_⟩
  · unfold cnt14 at h1 ⊢
    rw [take_get hes, List.map_append, List.sum_append]
    simp only [List.map_cons, List.map_nil, List.sum_cons, List.sum_nil]
    omega
  · rw [h2]
    constructor
    · rintro ⟨c, fs, h3, h4⟩
      exact ⟨c, fs, .inl (by omega), h4⟩
    · rintro ⟨c, fs, h3, h4, h5, h6, h7⟩
      refine ⟨c, fs, ?_, h4, h5, h6, h7⟩
      by_cases e : x = i
      · subst e
        rw [hes] at h4
        cases h4
        rcases he with he | he
        · exact .inr ⟨rfl, by rw [he]; exact (List.getElem?_eq_some_iff.1 h5).1⟩
        · exact absurd h6 he
      · exact .inl (by omega)

theorem Ls14.skip {G : List (List Int)} {H : Int → Int} {i k : Nat} {es : List Int} {t : Int} {rws : List (List Int)} (h : Ls14 G H i k rws) (hes : G[i]? = some es) (ht : es[k]? = some t) (hx : H t ≠ H (i : Int)) : Ls14 G H i (k + 1) rws := fun x r hr => by
  obtain ⟨h1, h2⟩ := h x r hr
  refine ⟨by unfold cnt14 at *; omega, fun y => ?_⟩
  rw [h2]
  constructor
  · rintro ⟨c, fs, h3, h4⟩
    exact ⟨c, fs, by omega, h4⟩
  · rintro ⟨c, fs, h3, h4, h5, h6, h7⟩
    refine ⟨c, fs, ?_, h4, h5, h6, h7⟩
    by_cases e : x = i ∧ c = k
    · obtain ⟨rfl, rfl⟩ := e
      rw [hes] at h4
      cases h4
      rw [ht] at h5
      cases h5
      exact absurd h7 hx
    · omega

theorem Ls14.put {G : List (List Int)} {H : Int → Int} {i k : Nat} {t : Int} {es r : List Int} {rws : List (List Int)} (h : Ls14 G H i k rws) (hes : G[i]? = some es) (ht : es[k]? = some t) (hr : rws[i]? = some r) (h0 : 0 ≤ H (i : Int)) (hx : H t = H (i : Int)) : Ls14 G H i (k + 1) (rws.set i (r ++ [t])) := fun z q hq => by
  by_cases e : i = z
  · subst e
    rw [List.getElem?_set_self (List.getElem?_eq_some_iff.1 hr).1] at hq
    cases hq
    obtain ⟨h1, h2⟩ := h i r hr
    refine ⟨by unfold cnt14 at *; rw [List.length_append, List.length_singleton]; omega, fun y => ?_⟩
    rw [List.mem_append, h2]
    constructor
    · rintro (⟨c, fs, h3, h4⟩ | hy)
      · exact ⟨c, fs, by omega, h4⟩
      · obtain rfl : y = t := by simpa using hy
        exact ⟨k, es, by omega, hes, ht, h0, hx⟩
    · rintro ⟨c, fs, h3, h4, h5, h6⟩
      by_cases e : c = k
      · subst e
        rw [hes] at h4
        cases h4
        rw [ht] at h5
        cases h5
        exact .inr (by simp)
      · exact .inl ⟨c, fs, by omega, h4, h5, h6⟩
  · rw [List.getElem?_set_ne e] at hq
    obtain ⟨h1, h2⟩ := h z q hq
    refine ⟨by unfold cnt14 at *; omega, fun y => ?_⟩
    rw [h2]
    constructor
    · rintro ⟨c, fs, h3, h4⟩
      exact ⟨c, fs, by omega, h4⟩
    · rintro ⟨c, fs, h3, h4⟩
      exact ⟨c, fs, by omega, h4⟩

theorem counts14 {G rws : List (List Int)} (h : Ls14 G (homeI ((partsG G).map natL)) G.length 0 rws) (hl : rws.length = G.length) : partsG rws = partsG G := by
  have e : ∀ i k, Ed rws i k ↔ Ed G i k ∧ Wy (Ed G) k i := fun i k => by
    constructor
    · rintro ⟨r, h1, h2, h3⟩
      obtain ⟨c, es, _, h5, h6, h7, h8⟩ := ((h i r h1).2 k).1 h2
      exact ⟨⟨es, h5, List.mem_of_getElem? h6, by rw [← hl]; exact h3⟩, ((home_class i k).1 ⟨h7, h8⟩).2⟩
    · rintro ⟨⟨es, h1, h2, h3⟩, h4⟩
      obtain ⟨c, hc⟩ := List.getElem?_of_mem h2
      have hi : i < rws.length := by rw [hl]; exact (List.getElem?_eq_some_iff.1 h1).1
      have hh := (home_class i k).2 ⟨.one ⟨es, h1, h2, h3⟩, h4⟩
      exact ⟨rws[i], List.getElem?_eq_getElem hi, ((h i _ (List.getElem?_eq_getElem hi)).2 k).2 ⟨c, es, .inl (List.getElem?_eq_some_iff.1 h1).1, h1, hc, hh.1, hh.2⟩, by rw [hl]; exact h3⟩
  have up : ∀ {i k}, Wy (Ed G) i k → Wy (Ed G) k i → Wy (Ed rws) i k := fun {i k} hw => by
    induction hw with
    | one ed => exact fun hb => .one ((e _ _).2 ⟨ed, hb⟩)
    | more ed hw ih => exact fun hb => .more ((e _ _).2 ⟨ed, hw.trans hb⟩) (ih (hb.trans (.one ed)))
  refine ((partsB_is rws).congr (F := Ed G) fun i k => ⟨fun ⟨h1, h2⟩ => ⟨h1.mono fun a b hab => ((e a b).1 hab).1, h2.mono fun a b hab => ((e a b).1 hab).1⟩, fun ⟨h1, h2⟩ => ⟨up h1 h2, up h2 h1⟩⟩).eq

set_option maxRecDepth 100000 in
set_option maxHeartbeats 16000000 in
theorem graphCounts_any (v : Value) (G : List (List Int)) (w : World) (h : Rs w v G) (hsum : (G.map List.length).sum ≤ 1048576) :
    Calls Try.prog 7 #[v] w fun e w' => e = .returned (.bool true) ∧ Below w.heap.size w w' := by
  obtain ⟨ao, cap, rfl, hao, hca, _⟩ := Row.flat h
  unfold maxLen at hca
  have HG := hid h
  have HSum := hid hsum
  clear h hsum
  go_enter Try.func7, Try.ntmps7
  go_wp2_with fail
  refine (shown14_any w).mono ?_
  rintro e w1 ⟨rfl, hb1⟩
  have B1 := hid hb1
  clear hb1
  by_cases hbig : 200 < G.length
  · have hd : decide (200 < G.length) = true := by simpa using hbig
    go_wp2
    go_ret
    exact ⟨rfl, B1.out⟩
  · have hd : decide (200 < G.length) = false := by simpa using hbig
    have HRs0 := hid (HG.out.kp (Kp.of_below B1.out))
    go_wp2_with fail
    refine (parts_any14 HRs0.out (by omega)).mono ?_
    rintro e w2 ⟨vl, _, _, rfl, hpl⟩
    have HL := hid (hpl.rs (by omega))
    have B2 := hid (below_step B1.out hpl.2.2.2.1)
    obtain ⟨lo, lc, hvl, _, _, _⟩ := Row.flat HL.out
    obtain ⟨ln, hln⟩ : ∃ ln, ln = ((partsG G).map natL).length := ⟨_, rfl⟩
    rw [← hln] at hvl
    subst hvl
    clear hpl HRs0 hln
    have hmk := run_makeR14 w2 G.length (by omega)
    have hnw := Bk14.new w2 G.length
    obtain ⟨W, hW⟩ : ∃ X, X = w2.alloc (.cells (List.replicate G.length (Value.slice none 0 0)).toArray 26) := ⟨_, rfl⟩
    rw [← hW] at hmk hnw
    have HN := hid hnw
    clear hnw hW
    generalize hg : w2.heap.size = g at hmk HN
    have HRs := hid (HG.out.kp (Kp.of_below B2.out))
    obtain ⟨H, hH⟩ : ∃ H, H = homeI ((partsG G).map natL) := ⟨_, rfl⟩
    have HHe := hid hH
    have HHo : Hid (∀ (x : Int) (W' : World), Below w2.heap.size w2 W' → Calls Try.prog 14 #[.slice lo ln lc, .int .i64 x] W' fun e w' => e = .returned (.int .i64 (H x)) ∧ w' = W') := fun x W' hb => by
      rw [hH]
      exact home14_any _ _ x W' (HL.out.kp (Kp.of_below hb))
    have HLL : Hid (Rs w2 (.slice lo ln lc) ((partsG G).map natL)) := HL.out
    clear hH HL
    go_wp2
    go_loopw [6, 7, 8] (fun i _ _ wr => ∃ (k : Nat) (vals : List Value) (rws : List (List Int)), k ≤ G.length ∧ i = .int .i64 k ∧ Bk14 w2 wr g G.length vals rws ∧ Ls14 G H k 0 rws) (fun i _ _ _ => G.length - (intOf i).toNat)
    case atStart => exact ⟨0, _, _, Nat.zero_le _, rfl, HN.out, Ls14.start G _ _⟩
    case round =>
      obtain ⟨i, vals, rws, hi, rfl, hbk, htn⟩ := hrel
      have HB := hid hbk
      have HT := hid htn
      clear hbk htn HN
      by_cases hlt : i < G.length
      · as_aux_lemma =>
          obtain ⟨g1, o1, xa, es, xc, rfl, hes, hx2, hx3, hx4⟩ := (HRs.out.kp (Kp.of_below HB.out.bel)).at hlt
          have HEs := hid hes
          have hwi : IntKind.i64.wrap ((i : Int) + 1) = ((i + 1 : Nat) : Int) := by rw [IntWalk.i64_in _ ⟨by omega, by omega⟩]; omega
          have HCi := hid (HHo.out (i : Int) wr HB.out.bel)
          clear hes hx2 hx3 hx4
          go_wp2_with fail
          refine HCi.out.mono ?_
          rintro e w9 ⟨rfl, hw9⟩
          have hw8 := hw9.symm
          subst hw8
          clear hw9 HCi
          obtain ⟨hm, hhm⟩ : ∃ hm, hm = H (i : Int) := ⟨_, rfl⟩
          rw [← hhm]
          have HHm := hid hhm
          clear hhm
          go_wp2
          go_loopw [8] (fun j wr => ∃ (k : Nat) (vals : List Value) (rws : List (List Int)), k ≤ es.length ∧ j = .int .i64 k ∧ Bk14 w2 wr g G.length vals rws ∧ Ls14 G H i k rws) (fun j _ => es.length - (intOf j).toNat)
          case atStart => exact ⟨0, _, _, Nat.zero_le _, rfl, HB.out, HT.out⟩
          case round =>
            obtain ⟨k, vals, rws, hk, rfl, hbk, htn⟩ := hrel
            have HB2 := hid hbk
            have HT2 := hid htn
            clear hbk htn HB HT
            obtain ⟨_, _, xa, es', xc, e1, hes, hx2w, hx3, hx4⟩ := HRs.out.at hlt
            have hx2 := (Kp.of_below HB2.out.bel).cell _ _ hx2w
            rw [HEs.out] at hes
            cases hes
            cases e1
            by_cases hkl : k < es.length ∧ 0 ≤ hm
            · as_aux_lemma =>
                obtain ⟨hkl, hm0⟩ := hkl
                obtain ⟨g2, o2, t, rfl, ht, ht2w, ht3, ht4⟩ := hx3.at hkl
                have ht2 := (Kp.of_below HB2.out.bel).cell _ _ ht2w
                have HWx := hid hx2w
                have HWt := hid ht2w
                have HTt := hid ht
                have hw1 : IntKind.i64.wrap ((k : Int) + 1) = ((k + 1 : Nat) : Int) := by rw [IntWalk.i64_in _ ⟨by omega, by omega⟩]; omega
                have hd0 : decide (0 ≤ hm) = true := by simpa using hm0
                have HCt := hid (HHo.out t wr HB2.out.bel)
                clear ht hx3
                go_wp2_with fail
                refine HCt.out.mono ?_
                rintro e w9 ⟨rfl, hw9⟩
                have hw8 := hw9.symm
                subst hw8
                clear hw9 HCt
                by_cases hin : H t = hm
                · as_aux_lemma =>
                    rw [hin]
                    have hq : (hm == hm) = true := by simp
                    obtain ⟨v9, r9, hv9, hr9, hbo, hc9, hf9⟩ := HB2.out.one hlt
                    have hrl := (HT2.out i r9 hr9).1
                    have hcl := cnt_le14 HEs.out (Nat.le_of_lt hkl)
                    have hsm := HSum.out
                    have HT3 := hid (HT2.out.put HEs.out HTt.out hr9 (by rw [← HHm.out]; exact hm0) (by rw [← HHm.out]; exact hin))
                    obtain ⟨bo, bc, hvv, _, _⟩ := hbo.shape
                    subst hvv
                    have HBo : Hid ((r9.length + 1) * 8 ≤ 140737488355328) := by show _ ≤ _; omega
                    have HHin := hid hin
                    have HHv := hid hv9
                    have HHr := hid hr9
                    have HHx := hid hx2
                    have HHt := hid ht2
                    have HHc := hid hc9
                    clear hrl hcl hsm hin hv9 hr9 hbo hx2 ht2 hc9 hx2w ht2w hf9 hx4
                    go_upto_region 16 with fail
                    have hx2 := HHx.out
                    have ht2 := HHt.out
                    have hc9 := HHc.out
                    have hv9 := HHv.out
                    have hr9 := HHr.out
                    have hx2w := HWx.out
                    have ht2w := HWt.out
                    have hS : wr.drew.cell? ⟨g1, o1 + i, none⟩ = some (.slice (some ⟨g2, o2, none⟩) es.length xc) ∧ wr.drew.cell? ⟨g2, o2 + k, none⟩ = some (.int .i64 t) := ⟨hx2, ht2⟩
                    have hbd := HB2.out.later (w' := wr.drew) (Below.refl _ _).drew
                    have hc9' : wr.drew.cell? ⟨g, i, none⟩ = some (.slice bo r9.length bc) := hc9
                    obtain ⟨x0, hx0⟩ : ∃ X, X = wr.drew := ⟨_, rfl⟩
                    rw [← hx0] at hbd hc9'
                    obtain ⟨v', w', hrun, ⟨a9, m9, c8, rfl⟩, hc8, hf8, hbw, hbk⟩ := hbd.pushB 26 (c := t) hlt hv9 hr9 ht3 ht4 HBo.out
                    obtain ⟨xa, hxa⟩ : ∃ X, X = x0.alloc (.cells #[.int .i64 t] 3) := ⟨_, rfl⟩
                    have hSa : xa.cell? ⟨g1, o1 + i, none⟩ = some (.slice (some ⟨g2, o2, none⟩) es.length xc) ∧ xa.cell? ⟨g2, o2 + k, none⟩ = some (.int .i64 t) := by
                      have kp := Kp.of_below (below_step hbd.bel (by rw [hxa]; exact below_alloc _ : Below x0.heap.size x0 xa))
                      exact ⟨kp.cell _ _ hx2w, kp.cell _ _ ht2w⟩
                    have hca : xa.cell? ⟨g, i, none⟩ = some (.slice bo r9.length bc) := by rw [hxa]; exact (Kp.of_below (below_alloc _)).cell _ _ hc9'
                    have hSw : w'.cell? ⟨g1, o1 + i, none⟩ = some (.slice (some ⟨g2, o2, none⟩) es.length xc) ∧ w'.cell? ⟨g2, o2 + k, none⟩ = some (.int .i64 t) := ⟨(Kp.of_below hbw).cell _ _ hx2w, (Kp.of_below hbw).cell _ _ ht2w⟩
                    obtain ⟨W3, hW3⟩ : ∃ X, X = w'.setCell ⟨g, i, none⟩ (.slice a9 m9 c8) := ⟨_, rfl⟩
                    rw [← hW3] at hbk
                    rw [← hxa] at hrun
                    have hS3 : W3.cell? ⟨g1, o1 + i, none⟩ = some (.slice (some ⟨g2, o2, none⟩) es.length xc) ∧ W3.cell? ⟨g2, o2 + k, none⟩ = some (.int .i64 t) := ⟨(Kp.of_below hbk.bel).cell _ _ hx2w, (Kp.of_below hbk.bel).cell _ _ ht2w⟩
                    have HB3 := hid hbk
                    clear hbk hv9 hr9 hbd hbw hc9 hx2 ht2 hx2w ht2w HHv HHr HHx HHt HHc HWx HWt
                    refine wp_region_held_drew (S := fun w' => w'.cell? ⟨g1, o1 + i, none⟩ = some (.slice (some ⟨g2, o2, none⟩) es.length xc) ∧ w'.cell? ⟨g2, o2 + k, none⟩ = some (.int .i64 t)) (by kernel_rfl) hS (fun _ => ?_)
                    rw [← hx0] at hS ⊢
                    clear hx0
                    refine wpAnyH_take (i := 0) (v := .slice (some ⟨g, 0, none⟩) G.length G.length) rfl (by kernel_rfl) (by kernel_rfl) (by kernel_rfl) (fun _ _ _ h => h) (Or.inl ⟨by kernel_rfl, fun w' h => by go_simp⟩) hS ?_
                    (try simp only [List.getElem_toArray]); (try simp only [List.getElem_cons_succ]); (try simp only [List.getElem_cons_zero]); (try simp only [Act.put]); (try simp only [List.setIfInBounds_toArray]); (try simp only [List.set_cons_zero, List.set_cons_succ])
                    refine wpAnyH_take (i := 1) (v := .int .i64 (i : Int)) rfl (by kernel_rfl) (by kernel_rfl) (by kernel_rfl) (fun _ _ _ h => h) (Or.inl ⟨by kernel_rfl, fun w' h => by go_simp⟩) hS ?_
                    (try simp only [List.getElem_toArray]); (try simp only [List.getElem_cons_succ]); (try simp only [List.getElem_cons_zero]); (try simp only [Act.put]); (try simp only [List.setIfInBounds_toArray]); (try simp only [List.set_cons_zero, List.set_cons_succ])
                    refine wpAnyH_take (i := 2) (v := .slice (some ⟨g, 0, none⟩) G.length G.length) rfl (by kernel_rfl) (by kernel_rfl) (by kernel_rfl) (fun _ _ _ h => h) (Or.inl ⟨by kernel_rfl, fun w' h => by go_simp⟩) hS ?_
                    (try simp only [List.getElem_toArray]); (try simp only [List.getElem_cons_succ]); (try simp only [List.getElem_cons_zero]); (try simp only [Act.put]); (try simp only [List.setIfInBounds_toArray]); (try simp only [List.set_cons_zero, List.set_cons_succ])
                    refine wpAnyH_take (i := 3) (v := .int .i64 (i : Int)) rfl (by kernel_rfl) (by kernel_rfl) (by kernel_rfl) (fun _ _ _ h => h) (Or.inl ⟨by kernel_rfl, fun w' h => by go_simp⟩) hS ?_
                    (try simp only [List.getElem_toArray]); (try simp only [List.getElem_cons_succ]); (try simp only [List.getElem_cons_zero]); (try simp only [Act.put]); (try simp only [List.setIfInBounds_toArray]); (try simp only [List.set_cons_zero, List.set_cons_succ])
                    refine wpAnyH_take (i := 4) (v := .pointer (some ⟨g, i, none⟩)) rfl (by kernel_rfl) (by kernel_rfl) (by kernel_rfl) (fun _ _ _ h => h) (Or.inl ⟨by kernel_rfl, fun w' h => by go_simp⟩) hS ?_
                    (try simp only [List.getElem_toArray]); (try simp only [List.getElem_cons_succ]); (try simp only [List.getElem_cons_zero]); (try simp only [Act.put]); (try simp only [List.setIfInBounds_toArray]); (try simp only [List.set_cons_zero, List.set_cons_succ])
                    refine wpAnyH_take (i := 6) (v := .slice (some ⟨g1, o1, none⟩) G.length cap) rfl (by kernel_rfl) (by kernel_rfl) (by kernel_rfl) (fun _ _ _ h => h) (Or.inl ⟨by kernel_rfl, fun w' h => by go_simp⟩) hS ?_
                    (try simp only [List.getElem_toArray]); (try simp only [List.getElem_cons_succ]); (try simp only [List.getElem_cons_zero]); (try simp only [Act.put]); (try simp only [List.setIfInBounds_toArray]); (try simp only [List.set_cons_zero, List.set_cons_succ])
                    refine wpAnyH_take (i := 7) (v := .int .i64 (i : Int)) rfl (by kernel_rfl) (by kernel_rfl) (by kernel_rfl) (fun _ _ _ h => h) (Or.inl ⟨by kernel_rfl, fun w' h => by go_simp⟩) hS ?_
                    (try simp only [List.getElem_toArray]); (try simp only [List.getElem_cons_succ]); (try simp only [List.getElem_cons_zero]); (try simp only [Act.put]); (try simp only [List.setIfInBounds_toArray]); (try simp only [List.set_cons_zero, List.set_cons_succ])
                    refine wpAnyH_take (i := 8) (v := .pointer (some ⟨g1, o1 + i, none⟩)) rfl (by kernel_rfl) (by kernel_rfl) (by kernel_rfl) (fun _ _ _ h => h) (Or.inl ⟨by kernel_rfl, fun w' h => by go_simp⟩) hS ?_
                    (try simp only [List.getElem_toArray]); (try simp only [List.getElem_cons_succ]); (try simp only [List.getElem_cons_zero]); (try simp only [Act.put]); (try simp only [List.setIfInBounds_toArray]); (try simp only [List.set_cons_zero, List.set_cons_succ])
                    refine wpAnyH_take (i := 9) (v := .slice (some ⟨g2, o2, none⟩) es.length xc) rfl (by kernel_rfl) (by kernel_rfl) (by kernel_rfl) (fun _ _ _ h => h) (Or.inl ⟨by kernel_rfl, fun w' h => by have hh0 := h.1; go_simp⟩) hS ?_
                    (try simp only [List.getElem_toArray]); (try simp only [List.getElem_cons_succ]); (try simp only [List.getElem_cons_zero]); (try simp only [Act.put]); (try simp only [List.setIfInBounds_toArray]); (try simp only [List.set_cons_zero, List.set_cons_succ])
                    refine wpAnyH_take (i := 10) (v := .int .i64 (k : Int)) rfl (by kernel_rfl) (by kernel_rfl) (by kernel_rfl) (fun _ _ _ h => h) (Or.inl ⟨by kernel_rfl, fun w' h => by go_simp⟩) hS ?_
                    (try simp only [List.getElem_toArray]); (try simp only [List.getElem_cons_succ]); (try simp only [List.getElem_cons_zero]); (try simp only [Act.put]); (try simp only [List.setIfInBounds_toArray]); (try simp only [List.set_cons_zero, List.set_cons_succ])
                    refine wpAnyH_take (i := 11) (v := .pointer (some ⟨g2, o2 + k, none⟩)) rfl (by kernel_rfl) (by kernel_rfl) (by kernel_rfl) (fun _ _ _ h => h) (Or.inl ⟨by kernel_rfl, fun w' h => by go_simp⟩) hS ?_
                    (try simp only [List.getElem_toArray]); (try simp only [List.getElem_cons_succ]); (try simp only [List.getElem_cons_zero]); (try simp only [Act.put]); (try simp only [List.setIfInBounds_toArray]); (try simp only [List.set_cons_zero, List.set_cons_succ])
                    refine wpAnyH_take (i := 12) (v := .int .i64 t) rfl (by kernel_rfl) (by kernel_rfl) (by kernel_rfl) (fun _ _ _ h => h) (Or.inl ⟨by kernel_rfl, fun w' h => by have hh0 := h.2; go_simp⟩) hS ?_
                    (try simp only [List.getElem_toArray]); (try simp only [List.getElem_cons_succ]); (try simp only [List.getElem_cons_zero]); (try simp only [Act.put]); (try simp only [List.setIfInBounds_toArray]); (try simp only [List.set_cons_zero, List.set_cons_succ])
                    refine wpAnyH_ready (rs := [5, 13]) (by kernel_rfl) (by simp) (AllReadyH.cons rfl (fun K hK => ?_) (AllReadyH.cons rfl (fun K hK => ?_) AllReadyH.nil))
                    · as_aux_lemma =>
                        go_simp
                        refine hK.out _ _ hS (fun _ => ?_)
                        clear hK K
                        (try simp only [List.getElem_toArray]); (try simp only [List.getElem_cons_succ]); (try simp only [List.getElem_cons_zero]); (try simp only [Act.put]); (try simp only [List.setIfInBounds_toArray]); (try simp only [List.set_cons_zero, List.set_cons_succ])
                        refine wpAnyH_ready (rs := [13]) (by kernel_rfl) (by simp) (AllReadyH.cons rfl (fun K hK => ?_) AllReadyH.nil)
                        go_simp
                        rw [← hxa]
                        clear hxa
                        refine hK.out _ _ hSa (fun _ => ?_)
                        clear hK K hS
                        have hS := hSa
                        (try simp only [List.getElem_toArray]); (try simp only [List.getElem_cons_succ]); (try simp only [List.getElem_cons_zero]); (try simp only [Act.put]); (try simp only [List.setIfInBounds_toArray]); (try simp only [List.set_cons_zero, List.set_cons_succ])
                        refine wpAnyH_ready (rs := [14]) (by kernel_rfl) (by simp) (AllReadyH.cons rfl (fun K hK => ?_) AllReadyH.nil)
                        refine step_append_run rfl _ _ 26 rfl _ _ rfl rfl hrun ?_
                        refine hK.out _ _ hSw (fun _ => ?_)
                        clear hK K hS
                        have hS := hSw
                        (try simp only [List.getElem_toArray]); (try simp only [List.getElem_cons_succ]); (try simp only [List.getElem_cons_zero]); (try simp only [Act.put]); (try simp only [List.setIfInBounds_toArray]); (try simp only [List.set_cons_zero, List.set_cons_succ])
                        refine wpAnyH_take (i := 15) (v := .pointer (some ⟨g, i, none⟩)) rfl (by kernel_rfl) (by kernel_rfl) (by kernel_rfl) (fun _ _ _ h => h) (Or.inl ⟨by kernel_rfl, fun w' h => by go_simp⟩) hS ?_
                        (try simp only [List.getElem_toArray]); (try simp only [List.getElem_cons_succ]); (try simp only [List.getElem_cons_zero]); (try simp only [Act.put]); (try simp only [List.setIfInBounds_toArray]); (try simp only [List.set_cons_zero, List.set_cons_succ])
                        refine wpAnyH_ready (rs := [16]) (by kernel_rfl) (by simp) (AllReadyH.cons rfl (fun K hK => ?_) AllReadyH.nil)
                        go_simp
                        rw [← hW3]
                        refine hK.out _ _ hS3 (fun _ => ?_)
                        clear hK K hS
                        have hS := hS3
                        (try simp only [List.getElem_toArray]); (try simp only [List.getElem_cons_succ]); (try simp only [List.getElem_cons_zero]); (try simp only [Act.put]); (try simp only [List.setIfInBounds_toArray]); (try simp only [List.set_cons_zero, List.set_cons_succ])
                        refine wpAnyH_done (by kernel_rfl) ?_ _
                        (try simp only [Act.put]); (try simp only [List.getElem_toArray]); (try simp only [List.getElem_cons_succ, List.getElem_cons_zero]); (try simp only [List.setIfInBounds_toArray]); (try simp only [List.set_cons_succ, List.set_cons_zero])
                        clear hrun hW3
                        go_wp2
                        go_roundw
                        case rel => exact ⟨k + 1, _, _, hkl, by go_num, HB3.out, HT3.out⟩
                        case measure => simp only [intOf]; omega
                    · as_aux_lemma =>
                        go_simp
                        rw [← hxa]
                        clear hxa
                        refine hK.out _ _ hSa (fun _ => ?_)
                        clear hK K hS
                        have hS := hSa
                        (try simp only [List.getElem_toArray]); (try simp only [List.getElem_cons_succ]); (try simp only [List.getElem_cons_zero]); (try simp only [Act.put]); (try simp only [List.setIfInBounds_toArray]); (try simp only [List.set_cons_zero, List.set_cons_succ])
                        refine wpAnyH_ready (rs := [5]) (by kernel_rfl) (by simp) (AllReadyH.cons rfl (fun K hK => ?_) AllReadyH.nil)
                        go_simp
                        refine hK.out _ _ hS (fun _ => ?_)
                        clear hK K
                        (try simp only [List.getElem_toArray]); (try simp only [List.getElem_cons_succ]); (try simp only [List.getElem_cons_zero]); (try simp only [Act.put]); (try simp only [List.setIfInBounds_toArray]); (try simp only [List.set_cons_zero, List.set_cons_succ])
                        refine wpAnyH_ready (rs := [14]) (by kernel_rfl) (by simp) (AllReadyH.cons rfl (fun K hK => ?_) AllReadyH.nil)
                        refine step_append_run rfl _ _ 26 rfl _ _ rfl rfl hrun ?_
                        refine hK.out _ _ hSw (fun _ => ?_)
                        clear hK K hS
                        have hS := hSw
                        (try simp only [List.getElem_toArray]); (try simp only [List.getElem_cons_succ]); (try simp only [List.getElem_cons_zero]); (try simp only [Act.put]); (try simp only [List.setIfInBounds_toArray]); (try simp only [List.set_cons_zero, List.set_cons_succ])
                        refine wpAnyH_take (i := 15) (v := .pointer (some ⟨g, i, none⟩)) rfl (by kernel_rfl) (by kernel_rfl) (by kernel_rfl) (fun _ _ _ h => h) (Or.inl ⟨by kernel_rfl, fun w' h => by go_simp⟩) hS ?_
                        (try simp only [List.getElem_toArray]); (try simp only [List.getElem_cons_succ]); (try simp only [List.getElem_cons_zero]); (try simp only [Act.put]); (try simp only [List.setIfInBounds_toArray]); (try simp only [List.set_cons_zero, List.set_cons_succ])
                        refine wpAnyH_ready (rs := [16]) (by kernel_rfl) (by simp) (AllReadyH.cons rfl (fun K hK => ?_) AllReadyH.nil)
                        go_simp
                        rw [← hW3]
                        refine hK.out _ _ hS3 (fun _ => ?_)
                        clear hK K hS
                        have hS := hS3
                        (try simp only [List.getElem_toArray]); (try simp only [List.getElem_cons_succ]); (try simp only [List.getElem_cons_zero]); (try simp only [Act.put]); (try simp only [List.setIfInBounds_toArray]); (try simp only [List.set_cons_zero, List.set_cons_succ])
                        refine wpAnyH_done (by kernel_rfl) ?_ _
                        (try simp only [Act.put]); (try simp only [List.getElem_toArray]); (try simp only [List.getElem_cons_succ, List.getElem_cons_zero]); (try simp only [List.setIfInBounds_toArray]); (try simp only [List.set_cons_succ, List.set_cons_zero])
                        clear hrun hW3
                        go_wp2
                        go_roundw
                        case rel => exact ⟨k + 1, _, _, hkl, by go_num, HB3.out, HT3.out⟩
                        case measure => simp only [intOf]; omega
                · as_aux_lemma =>
                    have HT3 := hid (HT2.out.skip HEs.out HTt.out (by rw [← HHm.out]; exact hin))
                    have hq : (H t == hm) = false := by simpa using hin
                    clear hin
                    go_wp2
                    go_roundw
                    case rel => exact ⟨k + 1, _, _, hkl, by go_num, HB2.out, HT3.out⟩
                    case measure => simp only [intOf]; omega
            · as_aux_lemma =>
                have HT3 := hid (HT2.out.row HEs.out hk (by rw [← HHm.out]; omega))
                by_cases hk9 : k < es.length
                · have hd0 : decide (0 ≤ hm) = false := by simp; omega
                  have hd1 : decide ((k : Int) < (es.length : Int)) = true := by simpa using hk9
                  clear hkl
                  go_wp2
                  go_roundw
                  case rel => exact ⟨i + 1, _, _, hlt, by go_num, HB2.out, HT3.out⟩
                  case measure => simp only [intOf]; omega
                · have hd1 : decide ((k : Int) < (es.length : Int)) = false := by simp; omega
                  clear hkl
                  go_wp2
                  go_roundw
                  case rel => exact ⟨i + 1, _, _, hlt, by go_num, HB2.out, HT3.out⟩
                  case measure => simp only [intOf]; omega
      · have hie : i = G.length := by omega
        have HT3 : Hid (Ls14 G H G.length 0 rws) := by have h9 := HT.out; rw [hie] at h9; exact h9
        clear hie
        have HRb := hid (HB.out.rs (by omega) (fun r hr => by
          obtain ⟨x, hx⟩ := List.getElem?_of_mem hr
          have h1 := (HT3.out x r hx).1
          have h2 := sum_le14 G G.length
          have h3 := HSum.out
          unfold cnt14 at h1
          omega))
        have HLr := hid HB.out.rlen
        have HEq : Hid (partsG rws = partsG G) := counts14 (by have h9 := HT3.out; rw [HHe.out] at h9; exact h9) HB.out.rlen
        have BW := hid (below_step B2.out HB.out.bel)
        have HLw := hid (HLL.out.kp (Kp.of_below HB.out.bel))
        go_wp2_with fail
        refine (parts_any14 HRb.out (by rw [HLr.out]; omega)).mono ?_
        rintro e w3 ⟨va, _, _, rfl, ha⟩
        have HA := hid (ha.rs (by rw [HLr.out]; omega))
        have C3 := hid ha.2.2.2.1
        clear ha
        go_wp2_with fail
        refine (same14_any _ _ _ _ _ HA.out (HLw.out.kp (Kp.of_below C3.out))).mono ?_
        rintro e w5 ⟨rfl, hb5⟩
        have B5 := hid (below_step BW.out (below_step C3.out hb5))
        rw [HEq.out, decide_eq_true rfl]
        clear hb5
        go_wp2
        go_ret
        exact ⟨rfl, B5.out⟩

end Go.Proofs.Ytmokokhhheonoaa
