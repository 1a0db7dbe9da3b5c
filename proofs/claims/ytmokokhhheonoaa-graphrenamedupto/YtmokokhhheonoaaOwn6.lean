/- Texts of the proof, one behind the other. -/
import Derived.Test.YtmokokhhheonoaaOwn2
import Derived.BigRegion
import Derived.Test.YtmokokhhheonoaaOwn5
/- same of layer 14's law file: two lists of rows. -/
namespace Go.Proofs.Ytmokokhhheonoaa
open Go.RowKit Go.Maps Go.BigFrame

set_option maxRecDepth 100000 in
set_option maxHeartbeats 1600000 in
theorem same14_any (v u : Value) (a b : List (List Int)) (w : World) (h : Rs w v a) (h' : Rs w u b) :
    Calls Try.prog 13 #[v, u] w fun e w' => e = .returned (.bool (decide (a = b))) ∧ Below w.heap.size w w' := by
  obtain ⟨ao, cap, rfl, hao, hca, _⟩ := Row.flat h
  obtain ⟨bo, cap', rfl, hbo, hcb, _⟩ := Row.flat h'
  unfold maxLen at hca hcb
  have HA := hid h
  have HB := hid h'
  clear h h'
  by_cases hl : a.length = b.length
  · have hle : ((a.length : Int) != b.length) = false := by simp; omega
    have hlb : a.length ≤ b.length := by omega
    have HL := hid hl
    clear hl
    go_enter Try.func13, Try.ntmps13
    go_wp2
    go_loopw [5, 6] (fun i _ wr => ∃ k : Nat, k ≤ a.length ∧ i = .int .i64 k ∧ a.take k = b.take k ∧ Below w.heap.size w wr) (fun i _ _ => a.length - (intOf i).toNat)
    case atStart => exact ⟨0, Nat.zero_le _, rfl, rfl, Below.refl _ _⟩
    case round =>
      obtain ⟨k, hk, rfl, ht, hbl⟩ := hrel
      have HT := hid ht
      have HBl := hid hbl
      clear ht
      by_cases hlt : k < a.length
      · obtain ⟨g, off, xa, x, xc, rfl, hx1, hx2, hx3, hx4⟩ := (HA.out.kp (Kp.of_below hbl)).at hlt
        obtain ⟨g', off', ya, y, yc, rfl, hy1, hy2, hy3, hy4⟩ := (HB.out.kp (Kp.of_below hbl)).at (k := k) (by omega)
        have HX := hid hx1
        have HY := hid hy1
        have HXi := hid hx3
        have HYi := hid hy3
        have hlt' : k < b.length := by omega
        clear hx1 hy1 hx3 hy3 hbl
        by_cases hxy : x.length = y.length
        · as_aux_lemma =>
            have hne : ((x.length : Int) != y.length) = false := by simp; omega
            have HXY := hid hxy
            clear hxy
            go_wp2
            go_region
            go_wp2
            go_loopw [6] (fun j wc => ∃ m : Nat, m ≤ x.length ∧ j = .int .i64 m ∧ x.take m = y.take m ∧ Below w.heap.size w wc) (fun j _ => x.length - (intOf j).toNat)
            case atStart => exact ⟨0, Nat.zero_le _, rfl, rfl, HBl.out.drew⟩
            case round =>
              obtain ⟨m, hm, rfl, ht, hbl⟩ := hrel
              have HTm := hid ht
              have HBm := hid hbl
              obtain ⟨_, _, xa', x', xc', e1, hx1, hx2, hx3, _⟩ := (HA.out.kp (Kp.of_below hbl)).at hlt
              obtain ⟨_, _, ya', y', yc', e2, hy1, hy2, hy3, _⟩ := (HB.out.kp (Kp.of_below hbl)).at (k := k) (by omega)
              rw [HX.out] at hx1
              rw [HY.out] at hy1
              cases hx1
              cases hy1
              cases e1
              cases e2
              by_cases hml : m < x.length
              · as_aux_lemma =>
                  obtain ⟨gx, ox, p, rfl, hp1, hp2, hp3, hp4⟩ := hx3.at hml
                  obtain ⟨gy, oy, q, rfl, hq1, hq2, hq3, hq4⟩ := hy3.at (k := m) (by rw [← HXY.out]; exact hml)
                  have hmy : m < y.length := by rw [← HXY.out]; exact hml
                  have HP := hid hp1
                  have HQ := hid hq1
                  clear hp1 hq1 hx3 hy3 ht hbl
                  by_cases hpq : p = q
                  · as_aux_lemma =>
                      subst hpq
                      have HE : Hid (x.take (m + 1) = y.take (m + 1)) := by show _ = _; rw [take_get HP.out, take_get HQ.out, HTm.out]
                      have hd : (p != p) = false := by simp
                      go_wp2
                      go_region
                      go_wp2
                      go_roundw
                      case rel => exact ⟨m + 1, hml, by go_num, HE.out, HBm.out.drew⟩
                      case measure => simp only [intOf]; omega
                  · as_aux_lemma =>
                      have hd : (p != q) = true := by simpa using hpq
                      have HE : Hid (decide (a = b) = false) := decide_eq_false (by
                        rintro rfl
                        have h1 := HX.out.symm.trans HY.out
                        simp at h1
                        subst h1
                        have h2 := HP.out.symm.trans HQ.out
                        simp at h2
                        exact hpq h2)
                      clear hpq
                      go_wp2
                      go_region
                      go_wp2
                      go_ret
                      exact ⟨ret1b HE.out.symm, HBm.out.drew⟩
              · as_aux_lemma =>
                  have hmx : m = x.length := by omega
                  have HE : Hid (a.take (k + 1) = b.take (k + 1)) := by
                    have h9 := HTm.out
                    rw [List.take_of_length_le (by omega), List.take_of_length_le (by rw [← HXY.out]; omega)] at h9
                    show _ = _
                    rw [take_get HX.out, take_get HY.out, HT.out, h9]
                  subst hmx
                  clear ht hbl hx3 hy3
                  go_wp2
                  go_roundw
                  case rel => exact ⟨k + 1, hlt, by go_num, HE.out, HBm.out⟩
                  case measure => simp only [intOf]; omega
        · as_aux_lemma =>
            have hne : ((x.length : Int) != y.length) = true := by simp; omega
            have HE : Hid (decide (a = b) = false) := decide_eq_false (by
              rintro rfl
              have h1 := HX.out.symm.trans HY.out
              simp at h1
              subst h1
              exact hxy rfl)
            clear hxy
            go_wp2
            go_region
            go_wp2
            go_ret
            exact ⟨ret1b HE.out.symm, HBl.out.drew⟩
      · have hk' : k = a.length := by omega
        have HE : Hid (decide (a = b) = true) := by
          have h9 := HT.out
          rw [List.take_of_length_le (by omega), List.take_of_length_le (by have := HL.out; omega)] at h9
          exact decide_eq_true h9
        go_wp2
        go_ret
        exact ⟨ret1b HE.out.symm, hbl⟩
  · have hne : ((a.length : Int) != b.length) = true := by rw [bne_iff_ne]; omega
    have HE : Hid (decide (a = b) = false) := decide_eq_false (fun h => hl (by rw [h]))
    go_enter Try.func13, Try.ntmps13
    go_wp2
    go_ret
    exact ⟨ret1b HE.out.symm, Below.refl _ _⟩

end Go.Proofs.Ytmokokhhheonoaa

/- The examples of layer 14 come out true. -/
namespace Go.Proofs.Ytmokokhhheonoaa
open Go.RowKit Go.Maps Go.BigFrame

/-- Rows laid one behind the other. -/
def lits14 : World → List (List Int) → World × List Value
  | w, [] => (w, [])
  | w, x :: r => ((lits14 (w.alloc (.cells (x.map I64).toArray 3)) r).1, .slice (some ⟨w.heap.size, 0, none⟩) x.length x.length :: (lits14 (w.alloc (.cells (x.map I64).toArray 3)) r).2)

theorem lits14_ok : ∀ (l : List (List Int)) (w : World), (∀ x, x ∈ l → ZI x ∧ x.length ≤ 1000) → Below w.heap.size w (lits14 w l).1 ∧ (lits14 w l).2.length = l.length ∧ ∀ (j : Nat) (u : Value) (x : List Int), (lits14 w l).2[j]? = some u → l[j]? = some x → Is (lits14 w l).1 u x
  | [], w, _ => ⟨Below.refl _ _, rfl, fun j u x hu => by simp [lits14] at hu⟩
  | x :: r, w, h => by
    obtain ⟨h1, h2, h3⟩ := lits14_ok r (w.alloc (.cells (x.map I64).toArray 3)) (fun y hy => h y (by simp [hy]))
    refine ⟨below_step (below_alloc _) h1, by simp [lits14, h2], fun j u y hu hy => ?_⟩
    cases j with
    | zero =>
      simp only [lits14, List.getElem?_cons_zero, Option.some.injEq] at hu hy
      subst hu hy
      have hz := h x (by simp)
      exact (is_new w x 3 (fun y hy => by obtain ⟨k, hk⟩ := List.getElem?_of_mem hy; exact hz.1 k y hk) hz.2).kp (Kp.of_below h1)
    | succ j =>
      simp only [lits14, List.getElem?_cons_succ] at hu hy
      exact h3 j u y hu hy

theorem lits14_rs (l : List (List Int)) (w : World) (h : ∀ x, x ∈ l → ZI x ∧ x.length ≤ 1000) (hl : l.length ≤ 1000) : Rs ((lits14 w l).1.alloc (.cells (lits14 w l).2.toArray 26)) (.slice (some ⟨(lits14 w l).1.heap.size, 0, none⟩) l.length l.length) l ∧ Below w.heap.size w ((lits14 w l).1.alloc (.cells (lits14 w l).2.toArray 26)) := by
  obtain ⟨h1, h2, h3⟩ := lits14_ok l w h
  refine ⟨⟨_, l.length, rfl, Nat.le_refl _, by unfold maxLen; omega, fun _ => ⟨(lits14 w l).1.heap.size, 0, rfl, by simp, fun k x hk => ?_⟩⟩, below_step h1 (below_alloc _)⟩
  have hkl := (List.getElem?_eq_some_iff.1 hk).1
  refine ⟨by have := (h x (List.mem_of_getElem? hk)).2; omega, (lits14 w l).2[k]'(by omega), ?_, (h3 k _ x (List.getElem?_eq_getElem (by omega)) hk).kp (Kp.of_below (below_alloc _))⟩
  rw [Nat.zero_add, Nat.mul_one, cell_of_row _ _ _ _ _ _ (heap_alloc_new _ _)]
  simp [h2, hkl]

theorem zi_small {l : List (List Int)} (h : l.all (fun x => x.all (fun y => decide (-100 ≤ y) && decide (y ≤ 100)) && decide (x.length ≤ 1000)) = true) : ∀ x, x ∈ l → ZI x ∧ x.length ≤ 1000 := fun x hx => by
  have h1 := List.all_eq_true.1 h x hx
  rw [Bool.and_eq_true] at h1
  refine ⟨fun k y hk => ?_, of_decide_eq_true h1.2⟩
  have h2 := List.all_eq_true.1 h1.1 y (List.mem_of_getElem? hk)
  rw [Bool.and_eq_true] at h2
  have a := of_decide_eq_true h2.1
  have b := of_decide_eq_true h2.2
  omega

/-- What Parts answers is read as the parts. -/
theorem PO14.rs {w0 w : World} {G : List (List Int)} {v : Value} {vs : List Value} {Ps : List (List Nat)} (h : PO14 w0 w G v vs Ps) (hG : G.length ≤ 4096) : Rs w v ((partsG G).map natL) := by
  obtain ⟨h1, h2, h3, _, h5⟩ := h
  have e := h5.eq
  subst e
  have hr := rs_of_own (l := (partsG G).map natL) (by rw [List.length_map]; exact h1) h3 (fun t ht => by
    obtain ⟨P, hP, rfl⟩ := List.mem_map.1 ht
    rw [natL_len]
    obtain ⟨i, _, hk, hr⟩ := h5.part P hP
    have := nodup_few (n := G.length) (xs := P) (hr.imp fun h => by omega) (fun x hx => (wy_lt ((hk x).1 hx).1).2)
    omega)
  exact hr

set_option maxRecDepth 100000 in
set_option maxHeartbeats 3200000 in
theorem shown14_any (w : World) : Calls Try.prog 9 #[] w fun e w' => e = .returned (.bool true) ∧ Below w.heap.size w w' := by
  have L1 := fun w => lits14_rs [[1], [2], [0, 3], [3], [0]] w (zi_small (by decide)) (by decide)
  have L2 := fun w => lits14_rs [[3, -1, 9], [2], [1], [0]] w (zi_small (by decide)) (by decide)
  have L3 := fun w => lits14_rs [[1], [2], []] w (zi_small (by decide)) (by decide)
  have L4 := fun w => lits14_rs [[0]] w (zi_small (by decide)) (by decide)
  have L5 := fun w => lits14_rs [[0, 1, 2], [3]] w (zi_small (by decide)) (by decide)
  have L6 := fun w => lits14_rs [[0, 3], [1, 2]] w (zi_small (by decide)) (by decide)
  simp only [lits14, I64, List.map_cons, List.map_nil, List.length_cons, List.length_nil, World.size_alloc, Nat.zero_add, Nat.reduceAdd] at L1 L2 L3 L4 L5 L6
  have H1 := hid L1
  have H2 := hid L2
  have H3 := hid L3
  have H4 := hid L4
  have H5 := hid L5
  have H6 := hid L6
  clear L1 L2 L3 L4 L5 L6
  go_enter Try.func9, Try.ntmps9
  go_wp2_with fail
  refine (parts_any14 (H1.out w).1 (by decide)).mono ?_
  rintro e w1 ⟨va, _, _, rfl, ha⟩
  have HA := hid (ha.rs (by decide))
  have B1 := hid (below_step (H1.out w).2 ha.2.2.2.1)
  clear ha
  rw [ex14_1] at HA
  go_wp2_with fail
  refine (parts_any14 (H2.out w1).1 (by decide)).mono ?_
  rintro e w2 ⟨vb, _, _, rfl, hb⟩
  have HB := hid (hb.rs (by decide))
  have C2 := hid (below_step (H2.out w1).2 hb.2.2.2.1)
  have B2 := hid (below_step B1.out C2.out)
  have HA2 := hid (HA.out.kp (Kp.of_below C2.out))
  clear hb HA C2 B1
  rw [ex14_2] at HB
  go_wp2_with fail
  refine (parts_any14 (H3.out w2).1 (by decide)).mono ?_
  rintro e w3 ⟨vc, _, _, rfl, hc⟩
  have HC := hid (hc.rs (by decide))
  have C3 := hid (below_step (H3.out w2).2 hc.2.2.2.1)
  have B3 := hid (below_step B2.out C3.out)
  have HA3 := hid (HA2.out.kp (Kp.of_below C3.out))
  have HB3 := hid (HB.out.kp (Kp.of_below C3.out))
  clear hc HA2 HB C3 B2
  rw [ex14_3] at HC
  obtain ⟨co, cc, hvc, _⟩ := Row.flat HC.out
  have hvc2 : vc = .slice co 0 cc := hvc
  clear hvc
  subst hvc2
  go_wp2_with fail
  refine (parts_any14 (H4.out w3).1 (by decide)).mono ?_
  rintro e w4 ⟨vd, _, _, rfl, hd⟩
  have HD := hid (hd.rs (by decide))
  have C4 := hid (below_step (H4.out w3).2 hd.2.2.2.1)
  have B4 := hid (below_step B3.out C4.out)
  have HA4 := hid (HA3.out.kp (Kp.of_below C4.out))
  have HB4 := hid (HB3.out.kp (Kp.of_below C4.out))
  clear hd HA3 HB3 C4 B3 HC
  rw [ex14_4] at HD
  go_wp2_with fail
  refine (same14_any _ _ _ _ _ (HA4.out.kp (Kp.of_below (H5.out w4).2)) (H5.out w4).1).mono ?_
  rintro e w5 ⟨rfl, hb5⟩
  have C5 := hid (below_step (H5.out w4).2 hb5)
  have B5 := hid (below_step B4.out C5.out)
  have HB5 := hid (HB4.out.kp (Kp.of_below C5.out))
  have HD5 := hid (HD.out.kp (Kp.of_below C5.out))
  rw [show decide (List.map natL [[0, 1, 2], [3]] = [[0, 1, 2], [3]]) = true by decide]
  clear hb5 HA4 HB4 HD C5 B4
  go_wp2_with fail
  refine (same14_any _ _ _ _ _ (HB5.out.kp (Kp.of_below (H6.out w5).2)) (H6.out w5).1).mono ?_
  rintro e w6 ⟨rfl, hb6⟩
  have C6 := hid (below_step (H6.out w5).2 hb6)
  have B6 := hid (below_step B5.out C6.out)
  have HD6 := hid (HD5.out.kp (Kp.of_below C6.out))
  rw [show decide (List.map natL [[0, 3], [1, 2]] = [[0, 3], [1, 2]]) = true by decide]
  clear hb6 HB5 HD5 C6 B5
  go_wp2_with fail
  refine (same14_any _ _ _ _ _ (HD6.out.kp (Kp.of_below (H4.out w6).2)) (H4.out w6).1).mono ?_
  rintro e w7 ⟨rfl, hb7⟩
  have B7 := hid (below_step B6.out (below_step (H4.out w6).2 hb7))
  rw [show decide (List.map natL [[0]] = [[0]]) = true by decide]
  clear hb7 HD6 B6
  go_wp2
  go_ret
  exact ⟨rfl, B7.out⟩

end Go.Proofs.Ytmokokhhheonoaa

/- A list of rows of one's own that grow one by one. -/
namespace Go.Proofs.Ytmokokhhheonoaa
open Go.RowKit Go.Maps Go.BigFrame

theorem zip_set14 {α β : Type} (xs : List α) (ys : List β) (k : Nat) (x : α) (y : β) : (xs.zip ys).set k (x, y) = (xs.set k x).zip (ys.set k y) := by
  induction xs generalizing ys k with
  | nil => simp
  | cons a xs ih =>
    cases ys with
    | nil => cases k <;> simp
    | cons b ys =>
      cases k with
      | zero => rfl
      | succ k => simp [ih]

/-- The rows' headers stand in one block; each row lies in a block of its own. -/
structure Bk14 (w0 w : World) (g n : Nat) (vals : List Value) (rws : List (List Int)) : Prop where
  bel : Below w0.heap.size w0 w
  base : w0.heap.size ≤ g
  blk : w.heap[g]? = some (.cells vals.toArray 26 (0, 0))
  len : vals.length = n
  rlen : rws.length = n
  own : Owns w w0.heap.size (vals.zip rws)

theorem Bk14.later {w0 w w' : World} {g n : Nat} {vals : List Value} {rws : List (List Int)} (h : Bk14 w0 w g n vals rws) (hb : Below w.heap.size w w') : Bk14 w0 w' g n vals rws :=
  ⟨below_step h.bel hb, h.base, (hb.block g (Array.getElem?_eq_some_iff.1 h.blk).1).trans h.blk, h.len, h.rlen, h.own.later hb⟩

theorem Bk14.one {w0 w : World} {g n x : Nat} {vals : List Value} {rws : List (List Int)} (h : Bk14 w0 w g n vals rws) (hx : x < n) : ∃ v r, vals[x]? = some v ∧ rws[x]? = some r ∧ OwI w w0.heap.size v r ∧ w.cell? ⟨g, x, none⟩ = some v ∧ w.frozen? ⟨g, x, none⟩ = false := by
  have h1 : x < vals.length := by rw [h.len]; exact hx
  have h2 : x < rws.length := by rw [h.rlen]; exact hx
  refine ⟨vals[x], rws[x], List.getElem?_eq_getElem h1, List.getElem?_eq_getElem h2, h.own.own x _ _ (List.getElem?_zip_eq_some.2 ⟨List.getElem?_eq_getElem h1, List.getElem?_eq_getElem h2⟩), ?_, frozen_of_row w g x _ _ h.blk⟩
  rw [cell_of_row w g x _ _ _ h.blk]
  simp [h1]

theorem Bk14.rs {w0 w : World} {g n : Nat} {vals : List Value} {rws : List (List Int)} (h : Bk14 w0 w g n vals rws) (hn : n ≤ 1048576) (hl : ∀ r, r ∈ rws → r.length * 8 ≤ 140737488351232) : Rs w (.slice (some ⟨g, 0, none⟩) n n) rws := by
  refine ⟨some ⟨g, 0, none⟩, n, by rw [h.rlen], by rw [h.rlen]; exact Nat.le_refl _, by unfold maxLen; omega, fun _ => ⟨g, 0, rfl, (Array.getElem?_eq_some_iff.1 h.blk).1, fun k r hk => ?_⟩⟩
  have hk2 := (List.getElem?_eq_some_iff.1 hk).1
  rw [h.rlen] at hk2
  obtain ⟨v, r', h1, h2, h3, h4, _⟩ := h.one hk2
  rw [hk] at h2
  cases h2
  exact ⟨hl r (List.mem_of_getElem? hk), v, by rw [Nat.zero_add, Nat.mul_one]; exact h4, h3.is⟩

/-- New rows, all empty. -/
theorem Bk14.new (w : World) (n : Nat) : Bk14 w (w.alloc (.cells (List.replicate n (Value.slice none 0 0)).toArray 26)) w.heap.size n (List.replicate n (.slice none 0 0)) (List.replicate n []) := by
  refine ⟨below_alloc _, Nat.le_refl _, heap_alloc_new _ _, by simp, by simp, ⟨fun i v xs hi => ?_, fun i j v u xs ys _ hi _ => ?_⟩⟩
  · have := List.getElem?_zip_eq_some.1 hi
    have e1 := (List.mem_replicate.1 (List.mem_of_getElem? this.1)).2
    have e2 := (List.mem_replicate.1 (List.mem_of_getElem? this.2)).2
    simp only at e1 e2
    subst e1 e2
    exact ow_nil14 _ _
  · have := List.getElem?_zip_eq_some.1 hi
    have e1 := (List.mem_replicate.1 (List.mem_of_getElem? this.1)).2
    simp only at e1
    subst e1
    exact dis_nil14 _

theorem run_makeR14 (w : World) (n : Nat) (hn : n * 24 ≤ 140737488355328) : (Instr.makeSlice 22 (.int .i64 (n : Int)) (.int .i64 (n : Int))).run Try.prog w = .ok (.slice (some ⟨w.heap.size, 0, none⟩) n n) (w.alloc (.cells (List.replicate n (Value.slice none 0 0)).toArray 26)) := by
  obtain ⟨i0, hi, hz0, hz1, hz2⟩ := info_parts info_ints
  have h := run_make (P := Try.prog) w 22 26 i0 (.slice none 0 0) under_rows hi hz0 .i64 .i64 (n : Int) (n : Int) (by omega) (Int.le_refl _) (by rw [hz2]; omega) (by omega)
  rw [hz1, Int.toNat_natCast] at h
  have e : madeCells (Value.slice none 0 0).cells (n * 1) = (List.replicate n (Value.slice none 0 0)).toArray := by
    apply Array.ext'
    rw [made_nilS]
  rw [e] at h
  exact h

end Go.Proofs.Ytmokokhhheonoaa

/- home of layer 14's law file: which part a node is in. -/
namespace Go.Proofs.Ytmokokhhheonoaa
open Go.RowKit Go.Maps Go.BigFrame

/-- The first row that holds a number; -1: none. -/
def homeI : List (List Int) → Int → Int
  | [], _ => -1
  | r :: l, x => if x ∈ r then 0 else if homeI l x < 0 then -1 else homeI l x + 1

theorem homeI_at : ∀ (l : List (List Int)) (x : Int), (∃ k : Nat, homeI l x = (k : Int) ∧ (∃ r, l[k]? = some r ∧ x ∈ r) ∧ ∀ (j : Nat) r, j < k → l[j]? = some r → x ∉ r) ∨ (homeI l x = -1 ∧ ∀ r, r ∈ l → x ∉ r)
  | [], x => .inr ⟨rfl, fun r hr => by simp at hr⟩
  | r :: l, x => by
    unfold homeI
    by_cases h : x ∈ r
    · rw [if_pos h]
      exact .inl ⟨0, rfl, ⟨r, rfl, h⟩, fun j q hj => by omega⟩
    · rw [if_neg h]
      rcases homeI_at l x with ⟨k, h1, ⟨q, h2, h3⟩, h4⟩ | ⟨h1, h2⟩
      · rw [h1, if_neg (by omega)]
        refine .inl ⟨k + 1, by omega, ⟨q, by simpa using h2, h3⟩, fun j q' hj hq' => ?_⟩
        cases j with
        | zero => simp at hq'; subst hq'; exact h
        | succ j => exact h4 j q' (by omega) (by simpa using hq')
      · rw [h1, if_pos (by omega)]
        refine .inr ⟨rfl, fun q hq => ?_⟩
        rcases List.mem_cons.1 hq with rfl | hq
        · exact h
        · exact h2 q hq

theorem homeI_first {l : List (List Int)} {x : Int} {k : Nat} {r : List Int} (h : l[k]? = some r) (hx : x ∈ r) (hn : ∀ (j : Nat) q, j < k → l[j]? = some q → x ∉ q) : homeI l x = (k : Int) := by
  rcases homeI_at l x with ⟨m, h1, ⟨q, h2, h3⟩, h4⟩ | ⟨_, h2⟩
  · have : m = k := by
      rcases Nat.lt_trichotomy m k with hlt | e | hlt
      · exact absurd h3 (hn m q hlt h2)
      · exact e
      · exact absurd hx (h4 k r hlt h)
    rw [h1, this]
  · exact absurd hx (h2 r (List.mem_of_getElem? h))

theorem homeI_none {l : List (List Int)} {x : Int} (h : ∀ r, r ∈ l → x ∉ r) : homeI l x = -1 := by
  rcases homeI_at l x with ⟨m, _, ⟨q, h2, h3⟩, _⟩ | ⟨h1, _⟩
  · exact absurd h3 (h q (List.mem_of_getElem? h2))
  · exact h1

set_option maxRecDepth 100000 in
set_option maxHeartbeats 1600000 in
theorem home14_any (v : Value) (l : List (List Int)) (x : Int) (w : World) (h : Rs w v l) :
    Calls Try.prog 14 #[v, .int .i64 x] w fun e w' => e = .returned (.int .i64 (homeI l x)) ∧ w' = w := by
  obtain ⟨ao, cap, rfl, hao, hca, _⟩ := Row.flat h
  unfold maxLen at hca
  have HL := hid h
  clear h
  go_enter Try.func14, Try.ntmps14
  go_wp2
  go_loopw [5, 6] (fun i _ wr => ∃ k : Nat, k ≤ l.length ∧ i = .int .i64 k ∧ (∀ (j : Nat) q, j < k → l[j]? = some q → x ∉ q) ∧ wr = w) (fun i _ _ => l.length - (intOf i).toNat)
  case atStart => exact ⟨0, Nat.zero_le _, rfl, fun j q hj => by omega, rfl⟩
  case round =>
    obtain ⟨k, hk, rfl, hn, hw⟩ := hrel
    have HN := hid hn
    have hw' := hw
    subst hw'
    clear hn hw
    by_cases hlt : k < l.length
    · obtain ⟨g, off, xa, r, xc, rfl, hr, hx2, hx3, hx4⟩ := HL.out.at hlt
      have HR := hid hr
      have hw1 : IntKind.i64.wrap ((k : Int) + 1) = ((k + 1 : Nat) : Int) := by rw [IntWalk.i64_in _ ⟨by omega, by omega⟩]; omega
      clear hr
      go_wp2
      go_loopw [6] (fun i wr2 => ∃ m : Nat, m ≤ r.length ∧ i = .int .i64 m ∧ x ∉ r.take m ∧ wr2 = wr) (fun i _ => r.length - (intOf i).toNat)
      case atStart => exact ⟨0, Nat.zero_le _, rfl, by simp, rfl⟩
      case round =>
        obtain ⟨m, hm, rfl, ht, hw⟩ := hrel
        subst hw
        have HT := hid ht
        clear ht
        by_cases hml : m < r.length
        · obtain ⟨gx, ox, p, rfl, hp1, hp2, hp3, hp4⟩ := hx3.at hml
          have HP := hid hp1
          have hw2 : IntKind.i64.wrap ((m : Int) + 1) = ((m + 1 : Nat) : Int) := by rw [IntWalk.i64_in _ ⟨by omega, by omega⟩]; omega
          clear hp1
          by_cases hpx : p = x
          · have HE : Hid (homeI l x = (k : Int)) := homeI_first HR.out (by rw [← hpx]; exact List.mem_of_getElem? HP.out) HN.out
            have hd : (p == x) = true := by simpa using hpx
            clear hpx hx3
            go_wp2
            go_ret
            exact ⟨by rw [HE.out]; rfl, rfl⟩
          · have hd : (p == x) = false := by simpa using hpx
            have HE : Hid (x ∉ r.take (m + 1)) := by
              show _
              rw [take_get HP.out, List.mem_append]
              rintro (h | h)
              · exact HT.out h
              · simp at h; exact hpx h.symm
            clear hpx hx3
            go_wp2
            go_roundw
            case rel => exact ⟨m + 1, hml, by go_num, HE.out, trivial⟩
            case measure => simp only [intOf]; omega
        · have HE : Hid (∀ (j : Nat) q, j < k + 1 → l[j]? = some q → x ∉ q) := fun j q hj hq => by
            by_cases e : j = k
            · subst e
              rw [HR.out] at hq
              cases hq
              have h9 := HT.out
              rw [List.take_of_length_le (by omega)] at h9
              exact h9
            · exact HN.out j q (by omega) hq
          obtain rfl : m = r.length := by omega
          clear hx3
          go_wp2
          go_roundw
          case rel => exact ⟨k + 1, hlt, by go_num, HE.out, trivial⟩
          case measure => simp only [intOf]; omega
    · have HE : Hid (homeI l x = -1) := homeI_none fun r hr => by
        obtain ⟨j, hj⟩ := List.getElem?_of_mem hr
        exact HN.out j r (by have := (List.getElem?_eq_some_iff.1 hj).1; omega) hj
      obtain rfl : k = l.length := by omega
      go_wp2
      go_ret
      exact ⟨by rw [HE.out]; rfl, rfl⟩

/-- Two nodes with one home: they go round with one another. -/
theorem home_class {G : List (List Int)} (i k : Nat) : (0 ≤ homeI ((partsG G).map natL) (i : Int) ∧ homeI ((partsG G).map natL) (k : Int) = homeI ((partsG G).map natL) (i : Int)) ↔ (Wy (Ed G) i k ∧ Wy (Ed G) k i) := by
  have hp := partsB_is G
  have row : ∀ {j : Nat} {r : List Int}, ((partsG G).map natL)[j]? = some r → ∃ P, (partsG G)[j]? = some P ∧ r = natL P := fun {j r} h => by
    rw [List.getElem?_map] at h
    cases hP : (partsG G)[j]? with
    | none => rw [hP] at h; simp at h
    | some P => rw [hP] at h; simp at h; exact ⟨P, rfl, h.symm⟩
  have inl : ∀ (P : List Nat) (x : Nat), (x : Int) ∈ natL P ↔ x ∈ P := fun P x => by
    unfold natL
    rw [List.mem_map]
    constructor
    · rintro ⟨y, hy, e⟩
      obtain rfl : y = x := by omega
      exact hy
    · exact fun h => ⟨x, h, rfl⟩
  constructor
  · rintro ⟨h1, h2⟩
    rcases homeI_at ((partsG G).map natL) (i : Int) with ⟨m, e1, ⟨r, e2, e3⟩, _⟩ | ⟨e1, _⟩
    · rcases homeI_at ((partsG G).map natL) (k : Int) with ⟨m', f1, ⟨r', f2, f3⟩, _⟩ | ⟨f1, _⟩
      · obtain rfl : m = m' := by omega
        rw [e2] at f2
        cases f2
        obtain ⟨P, hP, rfl⟩ := row e2
        obtain ⟨a, ha, hm, _⟩ := hp.part P (List.mem_of_getElem? hP)
        have hi := (hm i).1 ((inl P i).1 e3)
        have hk := (hm k).1 ((inl P k).1 f3)
        exact ⟨hi.2.trans hk.1, hk.2.trans hi.1⟩
      · omega
    · omega
  · rintro ⟨h1, h2⟩
    obtain ⟨P, hP, hiP⟩ := hp.all i (h1.trans h2)
    obtain ⟨a, ha, hm, _⟩ := hp.part P hP
    have hi := (hm i).1 hiP
    have hkP := (hm k).2 ⟨hi.1.trans h1, h2.trans hi.2⟩
    obtain ⟨j, hj⟩ := List.getElem?_of_mem hP
    have hjl := (List.getElem?_eq_some_iff.1 hj).1
    have hj2 : ((partsG G).map natL)[j]? = some (natL P) := by rw [List.getElem?_map]; unfold partsG; rw [hj]; rfl
    have apart : ∀ x, x ∈ P → ∀ (m : Nat) q, m < j → ((partsG G).map natL)[m]? = some q → (x : Int) ∉ q := fun x hx m q hmj hq hxq => by
      obtain ⟨Q, hQ, rfl⟩ := row hq
      have hQ2 : (partsB G G.length)[m]? = some Q := hQ
      have hml := (List.getElem?_eq_some_iff.1 hQ2).1
      obtain ⟨b, hb, hn, hrQ⟩ := hp.part Q (List.mem_of_getElem? hQ2)
      have hxQ := (hn x).1 ((inl Q x).1 hxq)
      have hxP := (hm x).1 hx
      obtain ⟨_, _, _, hrP⟩ := hp.part P hP
      have e : Q = P := rise_ext hrQ hrP fun z => by rw [hn, hm]; exact part_same hxQ.1 hxQ.2 hxP.1 hxP.2 z
      have hri := List.pairwise_iff_getElem.1 hp.rise m j hml hjl hmj
      have e1 : (partsB G G.length)[m] = Q := by rw [List.getElem?_eq_getElem hml] at hQ2; exact Option.some.inj hQ2
      have e2 : (partsB G G.length)[j] = P := by rw [List.getElem?_eq_getElem hjl] at hj; exact Option.some.inj hj
      rw [e1, e2, e] at hri
      have hne := hp.ne hP
      cases P with
      | nil => exact hne rfl
      | cons p ps => exact absurd (hri p p rfl rfl) (by omega)
    have e1 := homeI_first hj2 ((inl P i).2 hiP) (apart i hiP)
    have e2 := homeI_first hj2 ((inl P k).2 hkP) (apart k hkP)
    rw [e1, e2]
    exact ⟨by omega, rfl⟩

/-- The same, with what is told of the world ahead of the store. -/
theorem Bk14.pushB (ty : TypeId) {w0 w : World} {g n x : Nat} {vals : List Value} {rws : List (List Int)} {v : Value} {r : List Int} {c : Int} (h : Bk14 w0 w g n vals rws) (_hx : x < n) (hv : vals[x]? = some v) (hr : rws[x]? = some r) (h1 : -9223372036854775808 ≤ c) (h2 : c ≤ 9223372036854775807) (hl : (r.length + 1) * 8 ≤ 140737488355328) :
    ∃ v' w', (Builtin.append_ #[26, 26] ty #[v, .slice (some ⟨w.heap.size, 0, none⟩) 1 1]).run Try.prog (w.alloc (.cells #[.int .i64 c] 3)) = .ok v' w' ∧ (∃ a m d, v' = .slice a m d) ∧ w'.cell? ⟨g, x, none⟩ = some v ∧ w'.frozen? ⟨g, x, none⟩ = false ∧ Below w0.heap.size w0 w' ∧ Bk14 w0 (w'.setCell ⟨g, x, none⟩ v') g n (vals.set x v') (rws.set x (r ++ [c])) := by
  have ho := h.own.own x v r (List.getElem?_zip_eq_some.2 ⟨hv, hr⟩)
  have h' := h.later (below_alloc (.cells #[.int .i64 c] 3))
  obtain ⟨v', w', hrun, g1, g2, g3⟩ := join_one ty ho h1 h2 h.bel.size hl
  have hs := h'.own.step (i := x) (List.getElem?_zip_eq_some.2 ⟨hv, hr⟩) g2 g1 (by
    rcases g3 with g3 | g3
    · exact .inl g3
    · exact .inr ⟨_, g3, Nat.le_refl _⟩)
  rw [zip_set14] at hs
  have ho' := h'.own.own x v r (List.getElem?_zip_eq_some.2 ⟨hv, hr⟩)
  have hblk : w'.heap[g]? = some (.cells vals.toArray 26 (0, 0)) := (g2.block g (Array.getElem?_eq_some_iff.1 h'.blk).1 (fun e => own_ne ho'.2 h'.blk (by decide) e.symm)).trans h'.blk
  have hbel : Below w0.heap.size w0 w' := h'.bel.grown g2 h'.bel.size (fun k hk => own_blk ho'.2 hk)
  obtain ⟨ao, cap, hv', _⟩ := g1.shape
  refine ⟨v', w', hrun, ⟨_, _, _, hv'⟩, ?_, frozen_of_row w' g x _ _ hblk, hbel, hbel.setCell (p := ⟨g, x, none⟩) h.base v', h.base, ?_, by rw [List.length_set, h.len], by rw [List.length_set, h.rlen], hs.kept (set_grown w' g x v') hblk (by decide)⟩
  · rw [cell_of_row w' g x _ _ _ hblk]
    simpa using hv
  · rw [heap_setCell_same w' g x _ _ _ hblk]
    simp

end Go.Proofs.Ytmokokhhheonoaa

/- GraphTurned: with all edges turned round the parts are the same. -/
namespace Go.Proofs.Ytmokokhhheonoaa
open Go.RowKit Go.Maps Go.BigFrame

def cnt14 (G : List (List Int)) (i k : Nat) : Nat := ((G.take i).map List.length).sum + k

theorem sum_le14 (G : List (List Int)) : ∀ i, ((G.take i).map List.length).sum ≤ (G.map List.length).sum := fun i => by
  have : (G.map List.length).sum = ((G.take i).map List.length).sum + ((G.drop i).map List.length).sum := by
    rw [← List.sum_append, ← List.map_append, List.take_append_drop]
  omega

theorem cnt_le14 {G : List (List Int)} {i k : Nat} {es : List Int} (h : G[i]? = some es) (hk : k ≤ es.length) : cnt14 G i k ≤ (G.map List.length).sum := by
  have := sum_le14 G (i + 1)
  rw [take_get h, List.map_append, List.sum_append] at this
  simp only [List.map_cons, List.map_nil, List.sum_cons, List.sum_nil] at this
  unfold cnt14
  omega

end Go.Proofs.Ytmokokhhheonoaa

/- Graphs with their nodes numbered otherwise, plainly. -/
namespace Go.Proofs.Ytmokokhhheonoaa

/-- The number that a node gets. -/
def mvN (n b i : Nat) : Nat := (i + b) % n

theorem mvN_if {n b i : Nat} (hi : i < n) (hb : b < n) : mvN n b i = if i + b < n then i + b else i + b - n := by
  unfold mvN
  by_cases h : i + b < n
  · rw [if_pos h, Nat.mod_eq_of_lt h]
  · rw [if_neg h, Nat.mod_eq_sub_mod (by omega), Nat.mod_eq_of_lt (by omega)]

theorem mvN_lt {n b i : Nat} (hn : 0 < n) : mvN n b i < n := Nat.mod_lt _ hn

theorem mvN_inj {n b i k : Nat} (hi : i < n) (hk : k < n) (hb : b < n) (h : mvN n b i = mvN n b k) : i = k := by
  rw [mvN_if hi hb, mvN_if hk hb] at h
  split at h <;> split at h <;> omega

theorem mvN_all {n b y : Nat} (hy : y < n) (hb : b < n) : ∃ x, x < n ∧ mvN n b x = y := by
  by_cases h : b ≤ y
  · refine ⟨y - b, by omega, ?_⟩
    rw [mvN_if (by omega) hb, if_pos (by omega)]
    omega
  · refine ⟨y + n - b, by omega, ?_⟩
    rw [mvN_if (by omega) hb, if_neg (by omega)]
    omega

/-- The edges numbered otherwise, as far as the place k of the row i. -/
def Rn14 (G : List (List Int)) (b i k : Nat) (rws : List (List Int)) : Prop :=
  ∀ (x : Nat) (r : List Int), rws[x]? = some r → r.length ≤ cnt14 G i k ∧ ∀ y : Int, y ∈ r ↔ ∃ (a c t : Nat) (es : List Int), (a < i ∨ (a = i ∧ c < k)) ∧ G[a]? = some es ∧ es[c]? = some (t : Int) ∧ t < G.length ∧ x = mvN G.length b a ∧ y = ((mvN G.length b t : Nat) : Int)

theorem Rn14.start (G : List (List Int)) (b n : Nat) : Rn14 G b 0 0 (List.replicate n []) := fun x r hr => by
  have := (List.mem_replicate.1 (List.mem_of_getElem? hr)).2
  subst this
  refine ⟨Nat.zero_le _, fun y => ⟨fun h => by simp at h, ?_⟩⟩
  rintro ⟨a, c, t, es, h, _⟩
  omega

theorem Rn14.row {G : List (List Int)} {b i : Nat} {es : List Int} {rws : List (List Int)} (h : Rn14 G b i es.length rws) (hes : G[i]? = some es) : Rn14 G b (i + 1) 0 rws := fun x r hr => by
  obtain ⟨h1, h2⟩ := h x r hr
  refine ⟨?_, fun y => ?_⟩
  · unfold cnt14 at h1 ⊢
    rw [take_get hes, List.map_append, List.sum_append]
    simp only [List.map_cons, List.map_nil, List.sum_cons, List.sum_nil]
    omega
  · rw [h2]
    constructor
    · rintro ⟨a, c, t, fs, h3, h4⟩
      exact ⟨a, c, t, fs, .inl (by omega), h4⟩
    · rintro ⟨a, c, t, fs, h3, h4, h5, h6⟩
      refine ⟨a, c, t, fs, ?_, h4, h5, h6⟩
      by_cases e : a = i
      · subst e
        rw [hes] at h4
        cases h4
        exact .inr ⟨rfl, (List.getElem?_eq_some_iff.1 h5).1⟩
      · exact .inl (by omega)

theorem Rn14.skip {G : List (List Int)} {b i k : Nat} {es : List Int} {t : Int} {rws : List (List Int)} (h : Rn14 G b i k rws) (hes : G[i]? = some es) (ht : es[k]? = some t) (hx : ∀ x : Nat, x < G.length → t ≠ (x : Int)) : Rn14 G b i (k + 1) rws := fun x r hr => by
  obtain ⟨h1, h2⟩ := h x r hr
  refine ⟨by unfold cnt14 at *; omega, fun y => ?_⟩
  rw [h2]
  constructor
  · rintro ⟨a, c, s, fs, h3, h4⟩
    exact ⟨a, c, s, fs, by omega, h4⟩
  · rintro ⟨a, c, s, fs, h3, h4, h5, h6, h7⟩
    refine ⟨a, c, s, fs, ?_, h4, h5, h6, h7⟩
    by_cases e : a = i ∧ c = k
    · obtain ⟨rfl, rfl⟩ := e
      rw [hes] at h4
      cases h4
      rw [ht] at h5
      cases h5
      exact absurd rfl (hx s h6)
    · omega

theorem Rn14.put {G : List (List Int)} {b i k t : Nat} {es r : List Int} {rws : List (List Int)} (h : Rn14 G b i k rws) (hes : G[i]? = some es) (ht : es[k]? = some (t : Int)) (htn : t < G.length) (hr : rws[mvN G.length b i]? = some r) : Rn14 G b i (k + 1) (rws.set (mvN G.length b i) (r ++ [((mvN G.length b t : Nat) : Int)])) := fun z q hq => by
  by_cases e : mvN G.length b i = z
  · subst e
    rw [List.getElem?_set_self (List.getElem?_eq_some_iff.1 hr).1] at hq
    cases hq
    obtain ⟨h1, h2⟩ := h _ r hr
    refine ⟨by unfold cnt14 at *; rw [List.length_append, List.length_singleton]; omega, fun y => ?_⟩
    rw [List.mem_append, h2]
    constructor
    · rintro (⟨a, c, s, fs, h3, h4⟩ | hy)
      · exact ⟨a, c, s, fs, by omega, h4⟩
      · exact ⟨i, k, t, es, by omega, hes, ht, htn, rfl, by simpa using hy⟩
    · rintro ⟨a, c, s, fs, h3, h4, h5, h6, h7, h8⟩
      by_cases e : a = i ∧ c = k
      · obtain ⟨rfl, rfl⟩ := e
        rw [hes] at h4
        cases h4
        rw [ht] at h5
        obtain rfl : t = s := by have := Option.some.inj h5; omega
        exact .inr (by rw [h8]; simp)
      · exact .inl ⟨a, c, s, fs, by omega, h4, h5, h6, h7, h8⟩
  · rw [List.getElem?_set_ne e] at hq
    obtain ⟨h1, h2⟩ := h z q hq
    refine ⟨by unfold cnt14 at *; omega, fun y => ?_⟩
    rw [h2]
    constructor
    · rintro ⟨a, c, s, fs, h3, h4⟩
      exact ⟨a, c, s, fs, by omega, h4⟩
    · rintro ⟨a, c, s, fs, h3, h4, h5, h6, h7, h8⟩
      refine ⟨a, c, s, fs, ?_, h4, h5, h6, h7, h8⟩
      by_cases e2 : a = i ∧ c = k
      · obtain ⟨rfl, rfl⟩ := e2
        exact absurd h7.symm e
      · omega

/-- Edges and ways, with the nodes numbered otherwise. -/
theorem rn_ed {G rws : List (List Int)} {b : Nat} (h : Rn14 G b G.length 0 rws) (hl : rws.length = G.length) (hb : b < G.length) {i k : Nat} (hi : i < G.length) (hk : k < G.length) : Ed rws (mvN G.length b i) (mvN G.length b k) ↔ Ed G i k := by
  have hn : 0 < G.length := by omega
  constructor
  · rintro ⟨r, h1, h2, h3⟩
    obtain ⟨a, c, t, es, h4, h5, h6, h7, h8, h9⟩ := ((h _ r h1).2 _).1 h2
    have ha : a < G.length := (List.getElem?_eq_some_iff.1 h5).1
    obtain rfl := mvN_inj hi ha hb h8
    have e2 : mvN G.length b k = mvN G.length b t := by omega
    obtain rfl := mvN_inj hk h7 hb e2
    exact ⟨es, h5, List.mem_of_getElem? h6, hk⟩
  · rintro ⟨es, h1, h2, h3⟩
    obtain ⟨c, hc⟩ := List.getElem?_of_mem h2
    have hx : mvN G.length b i < rws.length := by rw [hl]; exact mvN_lt hn
    exact ⟨rws[mvN G.length b i], List.getElem?_eq_getElem hx, ((h _ _ (List.getElem?_eq_getElem hx)).2 _).2 ⟨i, c, k, es, .inl hi, h1, hc, hk, rfl, rfl⟩, by rw [hl]; exact mvN_lt hn⟩

theorem rn_wy {G rws : List (List Int)} {b : Nat} (h : Rn14 G b G.length 0 rws) (hl : rws.length = G.length) (hb : b < G.length) {i k : Nat} (hi : i < G.length) (hk : k < G.length) : Wy (Ed rws) (mvN G.length b i) (mvN G.length b k) ↔ Wy (Ed G) i k := by
  constructor
  · intro hw
    have gen : ∀ {x y : Nat}, Wy (Ed rws) x y → ∀ i k, i < G.length → k < G.length → mvN G.length b i = x → mvN G.length b k = y → Wy (Ed G) i k := fun {x y} hw => by
      induction hw with
      | one e => rintro i k hi hk rfl rfl; exact .one ((rn_ed h hl hb hi hk).1 e)
      | more e hw ih =>
        rintro i k hi hk rfl rfl
        obtain ⟨m, hm, rfl⟩ := mvN_all (by rw [← hl]; exact (wy_lt (.one e)).2) hb
        exact .more ((rn_ed h hl hb hi hm).1 e) (ih m k hm hk rfl rfl)
    exact gen hw i k hi hk rfl rfl
  · intro hw
    induction hw with
    | one e => exact .one ((rn_ed h hl hb hi hk).2 e)
    | more e hw ih =>
      have hm := (wy_lt hw).1
      exact .more ((rn_ed h hl hb hi hm).2 e) (ih hm hk)

/-- Where each part's nodes lie in one part of another graph, and what lies in one part there lay in one part here, there are no fewer parts. -/
theorem parts_few {G H : List (List Int)} (f : Nat → Nat) (hf : ∀ i k, Wy (Ed G) i k → Wy (Ed G) k i → Wy (Ed H) (f i) (f k)) (hb : ∀ i k, Wy (Ed G) i i → Wy (Ed G) k k → Wy (Ed H) (f i) (f k) → Wy (Ed H) (f k) (f i) → Wy (Ed G) i k ∧ Wy (Ed G) k i) : (partsG G).length ≤ (partsG H).length := by
  have hd : ∀ j, j < (partsG G).length → ∃ a, Wy (Ed G) a a ∧ homeI ((partsG G).map natL) (a : Int) = (j : Int) := fun j hj => by
    have hp := partsB_is G
    have hP : (partsB G G.length)[j]? = some (partsB G G.length)[j] := List.getElem?_eq_getElem hj
    generalize (partsB G G.length)[j] = P at hP
    obtain ⟨a, ha, hm, hr⟩ := hp.part P (List.mem_of_getElem? hP)
    refine ⟨a, ha, homeI_first (r := natL P) (by rw [List.getElem?_map]; unfold partsG; rw [hP]; rfl) (List.mem_map.2 ⟨a, (hm a).2 ⟨ha, ha⟩, rfl⟩) fun m q hmj hq haq => ?_⟩
    rw [List.getElem?_map] at hq
    cases hQ : (partsG G)[m]? with
    | none => rw [hQ] at hq; cases hq
    | some Q =>
      rw [hQ] at hq
      cases hq
      obtain ⟨a', ha', e⟩ := List.mem_map.1 haq
      obtain rfl : a' = a := by omega
      obtain ⟨c, hc, hn, hs⟩ := hp.part Q (List.mem_of_getElem? hQ)
      have h1 := (hn a').1 ha'
      have e : Q = P := rise_ext hs hr fun z => by rw [hn, hm]; exact part_same h1.1 h1.2 ha ha z
      subst e
      obtain ⟨hml, e1⟩ := List.getElem?_eq_some_iff.1 hQ
      obtain ⟨hjl, e2⟩ := List.getElem?_eq_some_iff.1 hP
      have hri := List.pairwise_iff_getElem.1 hp.rise m j hml hjl hmj
      have e1' : (partsB G G.length)[m] = Q := e1
      rw [e1', e2] at hri
      have hne := hp.ne (List.mem_of_getElem? hP)
      cases Q with
      | nil => exact hne rfl
      | cons p ps => exact absurd (hri p p rfl rfl) (by omega)
  have ix : ∃ I : Nat → Nat, ∀ j, j < (partsG G).length → I j < (partsG H).length ∧ ∀ j', j' < (partsG G).length → I j = I j' → j = j' := by
    have ch : ∃ A : Nat → Nat, ∀ j, j < (partsG G).length → Wy (Ed G) (A j) (A j) ∧ homeI ((partsG G).map natL) (A j : Int) = (j : Int) :=
      ⟨fun j => if h : j < (partsG G).length then Classical.choose (hd j h) else 0, fun j hj => by simp only [dif_pos hj]; exact Classical.choose_spec (hd j hj)⟩
    obtain ⟨A, hA⟩ := ch
    refine ⟨fun j => (homeI ((partsG H).map natL) (f (A j) : Int)).toNat, fun j hj => ?_⟩
    have hw := hf _ _ (hA j hj).1 (hA j hj).1
    have h0 := (home_class (G := H) (f (A j)) (f (A j))).2 ⟨hw, hw⟩
    refine ⟨?_, fun j' hj' e => ?_⟩
    · rcases homeI_at ((partsG H).map natL) (f (A j) : Int) with ⟨m, h1, ⟨r, h2, _⟩, _⟩ | ⟨h1, _⟩
      · have := (List.getElem?_eq_some_iff.1 h2).1
        rw [List.length_map] at this
        show (homeI ((partsG H).map natL) (f (A j) : Int)).toNat < _
        omega
      · omega
    · have hw' := hf _ _ (hA j' hj').1 (hA j' hj').1
      have h0' := (home_class (G := H) (f (A j')) (f (A j'))).2 ⟨hw', hw'⟩
      have e' : (homeI ((partsG H).map natL) (f (A j) : Int)).toNat = (homeI ((partsG H).map natL) (f (A j') : Int)).toNat := e
      have hc := (home_class (G := H) (f (A j)) (f (A j'))).1 ⟨h0.1, by omega⟩
      have hg := hb _ _ (hA j hj).1 (hA j' hj').1 hc.1 hc.2
      have hh := (home_class (G := G) (A j) (A j')).2 hg
      rw [(hA j hj).2, (hA j' hj').2] at hh
      omega
  obtain ⟨I, hI⟩ := ix
  have := nodup_few (n := (partsG H).length) (xs := (List.range (partsG G).length).map I) (by
    unfold List.Nodup
    rw [List.pairwise_map]
    refine List.Pairwise.imp_of_mem ?_ (List.pairwise_lt_range (n := (partsG G).length))
    intro a b ha hb hab e
    have := (hI a (List.mem_range.1 ha)).2 b (List.mem_range.1 hb) e
    omega) (fun x hx => by
    obtain ⟨j, hj, rfl⟩ := List.mem_map.1 hx
    exact (hI j (List.mem_range.1 hj)).1)
  simpa using this

theorem rn_parts {G rws : List (List Int)} {b : Nat} (h : Rn14 G b G.length 0 rws) (hl : rws.length = G.length) (hb : b < G.length) : (partsG rws).length = (partsG G).length := by
  refine Nat.le_antisymm ?_ (parts_few (G := G) (H := rws) (mvN G.length b) (fun i k h1 h2 => (rn_wy h hl hb (wy_lt h1).1 (wy_lt h1).2).2 h1) (fun i k h1 h2 h3 h4 => ⟨(rn_wy h hl hb (wy_lt h1).1 (wy_lt h2).1).1 h3, (rn_wy h hl hb (wy_lt h2).1 (wy_lt h1).1).1 h4⟩))
  have ch : ∃ B : Nat → Nat, ∀ y, y < G.length → B y < G.length ∧ mvN G.length b (B y) = y :=
    ⟨fun y => if h : y < G.length then Classical.choose (mvN_all (b := b) h hb) else 0, fun y hy => by simp only [dif_pos hy]; exact Classical.choose_spec (mvN_all (b := b) hy hb)⟩
  obtain ⟨B, hB⟩ := ch
  have lt : ∀ {i k}, Wy (Ed rws) i k → i < G.length ∧ k < G.length := fun {i k} hw => by rw [← hl]; exact wy_lt hw
  refine parts_few (G := rws) (H := G) B (fun i k h1 h2 => ?_) (fun i k h1 h2 h3 h4 => ?_)
  · obtain ⟨hi, hk⟩ := lt h1
    rw [← (hB i hi).2, ← (hB k hk).2] at h1
    exact (rn_wy h hl hb (hB i hi).1 (hB k hk).1).1 h1
  · have hi := (lt h1).1
    have hk := (lt h2).1
    have e1 := (rn_wy h hl hb (hB i hi).1 (hB k hk).1).2 h3
    have e2 := (rn_wy h hl hb (hB k hk).1 (hB i hi).1).2 h4
    rw [(hB i hi).2, (hB k hk).2] at e1 e2
    exact ⟨e1, e2⟩

/-- Two nodes are together just if they were. -/
theorem rn_home {G rws : List (List Int)} {b : Nat} (h : Rn14 G b G.length 0 rws) (hl : rws.length = G.length) (hb : b < G.length) {i k : Nat} (hi : i < G.length) (hk : k < G.length) :
    (decide (0 ≤ homeI ((partsG rws).map natL) ((mvN G.length b i : Nat) : Int)) && (homeI ((partsG rws).map natL) ((mvN G.length b i : Nat) : Int) == homeI ((partsG rws).map natL) ((mvN G.length b k : Nat) : Int))) = (decide (0 ≤ homeI ((partsG G).map natL) (i : Int)) && (homeI ((partsG G).map natL) (i : Int) == homeI ((partsG G).map natL) (k : Int))) := by
  have e1 := home_class (G := rws) (mvN G.length b i) (mvN G.length b k)
  have e2 := home_class (G := G) i k
  rw [rn_wy h hl hb hi hk, rn_wy h hl hb hk hi, ← e2] at e1
  rw [Bool.eq_iff_iff]
  simp only [Bool.and_eq_true, decide_eq_true_eq, beq_iff_eq]
  constructor
  · rintro ⟨h1, h2⟩
    have := e1.1 ⟨h1, h2.symm⟩
    exact ⟨this.1, this.2.symm⟩
  · rintro ⟨h1, h2⟩
    have := e1.2 ⟨h1, h2.symm⟩
    exact ⟨this.1, this.2.symm⟩

end Go.Proofs.Ytmokokhhheonoaa
