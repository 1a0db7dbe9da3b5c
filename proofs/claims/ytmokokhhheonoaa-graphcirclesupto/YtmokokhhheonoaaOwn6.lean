/- Texts of the proof, one behind the other. -/
import Derived.Test.YtmokokhhheonoaaOwn2
import Derived.BigRegion
import Derived.Test.YtmokokhhheonoaaOwn5
import Derived.Test.YtmokokhhheonoaaOwn1
/- same of layer 14's law file: two lists of rows. -/
namespace Go.Proofs.Ytmokokhhheonoaa
open Go.RowKit Go.Maps Go.BigFrame

set_option maxRecDepth 100000 in
set_option maxHeartbeats 1600000 in
theorem same14_any (v u : Value) (a b : List (List Int)) (w : World) (h : Rs w v a) (h' : Rs w u b) :
    Calls Try.prog 13 #[v, u] w fun e w' => e = .returned (.bool (decide (a = b))) ∧ Below w.heap.size w w' := by
  obtain ⟨ao, cap, rfl, hao, hca, _⟩ := Row.flat h
  obtain ⟨bo, cap', rfl, hbo, hcb, _⟩ := Row.flat h'
  unfold maxLen at hca hcb
  have HA := hid h
  have HB := hid h'
  clear h h'
  by_cases hl : a.length = b.length
  · have hle : ((a.length : Int) != b.length) = false := by simp; omega
    have hlb : a.length ≤ b.length := by omega
    have HL := hid hl
    clear hl
    go_enter Try.func13, Try.ntmps13
    go_wp2
    go_loopw [5, 6] (fun i _ wr => ∃ k : Nat, k ≤ a.length ∧ i = .int .i64 k ∧ a.take k = b.take k ∧ Below w.heap.size w wr) (fun i _ _ => a.length - (intOf i).toNat)
    case atStart => exact ⟨0, Nat.zero_le _, rfl, rfl, Below.refl _ _⟩
    case round =>
      obtain ⟨k, hk, rfl, ht, hbl⟩ := hrel
      have HT := hid ht
      have HBl := hid hbl
      clear ht
      by_cases hlt : k < a.length
      · obtain ⟨g, off, xa, x, xc, rfl, hx1, hx2, hx3, hx4⟩ := (HA.out.kp (Kp.of_below hbl)).at hlt
        obtain ⟨g', off', ya, y, yc, rfl, hy1, hy2, hy3, hy4⟩ := (HB.out.kp (Kp.of_below hbl)).at (k := k) (by omega)
        have HX := hid hx1
        have HY := hid hy1
        have HXi := hid hx3
        have HYi := hid hy3
        have hlt' : k < b.length := by omega
        clear hx1 hy1 hx3 hy3 hbl
        by_cases hxy : x.length = y.length
        · as_aux_lemma =>
            have hne : ((x.length : Int) != y.length) = false := by simp; omega
            have HXY := hid hxy
            clear hxy
            go_wp2
            go_region
            go_wp2
            go_loopw [6] (fun j wc => ∃ m : Nat, m ≤ x.length ∧ j = .int .i64 m ∧ x.take m = y.take m ∧ Below w.heap.size w wc) (fun j _ => x.length - (intOf j).toNat)
            case atStart => exact ⟨0, Nat.zero_le _, rfl, rfl, HBl.out.drew⟩
            case round =>
              obtain ⟨m, hm, rfl, ht, hbl⟩ := hrel
              have HTm := hid ht
              have HBm := hid hbl
              obtain ⟨_, _, xa', x', xc', e1, hx1, hx2, hx3, _⟩ := (HA.out.kp (Kp.of_below hbl)).at hlt
              obtain ⟨_, _, ya', y', yc', e2, hy1, hy2, hy3, _⟩ := (HB.out.kp (Kp.of_below hbl)).at (k := k) (by omega)
              rw [HX.out] at hx1
              rw [HY.out] at hy1
              cases hx1
              cases hy1
              cases e1
              cases e2
              by_cases hml : m < x.length
              · as_aux_lemma =>
                  obtain ⟨gx, ox, p, rfl, hp1, hp2, hp3, hp4⟩ := hx3.at hml
                  obtain ⟨gy, oy, q, rfl, hq1, hq2, hq3, hq4⟩ := hy3.at (k := m) (by rw [← HXY.out]; exact hml)
                  have hmy : m < y.length := by rw [← HXY.out]; exact hml
                  have HP := hid hp1
                  have HQ := hid hq1
                  clear hp1 hq1 hx3 hy3 ht hbl
                  by_cases hpq : p = q
                  · as_aux_lemma =>
                      subst hpq
                      have HE : Hid (x.take (m + 1) = y.take (m + 1)) := by show _ = _; rw [take_get HP.out, take_get HQ.out, HTm.out]
                      have hd : (p != p) = false := by simp
                      go_wp2
                      go_region
                      go_wp2
                      go_roundw
                      case rel => exact ⟨m + 1, hml, by go_num, HE.out, HBm.out.drew⟩
                      case measure => simp only [intOf]; omega
                  · as_aux_lemma =>
                      have hd : (p != q) = true := by simpa using hpq
                      have HE : Hid (decide (a = b) = false) := decide_eq_false (by
                        rintro rfl
                        have h1 := HX.out.symm.trans HY.out
                        simp at h1
                        subst h1
                        have h2 := HP.out.symm.trans HQ.out
                        simp at h2
                        exact hpq h2)
                      clear hpq
                      go_wp2
                      go_region
                      go_wp2
                      go_ret
                      exact ⟨ret1b HE.out.symm, HBm.out.drew⟩
              · as_aux_lemma =>
                  have hmx : m = x.length := by omega
                  have HE : Hid (a.take (k + 1) = b.take (k + 1)) := by
                    have h9 := HTm.out
                    rw [List.take_of_length_le (by omega), List.take_of_length_le (by rw [← HXY.out]; omega)] at h9
                    show _ = _
                    rw [take_get HX.out, take_get HY.out, HT.out, h9]
                  subst hmx
                  clear ht hbl hx3 hy3
                  go_wp2
                  go_roundw
                  case rel => exact ⟨k + 1, hlt, by go_num, HE.out, HBm.out⟩
                  case measure => simp only [intOf]; omega
        · as_aux_lemma =>
            have hne : ((x.length : Int) != y.length) = true := by simp; omega
            have HE : Hid (decide (a = b) = false) := decide_eq_false (by
              rintro rfl
              have h1 := HX.out.symm.trans HY.out
              simp at h1
              subst h1
              exact hxy rfl)
            clear hxy
            go_wp2
            go_region
            go_wp2
            go_ret
            exact ⟨ret1b HE.out.symm, HBl.out.drew⟩
      · have hk' : k = a.length := by omega
        have HE : Hid (decide (a = b) = true) := by
          have h9 := HT.out
          rw [List.take_of_length_le (by omega), List.take_of_length_le (by have := HL.out; omega)] at h9
          exact decide_eq_true h9
        go_wp2
        go_ret
        exact ⟨ret1b HE.out.symm, hbl⟩
  · have hne : ((a.length : Int) != b.length) = true := by rw [bne_iff_ne]; omega
    have HE : Hid (decide (a = b) = false) := decide_eq_false (fun h => hl (by rw [h]))
    go_enter Try.func13, Try.ntmps13
    go_wp2
    go_ret
    exact ⟨ret1b HE.out.symm, Below.refl _ _⟩

end Go.Proofs.Ytmokokhhheonoaa

/- The examples of layer 14 come out true. -/
namespace Go.Proofs.Ytmokokhhheonoaa
open Go.RowKit Go.Maps Go.BigFrame

/-- Rows laid one behind the other. -/
def lits14 : World → List (List Int) → World × List Value
  | w, [] => (w, [])
  | w, x :: r => ((lits14 (w.alloc (.cells (x.map I64).toArray 3)) r).1, .slice (some ⟨w.heap.size, 0, none⟩) x.length x.length :: (lits14 (w.alloc (.cells (x.map I64).toArray 3)) r).2)

theorem lits14_ok : ∀ (l : List (List Int)) (w : World), (∀ x, x ∈ l → ZI x ∧ x.length ≤ 1000) → Below w.heap.size w (lits14 w l).1 ∧ (lits14 w l).2.length = l.length ∧ ∀ (j : Nat) (u : Value) (x : List Int), (lits14 w l).2[j]? = some u → l[j]? = some x → Is (lits14 w l).1 u x
  | [], w, _ => ⟨Below.refl _ _, rfl, fun j u x hu => by simp [lits14] at hu⟩
  | x :: r, w, h => by
    obtain ⟨h1, h2, h3⟩ := lits14_ok r (w.alloc (.cells (x.map I64).toArray 3)) (fun y hy => h y (by simp [hy]))
    refine ⟨below_step (below_alloc _) h1, by simp [lits14, h2], fun j u y hu hy => ?_⟩
    cases j with
    | zero =>
      simp only [lits14, List.getElem?_cons_zero, Option.some.injEq] at hu hy
      subst hu hy
      have hz := h x (by simp)
      exact (is_new w x 3 (fun y hy => by obtain ⟨k, hk⟩ := List.getElem?_of_mem hy; exact hz.1 k y hk) hz.2).kp (Kp.of_below h1)
    | succ j =>
      simp only [lits14, List.getElem?_cons_succ] at hu hy
      exact h3 j u y hu hy

theorem lits14_rs (l : List (List Int)) (w : World) (h : ∀ x, x ∈ l → ZI x ∧ x.length ≤ 1000) (hl : l.length ≤ 1000) : Rs ((lits14 w l).1.alloc (.cells (lits14 w l).2.toArray 26)) (.slice (some ⟨(lits14 w l).1.heap.size, 0, none⟩) l.length l.length) l ∧ Below w.heap.size w ((lits14 w l).1.alloc (.cells (lits14 w l).2.toArray 26)) := by
  obtain ⟨h1, h2, h3⟩ := lits14_ok l w h
  refine ⟨⟨_, l.length, rfl, Nat.le_refl _, by unfold maxLen; omega, fun _ => ⟨(lits14 w l).1.heap.size, 0, rfl, by simp, fun k x hk => ?_⟩⟩, below_step h1 (below_alloc _)⟩
  have hkl := (List.getElem?_eq_some_iff.1 hk).1
  refine ⟨by have := (h x (List.mem_of_getElem? hk)).2; omega, (lits14 w l).2[k]'(by omega), ?_, (h3 k _ x (List.getElem?_eq_getElem (by omega)) hk).kp (Kp.of_below (below_alloc _))⟩
  rw [Nat.zero_add, Nat.mul_one, cell_of_row _ _ _ _ _ _ (heap_alloc_new _ _)]
  simp [h2, hkl]

theorem zi_small {l : List (List Int)} (h : l.all (fun x => x.all (fun y => decide (-100 ≤ y) && decide (y ≤ 100)) && decide (x.length ≤ 1000)) = true) : ∀ x, x ∈ l → ZI x ∧ x.length ≤ 1000 := fun x hx => by
  have h1 := List.all_eq_true.1 h x hx
  rw [Bool.and_eq_true] at h1
  refine ⟨fun k y hk => ?_, of_decide_eq_true h1.2⟩
  have h2 := List.all_eq_true.1 h1.1 y (List.mem_of_getElem? hk)
  rw [Bool.and_eq_true] at h2
  have a := of_decide_eq_true h2.1
  have b := of_decide_eq_true h2.2
  omega

/-- What Parts answers is read as the parts. -/
theorem PO14.rs {w0 w : World} {G : List (List Int)} {v : Value} {vs : List Value} {Ps : List (List Nat)} (h : PO14 w0 w G v vs Ps) (hG : G.length ≤ 4096) : Rs w v ((partsG G).map natL) := by
  obtain ⟨h1, h2, h3, _, h5⟩ := h
  have e := h5.eq
  subst e
  have hr := rs_of_own (l := (partsG G).map natL) (by rw [List.length_map]; exact h1) h3 (fun t ht => by
    obtain ⟨P, hP, rfl⟩ := List.mem_map.1 ht
    rw [natL_len]
    obtain ⟨i, _, hk, hr⟩ := h5.part P hP
    have := nodup_few (n := G.length) (xs := P) (hr.imp fun h => by omega) (fun x hx => (wy_lt ((hk x).1 hx).1).2)
    omega)
  exact hr

set_option maxRecDepth 100000 in
set_option maxHeartbeats 3200000 in
theorem shown14_any (w : World) : Calls Try.prog 9 #[] w fun e w' => e = .returned (.bool true) ∧ Below w.heap.size w w' := by
  have L1 := fun w => lits14_rs [[1], [2], [0, 3], [3], [0]] w (zi_small (by decide)) (by decide)
  have L2 := fun w => lits14_rs [[3, -1, 9], [2], [1], [0]] w (zi_small (by decide)) (by decide)
  have L3 := fun w => lits14_rs [[1], [2], []] w (zi_small (by decide)) (by decide)
  have L4 := fun w => lits14_rs [[0]] w (zi_small (by decide)) (by decide)
  have L5 := fun w => lits14_rs [[0, 1, 2], [3]] w (zi_small (by decide)) (by decide)
  have L6 := fun w => lits14_rs [[0, 3], [1, 2]] w (zi_small (by decide)) (by decide)
  simp only [lits14, I64, List.map_cons, List.map_nil, List.length_cons, List.length_nil, World.size_alloc, Nat.zero_add, Nat.reduceAdd] at L1 L2 L3 L4 L5 L6
  have H1 := hid L1
  have H2 := hid L2
  have H3 := hid L3
  have H4 := hid L4
  have H5 := hid L5
  have H6 := hid L6
  clear L1 L2 L3 L4 L5 L6
  go_enter Try.func9, Try.ntmps9
  go_wp2_with fail
  refine (parts_any14 (H1.out w).1 (by decide)).mono ?_
  rintro e w1 ⟨va, _, _, rfl, ha⟩
  have HA := hid (ha.rs (by decide))
  have B1 := hid (below_step (H1.out w).2 ha.2.2.2.1)
  clear ha
  rw [ex14_1] at HA
  go_wp2_with fail
  refine (parts_any14 (H2.out w1).1 (by decide)).mono ?_
  rintro e w2 ⟨vb, _, _, rfl, hb⟩
  have HB := hid (hb.rs (by decide))
  have C2 := hid (below_step (H2.out w1).2 hb.2.2.2.1)
  have B2 := hid (below_step B1.out C2.out)
  have HA2 := hid (HA.out.kp (Kp.of_below C2.out))
  clear hb HA C2 B1
  rw [ex14_2] at HB
  go_wp2_with fail
  refine (parts_any14 (H3.out w2).1 (by decide)).mono ?_
  rintro e w3 ⟨vc, _, _, rfl, hc⟩
  have HC := hid (hc.rs (by decide))
  have C3 := hid (below_step (H3.out w2).2 hc.2.2.2.1)
  have B3 := hid (below_step B2.out C3.out)
  have HA3 := hid (HA2.out.kp (Kp.of_below C3.out))
  have HB3 := hid (HB.out.kp (Kp.of_below C3.out))
  clear hc HA2 HB C3 B2
  rw [ex14_3] at HC
  obtain ⟨co, cc, hvc, _⟩ := Row.flat HC.out
  have hvc2 : vc = .slice co 0 cc := hvc
  clear hvc
  subst hvc2
  go_wp2_with fail
  refine (parts_any14 (H4.out w3).1 (by decide)).mono ?_
  rintro e w4 ⟨vd, _, _, rfl, hd⟩
  have HD := hid (hd.rs (by decide))
  have C4 := hid (below_step (H4.out w3).2 hd.2.2.2.1)
  have B4 := hid (below_step B3.out C4.out)
  have HA4 := hid (HA3.out.kp (Kp.of_below C4.out))
  have HB4 := hid (HB3.out.kp (Kp.of_below C4.out))
  clear hd HA3 HB3 C4 B3 HC
  rw [ex14_4] at HD
  go_wp2_with fail
  refine (same14_any _ _ _ _ _ (HA4.out.kp (Kp.of_below (H5.out w4).2)) (H5.out w4).1).mono ?_
  rintro e w5 ⟨rfl, hb5⟩
  have C5 := hid (below_step (H5.out w4).2 hb5)
  have B5 := hid (below_step B4.out C5.out)
  have HB5 := hid (HB4.out.kp (Kp.of_below C5.out))
  have HD5 := hid (HD.out.kp (Kp.of_below C5.out))
  rw [show decide (List.map natL [[0, 1, 2], [3]] = [[0, 1, 2], [3]]) = true by decide]
  clear hb5 HA4 HB4 HD C5 B4
  go_wp2_with fail
  refine (same14_any _ _ _ _ _ (HB5.out.kp (Kp.of_below (H6.out w5).2)) (H6.out w5).1).mono ?_
  rintro e w6 ⟨rfl, hb6⟩
  have C6 := hid (below_step (H6.out w5).2 hb6)
  have B6 := hid (below_step B5.out C6.out)
  have HD6 := hid (HD5.out.kp (Kp.of_below C6.out))
  rw [show decide (List.map natL [[0, 3], [1, 2]] = [[0, 3], [1, 2]]) = true by decide]
  clear hb6 HB5 HD5 C6 B5
  go_wp2_with fail
  refine (same14_any _ _ _ _ _ (HD6.out.kp (Kp.of_below (H4.out w6).2)) (H4.out w6).1).mono ?_
  rintro e w7 ⟨rfl, hb7⟩
  have B7 := hid (below_step B6.out (below_step (H4.out w6).2 hb7))
  rw [show decide (List.map natL [[0]] = [[0]]) = true by decide]
  clear hb7 HD6 B6
  go_wp2
  go_ret
  exact ⟨rfl, B7.out⟩

end Go.Proofs.Ytmokokhhheonoaa

/- Nodes without a circle can be taken away one by one, plainly. -/
namespace Go.Proofs.Ytmokokhhheonoaa

/-- Among nodes that lie on no circle there is one from which no edge leads to one of them. -/
theorem sink14 {E : Nat → Nat → Prop} {n : Nat} {S : Nat → Prop} (hS : ∀ i, S i → i < n) (hc : ∀ i, S i → ¬ Wy E i i) {i0 : Nat} (h0 : S i0) : ∃ i, S i ∧ ∀ k, S k → ¬ E i k := by
  refine Classical.byContradiction fun hno => ?_
  have hf : ∀ i, ∃ k, S i → S k ∧ E i k := fun i => by
    by_cases hi : S i
    · refine Classical.byContradiction fun h => hno ⟨i, hi, fun k hk he => h ⟨k, fun _ => ⟨hk, he⟩⟩⟩
    · exact ⟨0, fun h => absurd h hi⟩
  obtain ⟨f, hf⟩ := Classical.axiomOfChoice hf
  obtain ⟨s, hs0, hs1⟩ : ∃ s : Nat → Nat, s 0 = i0 ∧ ∀ j, s (j + 1) = f (s j) := ⟨fun j => Nat.rec i0 (fun _ x => f x) j, rfl, fun j => rfl⟩
  have hs : ∀ j, S (s j) := fun j => by
    induction j with
    | zero => rw [hs0]; exact h0
    | succ j ih => rw [hs1]; exact (hf _ ih).1
  have he : ∀ j, E (s j) (s (j + 1)) := fun j => by rw [hs1]; exact (hf _ (hs j)).2
  have hw : ∀ a d, Wy E (s a) (s (a + d + 1)) := fun a d => by
    induction d with
    | zero => exact .one (he a)
    | succ d ih => exact ih.trans (.one (he (a + d + 1)))
  have hnd : ((List.range (n + 1)).map s).Nodup := by
    rw [List.Nodup, List.pairwise_map]
    refine List.Pairwise.imp (fun {a b} hab e => ?_) List.pairwise_lt_range
    have := hw a (b - a - 1)
    rw [show a + (b - a - 1) + 1 = b by omega, ← e] at this
    exact hc _ (hs a) this
  have := nodup_few (n := n) hnd (fun x hx => by
    obtain ⟨j, _, rfl⟩ := List.mem_map.1 hx
    exact hS _ (hs j))
  simp at this
  omega

/-- Whether a node can be taken away from those that are left. -/
def freeB (G : List (List Int)) (L : Nat → Bool) (i : Nat) : Bool := L i && (G.getD i []).all fun x => !(decide (0 ≤ x) && decide (x < (G.length : Int)) && L x.toNat)

def offB (L : Nat → Bool) (i : Nat) : Nat → Bool := fun k => if k = i then false else L k

/-- One turn through the nodes below k. -/
def passB (G : List (List Int)) (L : Nat → Bool) : Nat → Nat → Bool
  | 0 => L
  | k + 1 => if freeB G (passB G L k) k then offB (passB G L k) k else passB G L k

theorem pass_le (G : List (List Int)) (L : Nat → Bool) : ∀ (k i : Nat), passB G L k i = true → L i = true
  | 0, _, h => h
  | k + 1, i, h => by
    unfold passB at h
    split at h
    · unfold offB at h
      split at h
      · cases h
      · exact pass_le G L k i h
    · exact pass_le G L k i h

theorem pass_same (G : List (List Int)) (L : Nat → Bool) : ∀ (k i : Nat), k ≤ i → passB G L k i = L i
  | 0, _, _ => rfl
  | k + 1, i, h => by
    unfold passB
    split
    · unfold offB
      rw [if_neg (by omega)]
      exact pass_same G L k i (by omega)
    · exact pass_same G L k i (by omega)

theorem pass_off (G : List (List Int)) (L : Nat → Bool) {i : Nat} : ∀ (k : Nat), i < k → freeB G L i = true → passB G L k i = false
  | k + 1, hk, h => by
    by_cases e : i = k
    · subst e
      have hf : freeB G (passB G L i) i = true := by
        unfold freeB at h ⊢
        rw [Bool.and_eq_true] at h ⊢
        refine ⟨by rw [pass_same G L i i (Nat.le_refl _)]; exact h.1, ?_⟩
        rw [List.all_eq_true] at h ⊢
        intro x hx
        have hx2 := h.2 x hx
        simp only [Bool.not_eq_true', Bool.and_eq_false_iff, decide_eq_false_iff_not] at hx2 ⊢
        rcases hx2 with hx2 | hx2
        · exact .inl hx2
        · right
          cases hp : passB G L i x.toNat with
          | false => rfl
          | true => rw [pass_le G L i _ hp] at hx2; cases hx2
      unfold passB
      rw [if_pos hf]
      simp [offB]
    · have ih := pass_off G L k (by omega) h
      unfold passB
      split
      · unfold offB
        rw [if_neg e]
        exact ih
      · exact ih

/-- Where nodes without a circle are left, a turn takes one away. -/
theorem pass_less {G : List (List Int)} {L : Nat → Bool} (hL : ∀ i, L i = true → i < G.length ∧ ¬ Wy (Ed G) i i) {i0 : Nat} (h0 : L i0 = true) : ∃ i, i < G.length ∧ L i = true ∧ passB G L G.length i = false := by
  obtain ⟨i, hi, hk⟩ := sink14 (E := Ed G) (n := G.length) (S := fun i => L i = true) (fun i h => (hL i h).1) (fun i h => (hL i h).2) h0
  refine ⟨i, (hL i hi).1, hi, pass_off G L _ (hL i hi).1 ?_⟩
  unfold freeB
  rw [Bool.and_eq_true, List.all_eq_true]
  refine ⟨hi, fun x hx => ?_⟩
  simp only [Bool.not_eq_true', Bool.and_eq_false_iff, decide_eq_false_iff_not]
  by_cases hin : 0 ≤ x ∧ x < (G.length : Int)
  · right
    cases hLx : L x.toNat with
    | false => rfl
    | true =>
      refine absurd ?_ (hk x.toNat hLx)
      have hil := (hL i hi).1
      rw [List.getD_eq_getElem?_getD, List.getElem?_eq_getElem hil] at hx
      exact ⟨_, List.getElem?_eq_getElem hil, by rw [Int.toNat_of_nonneg hin.1]; exact hx, by omega⟩
  · left
    by_cases h1 : 0 ≤ x
    · exact .inr (fun h => hin ⟨h1, h⟩)
    · exact .inl h1

/-- How many nodes are left. -/
def cntT (L : Nat → Bool) : Nat → Nat
  | 0 => 0
  | n + 1 => cntT L n + (if L n then 1 else 0)

theorem cntT_le (L : Nat → Bool) : ∀ n, cntT L n ≤ n
  | 0 => Nat.le_refl _
  | n + 1 => by
    have := cntT_le L n
    unfold cntT
    split <;> omega

theorem cntT_congr {L M : Nat → Bool} : ∀ n, (∀ i, i < n → L i = M i) → cntT L n = cntT M n
  | 0, _ => rfl
  | n + 1, h => by
    unfold cntT
    rw [cntT_congr n (fun i hi => h i (by omega)), h n (by omega)]

theorem cntT_all (n : Nat) {L : Nat → Bool} (h : ∀ i, i < n → L i = true) : cntT L n = n := by
  induction n with
  | zero => rfl
  | succ n ih =>
    unfold cntT
    rw [ih (fun i hi => h i (by omega)), h n (by omega)]
    simp

theorem cntT_off {L : Nat → Bool} {k : Nat} : ∀ n, k < n → L k = true → cntT (offB L k) n + 1 = cntT L n
  | n + 1, hk, h => by
    unfold cntT
    by_cases e : k = n
    · subst e
      rw [cntT_congr k (M := L) (fun i hi => by unfold offB; rw [if_neg (by omega)])]
      simp [offB, h]
    · have := cntT_off n (by omega) h
      have e2 : offB L k n = L n := by unfold offB; rw [if_neg (by omega)]
      rw [e2]
      omega

theorem cntT_pos {L : Nat → Bool} : ∀ {n}, 0 < cntT L n → ∃ k, k < n ∧ L k = true
  | 0, h => by simp [cntT] at h
  | n + 1, h => by
    cases hn : L n with
    | true => exact ⟨n, by omega, hn⟩
    | false =>
      unfold cntT at h
      rw [hn] at h
      obtain ⟨k, hk, h2⟩ := cntT_pos (n := n) (by simpa using h)
      exact ⟨k, by omega, h2⟩

theorem cntT_mono {L M : Nat → Bool} (h : ∀ i, M i = true → L i = true) : ∀ n, cntT M n ≤ cntT L n
  | 0 => Nat.le_refl _
  | n + 1 => by
    have := cntT_mono h n
    unfold cntT
    cases hM : M n with
    | true => rw [h n hM]; simp; omega
    | false => cases hLn : L n <;> simp <;> omega

theorem cntT_lt {L M : Nat → Bool} (h : ∀ i, M i = true → L i = true) {k : Nat} : ∀ n, k < n → L k = true → M k = false → cntT M n < cntT L n
  | n + 1, hk, h1, h2 => by
    unfold cntT
    by_cases e : k = n
    · subst e
      have := cntT_mono h k
      rw [h1, h2]
      simp
      omega
    · have := cntT_lt h n (by omega) h1 h2
      cases hM : M n with
      | true => rw [h n hM]; simp; omega
      | false => cases hLn : L n <;> simp <;> omega

/-- A turn leaves fewer. -/
theorem pass_cnt {G : List (List Int)} {L : Nat → Bool} (hL : ∀ i, L i = true → i < G.length ∧ ¬ Wy (Ed G) i i) (h : 0 < cntT L G.length) : cntT (passB G L G.length) G.length < cntT L G.length := by
  obtain ⟨i0, _, h0⟩ := cntT_pos h
  obtain ⟨i, h1, h2, h3⟩ := pass_less hL h0
  exact cntT_lt (fun j hj => pass_le G L _ j hj) _ h1 h2 h3

end Go.Proofs.Ytmokokhhheonoaa

/- A row of bools of one's own, written one by one. -/
namespace Go.Proofs.Ytmokokhhheonoaa
open Go.RowKit Go.Maps Go.BigFrame

def lfA (n : Nat) (L : Nat → Bool) : Array Value := ((List.range n).map fun i => Value.bool (L i)).toArray

def updB14 (L : Nat → Bool) (k : Nat) (b : Bool) : Nat → Bool := fun i => if i = k then b else L i

theorem lfA_get {n k : Nat} (L : Nat → Bool) (h : k < n) : (lfA n L)[k]? = some (.bool (L k)) := by simp [lfA, h]

theorem lfA_set (n k : Nat) (L : Nat → Bool) (b : Bool) : (lfA n L).setIfInBounds k (.bool b) = lfA n (updB14 L k b) := by
  apply Array.ext'
  apply List.ext_getElem?
  intro i
  unfold lfA
  simp only [Array.toList_setIfInBounds]
  by_cases h : i < n
  · by_cases e : i = k
    · subst e
      rw [List.getElem?_set_self (by simpa using h)]
      simp [h, updB14]
    · rw [List.getElem?_set_ne (fun h2 => e h2.symm)]
      simp [h, updB14, e]
  · rw [List.getElem?_eq_none (by simp; omega), List.getElem?_eq_none (by simp; omega)]

structure Lf14 (w0 w : World) (g n : Nat) (L : Nat → Bool) : Prop where
  bel : Below w0.heap.size w0 w
  base : w0.heap.size ≤ g
  blk : w.heap[g]? = some (.cells (lfA n L) 4 (0, 0))

theorem Lf14.at {w0 w : World} {g n k : Nat} {L : Nat → Bool} (h : Lf14 w0 w g n L) (hk : k < n) : w.cell? ⟨g, k, none⟩ = some (.bool (L k)) ∧ w.frozen? ⟨g, k, none⟩ = false :=
  ⟨by rw [cell_of_row w g k _ _ _ h.blk]; exact lfA_get L hk, frozen_of_row w g k _ _ h.blk⟩

theorem Lf14.put {w0 w : World} {g n : Nat} {L : Nat → Bool} (h : Lf14 w0 w g n L) (k : Nat) (b : Bool) : Lf14 w0 (w.setCell ⟨g, k, none⟩ (.bool b)) g n (updB14 L k b) :=
  ⟨h.bel.setCell (p := ⟨g, k, none⟩) h.base _, h.base, by rw [heap_setCell_same w g k _ _ _ h.blk, lfA_set]⟩

theorem info_bool14 : (Try.prog.info? 4).map (fun i => (i.zero, i.size, i.bytes)) = some (some (.bool false), 1, 1) := by kernel_rfl

theorem under_bools14 : Try.prog.underlying 28 = some (.slice 4) := by kernel_rfl

theorem run_makeL14 (w : World) (n : Nat) (hn : n ≤ 1048576) : (Instr.makeSlice 28 (.int .i64 (n : Int)) (.int .i64 (n : Int))).run Try.prog w = .ok (.slice (some ⟨w.heap.size, 0, none⟩) n n) (w.alloc (.cells (lfA n fun _ => false) 4)) := by
  obtain ⟨i0, hi, hz0, hz1, hz2⟩ := info_parts info_bool14
  have h := run_make (P := Try.prog) w 28 4 i0 (.bool false) under_bools14 hi hz0 .i64 .i64 (n : Int) (n : Int) (by omega) (Int.le_refl _) (by rw [hz2]; omega) (by omega)
  rw [hz1, Int.toNat_natCast] at h
  have e : madeCells (Value.bool false).cells (n * 1) = lfA n fun _ => false := by
    apply Array.ext'
    have : (Value.bool false).cells = #[Value.bool false] := rfl
    rw [this, toList_madeCells_one]
    unfold lfA
    simp [List.map_const']
  rw [e] at h
  exact h

theorem Lf14.new (w : World) (n : Nat) : Lf14 w (w.alloc (.cells (lfA n fun _ => false) 4)) w.heap.size n (fun _ => false) :=
  ⟨below_alloc _, Nat.le_refl _, heap_alloc_new _ _⟩

end Go.Proofs.Ytmokokhhheonoaa

/- GraphCircles: what is in no part lies on no circle. -/
namespace Go.Proofs.Ytmokokhhheonoaa
open Go.RowKit Go.Maps Go.BigFrame

theorem offB_eq (L : Nat → Bool) (k : Nat) : updB14 L k false = offB L k := rfl

def chk14 (G : List (List Int)) (M : Nat → Bool) (x : Int) : Bool := !(decide (0 ≤ x) && decide (x < (G.length : Int)) && M x.toNat)

/-- Who is left behind some nodes. -/
def lefB (n : Nat) (D : List Nat) : Nat → Bool := fun i => decide (i < n) && !decide (i ∈ D)

theorem lefB_off (n : Nat) (D : List Nat) (k : Nat) : offB (lefB n D) k = lefB n (D ++ [k]) := by
  funext i
  unfold offB lefB
  by_cases e : i = k
  · simp [e]
  · simp [e]

/-- The nodes of parts, in their order, as far as the place m of the part j. -/
def told14 (Ps : List (List Nat)) (j m : Nat) : List Nat := (Ps.take j).flatten ++ ((Ps[j]?).getD []).take m

theorem told_row14 {Ps : List (List Nat)} {j : Nat} {P : List Nat} (h : Ps[j]? = some P) : told14 Ps j P.length = told14 Ps (j + 1) 0 := by
  unfold told14
  rw [h, take_get h]
  simp

theorem told_step14 {Ps : List (List Nat)} {j m x : Nat} {P : List Nat} (h : Ps[j]? = some P) (hx : P[m]? = some x) : told14 Ps j (m + 1) = told14 Ps j m ++ [x] := by
  unfold told14
  rw [h, Option.getD_some, take_get hx, List.append_assoc]

/-- No node is told twice. -/
theorem told_new14 {G : List (List Int)} {j m x : Nat} {P : List Nat} (h : (partsG G)[j]? = some P) (hx : P[m]? = some x) : x < G.length ∧ x ∉ told14 (partsG G) j m := by
  have hp := partsB_is G
  have hPm : P ∈ partsB G G.length := List.mem_of_getElem? h
  obtain ⟨a, _, hm, hr⟩ := hp.part P hPm
  have hxP := (hm x).1 (List.mem_of_getElem? hx)
  refine ⟨(wy_lt hxP.1).2, fun ht => ?_⟩
  unfold told14 at ht
  rw [h, Option.getD_some, List.mem_append] at ht
  rcases ht with ht | ht
  · obtain ⟨Q, hQ, hxQ⟩ := List.mem_flatten.1 ht
    obtain ⟨i, hi⟩ := List.getElem?_of_mem hQ
    rw [List.getElem?_take] at hi
    split at hi
    · rename_i hij
      obtain ⟨b, _, hn, hrQ⟩ := hp.part Q (List.mem_of_getElem? hi)
      have hxQ2 := (hn x).1 hxQ
      have e : Q = P := rise_ext hrQ hr fun z => by rw [hn, hm]; exact part_same hxQ2.1 hxQ2.2 hxP.1 hxP.2 z
      obtain ⟨hil, e1⟩ := List.getElem?_eq_some_iff.1 hi
      obtain ⟨hjl, e2⟩ := List.getElem?_eq_some_iff.1 h
      have hri := List.pairwise_iff_getElem.1 hp.rise i j hil hjl hij
      have e1' : (partsB G G.length)[i] = Q := e1
      have e2' : (partsB G G.length)[j] = P := e2
      rw [e1', e2', e] at hri
      have hne := hp.ne hPm
      cases P with
      | nil => exact hne rfl
      | cons p ps => exact absurd (hri p p rfl rfl) (by omega)
    · cases hi
  · obtain ⟨i, hi⟩ := List.getElem?_of_mem ht
    rw [List.getElem?_take] at hi
    split at hi
    · rename_i him
      obtain ⟨hil, e1⟩ := List.getElem?_eq_some_iff.1 hi
      obtain ⟨hml, e2⟩ := List.getElem?_eq_some_iff.1 hx
      have := List.pairwise_iff_getElem.1 hr i m hil hml him
      omega
    · cases hi

/-- Who is left in the end lies on no circle. -/
theorem left_ok {G : List (List Int)} : ∀ i, lefB G.length (told14 (partsG G) (partsG G).length 0) i = true → i < G.length ∧ ¬ Wy (Ed G) i i := fun i h => by
  unfold lefB at h
  simp only [Bool.and_eq_true, decide_eq_true_eq, Bool.not_eq_true', decide_eq_false_iff_not] at h
  refine ⟨h.1, fun hw => h.2 ?_⟩
  obtain ⟨P, hP, hiP⟩ := (partsB_is G).all i hw
  unfold told14
  rw [List.take_length]
  exact List.mem_append_left _ (List.mem_flatten.2 ⟨P, hP, hiP⟩)

set_option maxRecDepth 100000 in
set_option maxHeartbeats 3200000 in
theorem graphCircles_any (v : Value) (G : List (List Int)) (w : World) (h : Rs w v G) :
    Calls Try.prog 4 #[v] w fun e w' => e = .returned (.bool true) ∧ Below w.heap.size w w' := by
  obtain ⟨ao, cap, rfl, hao, hca, _⟩ := Row.flat h
  unfold maxLen at hca
  have HG := hid h
  clear h
  go_enter Try.func4, Try.ntmps4
  go_wp2_with fail
  refine (shown14_any w).mono ?_
  rintro e w1 ⟨rfl, hb1⟩
  have B1 := hid hb1
  clear hb1
  by_cases hbig : 200 < G.length
  · have hd : decide (200 < G.length) = true := by simpa using hbig
    go_wp2
    go_ret
    exact ⟨rfl, B1.out⟩
  · have hd : decide (200 < G.length) = false := by simpa using hbig
    have HRs0 := hid (HG.out.kp (Kp.of_below B1.out))
    go_wp2_with fail
    refine (parts_any14 HRs0.out (by omega)).mono ?_
    rintro e w2 ⟨vl, _, _, rfl, hpl⟩
    have HL := hid (hpl.rs (by omega))
    have B2 := hid (below_step B1.out hpl.2.2.2.1)
    obtain ⟨lo, lc, hvl, hlc, hlm, _⟩ := Row.flat HL.out
    rw [List.length_map] at hvl hlc
    unfold maxLen at hlm
    subst hvl
    clear hpl HRs0
    have hmk := run_makeL14 w2 G.length (by omega)
    have hnw := Lf14.new w2 G.length
    obtain ⟨W, hW⟩ : ∃ X, X = w2.alloc (.cells (lfA G.length fun _ => false) 4) := ⟨_, rfl⟩
    rw [← hW] at hmk hnw
    have HN : Hid (Lf14 w2 W w2.heap.size G.length fun i => decide (i < 0)) := by
      have e : (fun _ => false) = (fun i : Nat => decide (i < 0)) := by funext i; simp
      rw [← e]
      exact hnw
    clear hnw hW
    generalize hg : w2.heap.size = g at hmk HN
    have HRs := hid (HG.out.kp (Kp.of_below B2.out))
    go_wp2
    go_loopw [7] (fun i wr => ∃ k : Nat, k ≤ G.length ∧ i = .int .i64 k ∧ Lf14 w2 wr g G.length fun i => decide (i < k)) (fun i _ => G.length - (intOf i).toNat)
    case atStart => exact ⟨0, Nat.zero_le _, rfl, HN.out⟩
    case round =>
      obtain ⟨k, hk, rfl, hlf⟩ := hrel
      have HB := hid hlf
      clear hlf HN
      by_cases hlt : k < G.length
      · as_aux_lemma =>
          obtain ⟨c1, c2⟩ := HB.out.at hlt
          have h3 := HB.out.put k true
          obtain ⟨W3, hW3⟩ : ∃ X, X = wr.setCell ⟨g, k, none⟩ (.bool true) := ⟨_, rfl⟩
          rw [← hW3] at h3
          have HB3 : Hid (Lf14 w2 W3 g G.length fun i => decide (i < k + 1)) := by
            have e : updB14 (fun i => decide (i < k)) k true = (fun i => decide (i < k + 1)) := by
              funext i
              unfold updB14
              by_cases e : i = k
              · simp [e]
              · rw [if_neg e, decide_eq_decide]; omega
            rw [← e]
            exact h3
          have hw1 : IntKind.i64.wrap ((k : Int) + 1) = ((k + 1 : Nat) : Int) := by rw [IntWalk.i64_in _ ⟨by omega, by omega⟩]; omega
          clear h3
          go_wp2
          rw [← hW3]
          go_roundw
          case rel => exact ⟨k + 1, hlt, by go_num, HB3.out⟩
          case measure => simp only [intOf]; omega
      · have HB1 : Hid (Lf14 w2 wr g G.length (lefB G.length (told14 (partsG G) 0 0))) := by
          have e : (fun i => decide (i < k)) = lefB G.length (told14 (partsG G) 0 0) := by
            funext i
            unfold lefB told14
            have : k = G.length := by omega
            simp [this]
          rw [← e]
          exact HB.out
        have HC1 : Hid (cntT (lefB G.length (told14 (partsG G) 0 0)) G.length = G.length) := cntT_all _ (fun i hi => by simp [lefB, told14, hi])
        obtain rfl : k = G.length := by omega
        clear HB
        go_wp2
        go_loopw [6, 8, 9, 10] (fun nv jv _ _ wr => ∃ j : Nat, j ≤ (partsG G).length ∧ jv = .int .i64 j ∧ nv = .int .i64 (cntT (lefB G.length (told14 (partsG G) j 0)) G.length : Nat) ∧ Lf14 w2 wr g G.length (lefB G.length (told14 (partsG G) j 0))) (fun _ jv _ _ _ => (partsG G).length - (intOf jv).toNat)
        case atStart => exact ⟨0, Nat.zero_le _, rfl, by rw [HC1.out], HB1.out⟩
        case round =>
          obtain ⟨j, hj, rfl, rfl, hlf⟩ := hrel
          have HB := hid hlf
          clear hlf HB1 HC1
          by_cases hjl : j < (partsG G).length
          · as_aux_lemma =>
              obtain ⟨P, hP⟩ : ∃ P, (partsG G)[j]? = some P := ⟨_, List.getElem?_eq_getElem hjl⟩
              have HPj := hid hP
              have HEs : Hid (((partsG G).map natL)[j]? = some (natL P)) := by show _ = _; rw [List.getElem?_map, hP]; rfl
              have hw1 : IntKind.i64.wrap ((j : Int) + 1) = ((j + 1 : Nat) : Int) := by rw [IntWalk.i64_in _ ⟨by omega, by omega⟩]; omega
              have hjm : j < ((partsG G).map natL).length := by rw [List.length_map]; exact hjl
              clear hP
              go_wp2
              go_loopw [6, 9, 10] (fun nv mv _ wr => ∃ m : Nat, m ≤ P.length ∧ mv = .int .i64 m ∧ nv = .int .i64 (cntT (lefB G.length (told14 (partsG G) j m)) G.length : Nat) ∧ Lf14 w2 wr g G.length (lefB G.length (told14 (partsG G) j m))) (fun _ mv _ _ => P.length - (intOf mv).toNat)
              case atStart => exact ⟨0, Nat.zero_le _, rfl, rfl, HB.out⟩
              case round =>
                obtain ⟨m, hm, rfl, rfl, hlf⟩ := hrel
                have HB2 := hid hlf
                clear hlf HB
                obtain ⟨g1, o1, xa, es, xc, rfl, hes, hx2, hx3, hx4⟩ := (HL.out.kp (Kp.of_below HB2.out.bel)).at hjm
                rw [HEs.out] at hes
                cases hes
                rw [natL_len] at hx2 hx3 hx4
                by_cases hml : m < P.length
                · as_aux_lemma =>
                    obtain ⟨x, hx⟩ : ∃ x, P[m]? = some x := ⟨_, List.getElem?_eq_getElem hml⟩
                    have hx3' : Is wr (.slice xa (natL P).length xc) (natL P) := by rw [natL_len]; exact hx3
                    obtain ⟨g2, o2, y, rfl, hy, hy2, _, _⟩ := hx3'.at (k := m) (by rw [natL_len]; exact hml)
                    rw [natL_get hx] at hy
                    cases hy
                    obtain ⟨hxn, hxt⟩ := told_new14 HPj.out hx
                    have hLx : lefB G.length (told14 (partsG G) j m) x = true := by simp [lefB, hxn, hxt]
                    obtain ⟨c1, c2⟩ := HB2.out.at hxn
                    rw [hLx] at c1
                    have h3 := HB2.out.put x false
                    obtain ⟨W3, hW3⟩ : ∃ X, X = wr.setCell ⟨g, x, none⟩ (.bool false) := ⟨_, rfl⟩
                    rw [← hW3, offB_eq, lefB_off, ← told_step14 HPj.out hx] at h3
                    have hcn := cntT_off G.length hxn hLx
                    rw [lefB_off, ← told_step14 HPj.out hx] at hcn
                    have HB3 := hid h3
                    obtain ⟨c, hc⟩ : ∃ c, c = cntT (lefB G.length (told14 (partsG G) j m)) G.length := ⟨_, rfl⟩
                    obtain ⟨c', hc'⟩ : ∃ c', c' = cntT (lefB G.length (told14 (partsG G) j (m + 1))) G.length := ⟨_, rfl⟩
                    rw [← hc, ← hc'] at hcn
                    rw [← hc]
                    have HC' := hid hc'
                    have hcl : c ≤ G.length := by rw [hc]; exact cntT_le _ _
                    have hw2 : IntKind.i64.wrap ((m : Int) + 1) = ((m + 1 : Nat) : Int) := by rw [IntWalk.i64_in _ ⟨by omega, by omega⟩]; omega
                    have hw3 : IntKind.i64.wrap ((c : Int) - 1) = (c' : Int) := by rw [IntWalk.i64_in _ ⟨by omega, by omega⟩]; omega
                    have hd0 : decide ((x : Int) < 0) = false := by simp
                    have hd1 : decide (G.length ≤ x) = false := by simp; omega
                    have HCn := hid hcn
                    clear h3 hx hx3 hx3' hxt hLx hc hc' hcn
                    go_wp2
                    rw [← hW3]
                    go_wp2
                    go_roundw
                    case rel => exact ⟨m + 1, hml, by go_num, by rw [← HC'.out], HB3.out⟩
                    case measure => simp only [intOf]; omega
                · as_aux_lemma =>
                    have hme : m = P.length := by omega
                    have HB3 : Hid (Lf14 w2 wr g G.length (lefB G.length (told14 (partsG G) (j + 1) 0))) := by
                      have h9 := HB2.out
                      rw [hme, told_row14 HPj.out] at h9
                      exact h9
                    have HQ : Hid (cntT (lefB G.length (told14 (partsG G) j m)) G.length = cntT (lefB G.length (told14 (partsG G) (j + 1) 0)) G.length) := by show _ = _; rw [hme, told_row14 HPj.out]
                    rw [HQ.out]
                    clear hme hx3
                    go_wp2
                    go_roundw
                    case rel => exact ⟨j + 1, hjl, by go_num, rfl, HB3.out⟩
                    case measure => simp only [intOf]; omega
          · have HX : Hid (∃ L, Lf14 w2 wr g G.length L ∧ cntT (lefB G.length (told14 (partsG G) j 0)) G.length = cntT L G.length ∧ ∀ i, L i = true → i < G.length ∧ ¬ Wy (Ed G) i i) := by
              have hje : j = (partsG G).length := by omega
              refine ⟨_, HB.out, rfl, ?_⟩
              rw [hje]
              exact left_ok
            clear HB HL
            obtain ⟨L0, hL0, hLc, hLn⟩ := HX.out
            rw [hLc]
            have HL0 := hid hL0
            have HLn := hid hLn
            clear hL0 hLc hLn HX hj
            go_wp2
            clear hjl
            go_loopw [6, 12, 13, 14, 15] (fun nv _ _ _ _ wr => ∃ L, nv = .int .i64 (cntT L G.length : Nat) ∧ Lf14 w2 wr g G.length L ∧ ∀ i, L i = true → i < G.length ∧ ¬ Wy (Ed G) i i) (fun nv _ _ _ _ _ => (intOf nv).toNat)
            case atStart => exact ⟨L0, rfl, HL0.out, HLn.out⟩
            case round =>
              clear HL0 HLn
              obtain ⟨L, rfl, hlf, hln⟩ := hrel
              have HB := hid hlf
              have HN := hid hln
              clear hlf hln
              have hcl := cntT_le L G.length
              obtain ⟨c, hc⟩ : ∃ c, c = cntT L G.length := ⟨_, rfl⟩
              rw [← hc] at hcl ⊢
              have HC := hid hc
              clear hc
              by_cases hpos : 0 < c
              · as_aux_lemma =>
                  have hd0 : decide (0 < c) = true := by simpa using hpos
                  have HLess : Hid (cntT (passB G L G.length) G.length < c) := by
                    show _ < _
                    rw [HC.out]
                    exact pass_cnt HN.out (by rw [← HC.out]; exact hpos)
                  go_wp2
                  go_loopw [6, 12, 13, 14, 15] (fun nv iv _ _ _ wr => ∃ i : Nat, i ≤ G.length ∧ iv = .int .i64 i ∧ nv = .int .i64 (cntT (passB G L i) G.length : Nat) ∧ Lf14 w2 wr g G.length (passB G L i)) (fun _ iv _ _ _ _ => G.length - (intOf iv).toNat)
                  case atStart => exact ⟨0, Nat.zero_le _, rfl, by rw [HC.out]; rfl, HB.out⟩
                  case round =>
                    obtain ⟨i, hi, rfl, rfl, hlf⟩ := hrel
                    have HB2 := hid hlf
                    clear hlf HB
                    by_cases hlt : i < G.length
                    · as_aux_lemma =>
                        obtain ⟨M, hM⟩ : ∃ M, M = passB G L i := ⟨_, rfl⟩
                        rw [← hM] at HB2 ⊢
                        have HM := hid hM
                        clear hM
                        obtain ⟨m, hm⟩ : ∃ m, m = cntT M G.length := ⟨_, rfl⟩
                        rw [← hm]
                        have HMc := hid hm
                        have hmn : m ≤ G.length := by rw [hm]; exact cntT_le _ _
                        clear hm
                        obtain ⟨g1, o1, xa, es, xc, rfl, hes, hx2, hx3, hx4⟩ := (HRs.out.kp (Kp.of_below HB2.out.bel)).at hlt
                        have HEs := hid hes
                        have HXi := hid hx3
                        obtain ⟨c1, c2⟩ := HB2.out.at hlt
                        have hw1 : IntKind.i64.wrap ((i : Int) + 1) = ((i + 1 : Nat) : Int) := by rw [IntWalk.i64_in _ ⟨by omega, by omega⟩]; omega
                        have HFr : Hid (freeB G M i = (M i && es.all (chk14 G M))) := by show _ = _; unfold freeB; rw [List.getD_eq_getElem?_getD, HEs.out]; rfl
                        clear hes hx3
                        go_wp2
                        go_loopw [13, 14, 15] (fun fv kv _ wc => ∃ k : Nat, k ≤ es.length ∧ kv = .int .i64 k ∧ fv = .bool (M i && (es.take k).all (chk14 G M)) ∧ wc = wr) (fun _ kv _ _ => es.length - (intOf kv).toNat)
                        case atStart => exact ⟨0, Nat.zero_le _, rfl, by simp, rfl⟩
                        case round =>
                          obtain ⟨k, hk, rfl, rfl, hw⟩ := hrel
                          subst hw
                          obtain ⟨F, hF⟩ : ∃ F, F = (M i && (es.take k).all (chk14 G M)) := ⟨_, rfl⟩
                          rw [← hF]
                          have HF := hid hF
                          clear hF
                          by_cases hgo : k < es.length ∧ F = true
                          · as_aux_lemma =>
                              obtain ⟨hkl, rfl⟩ := hgo
                              obtain ⟨g2, o2, t, rfl, ht, ht2, ht3, ht4⟩ := HXi.out.at hkl
                              have hw2 : IntKind.i64.wrap ((k : Int) + 1) = ((k + 1 : Nat) : Int) := by rw [IntWalk.i64_in _ ⟨by omega, by omega⟩]; omega
                              have HF2 : Hid ((M i && (es.take (k + 1)).all (chk14 G M)) = chk14 G M t) := by
                                show _ = _
                                rw [take_get ht, List.all_append, ← Bool.and_assoc, ← HF.out]
                                simp
                              clear ht
                              by_cases hneg : t < 0
                              · have hd1 : decide (t < 0) = true := by simpa using hneg
                                have HQ : Hid (chk14 G M t = true) := by show _ = _; unfold chk14; simp; omega
                                clear hneg
                                go_wp2
                                go_roundw
                                case rel => exact ⟨k + 1, hkl, by go_num, by rw [HF2.out, HQ.out], trivial⟩
                                case measure => simp only [intOf]; omega
                              · obtain ⟨x, rfl⟩ : ∃ x : Nat, t = (x : Int) := ⟨t.toNat, by omega⟩
                                have hd1 : decide ((x : Int) < 0) = false := by simp
                                clear hneg
                                by_cases hxn : G.length ≤ x
                                · have hd2 : decide (G.length ≤ x) = true := by simpa using hxn
                                  have HQ : Hid (chk14 G M (x : Int) = true) := by show _ = _; unfold chk14; simp; omega
                                  go_wp2
                                  go_roundw
                                  case rel => exact ⟨k + 1, hkl, by go_num, by rw [HF2.out, HQ.out], trivial⟩
                                  case measure => simp only [intOf]; omega
                                · have hxl : x < G.length := by omega
                                  have hd2 : decide (G.length ≤ x) = false := by simp; omega
                                  obtain ⟨d1, d2⟩ := HB2.out.at hxl
                                  have HQ : Hid (chk14 G M (x : Int) = !M x) := by show _ = _; unfold chk14; simp [hxl]
                                  go_wp2
                                  go_roundw
                                  case rel => exact ⟨k + 1, hkl, by go_num, by rw [HF2.out, HQ.out], trivial⟩
                                  case measure => simp only [intOf]; omega
                          · as_aux_lemma =>
                              have HE : Hid (F = freeB G M i) := by
                                show _ = _
                                rw [HFr.out]
                                by_cases hke : k < es.length
                                · have hFf : F = false := by cases F; rfl; exact absurd ⟨hke, rfl⟩ hgo
                                  have h9 := HF.out
                                  rw [hFf] at h9 ⊢
                                  have e : es.all (chk14 G M) = ((es.take k).all (chk14 G M) && (es.drop k).all (chk14 G M)) := by rw [← List.all_append, List.take_append_drop]
                                  rw [e, ← Bool.and_assoc, ← h9]
                                  rfl
                                · have h9 := HF.out
                                  rw [List.take_of_length_le (by omega)] at h9
                                  exact h9
                              have hnot : ¬ k < es.length ∨ F = false := by
                                by_cases hke : k < es.length
                                · right; cases F; rfl; exact absurd ⟨hke, rfl⟩ hgo
                                · left; exact hke
                              clear hgo
                              cases hFF : F with
                              | true =>
                                have hk8 : ¬ k < es.length := by rcases hnot with h | h; exact h; rw [hFF] at h; cases h
                                have hk9 : decide (k < es.length) = false := by simpa using hk8
                                have hfr : freeB G M i = true := by rw [← HE.out]; exact hFF
                                have hMi : M i = true := by unfold freeB at hfr; rw [Bool.and_eq_true] at hfr; exact hfr.1
                                have h3 := HB2.out.put i false
                                obtain ⟨W3, hW3⟩ : ∃ X, X = wr.setCell ⟨g, i, none⟩ (.bool false) := ⟨_, rfl⟩
                                rw [← hW3, offB_eq] at h3
                                have hcn := cntT_off G.length hlt hMi
                                rw [← HMc.out] at hcn
                                have HP : Hid (passB G L (i + 1) = offB M i) := by show _ = _; unfold passB; rw [← HM.out, if_pos hfr]
                                have HB3 := hid h3
                                obtain ⟨m', hm'⟩ : ∃ m', m' = cntT (offB M i) G.length := ⟨_, rfl⟩
                                rw [← hm'] at hcn
                                have HM' := hid hm'
                                have hw3 : IntKind.i64.wrap ((m : Int) - 1) = (m' : Int) := by rw [IntWalk.i64_in _ ⟨by omega, by omega⟩]; omega
                                clear h3 hm' hcn hfr hMi hnot hFF
                                go_wp2
                                rw [← hW3]
                                go_wp2
                                go_roundw
                                case rel => exact ⟨i + 1, hlt, by go_num, by rw [HP.out, ← HM'.out], by rw [HP.out]; exact HB3.out⟩
                                case measure => simp only [intOf]; omega
                              | false =>
                                have hfr : ¬ freeB G M i = true := by rw [← HE.out, hFF]; simp
                                have HP : Hid (passB G L (i + 1) = M) := by show _ = _; unfold passB; rw [← HM.out, if_neg hfr]
                                clear hfr hnot hFF
                                by_cases hke : k < es.length
                                · have hk9 : decide (k < es.length) = true := by simpa using hke
                                  go_wp2
                                  go_roundw
                                  case rel => exact ⟨i + 1, hlt, by go_num, by rw [HP.out, ← HMc.out], by rw [HP.out]; exact HB2.out⟩
                                  case measure => simp only [intOf]; omega
                                · have hk9 : decide (k < es.length) = false := by simpa using hke
                                  go_wp2
                                  go_roundw
                                  case rel => exact ⟨i + 1, hlt, by go_num, by rw [HP.out, ← HMc.out], by rw [HP.out]; exact HB2.out⟩
                                  case measure => simp only [intOf]; omega
                    · as_aux_lemma =>
                        have hie : i = G.length := by omega
                        obtain ⟨m, hm⟩ : ∃ m, m = cntT (passB G L i) G.length := ⟨_, rfl⟩
                        rw [← hm]
                        have hmc : m < c := by rw [hm, hie]; exact HLess.out
                        have hne : ((m : Int) == (c : Int)) = false := by simp; omega
                        have hne2 : (m == c) = false := by simp; omega
                        have HM := hid hm
                        have HB3 : Hid (Lf14 w2 wr g G.length (passB G L G.length)) := by have h9 := HB2.out; rw [hie] at h9; exact h9
                        have HM2 : Hid (m = cntT (passB G L G.length) G.length) := by show _ = _; rw [hm, hie]
                        clear hie hm
                        go_wp2
                        go_roundw
                        case rel => exact ⟨passB G L G.length, by rw [HM2.out], HB3.out, fun j hj => HN.out j (pass_le G L _ j hj)⟩
                        case measure => simp only [intOf]; omega
              · have hc0 : c = 0 := by omega
                have hd0 : decide (0 < c) = false := by simpa using hpos
                have BW := hid (below_step B2.out HB.out.bel)
                clear hc0
                go_wp2
                go_ret
                exact ⟨rfl, BW.out⟩

end Go.Proofs.Ytmokokhhheonoaa
