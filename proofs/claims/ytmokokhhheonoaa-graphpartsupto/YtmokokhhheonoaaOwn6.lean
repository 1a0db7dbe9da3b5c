/- Texts of the proof, one behind the other. -/
import Derived.Test.YtmokokhhheonoaaOwn2
import Derived.BigRegion
import Derived.Test.YtmokokhhheonoaaOwn5
import Derived.Test.YtmokokhhheonoaaOwn1
/- same of layer 14's law file: two lists of rows. -/
namespace Go.Proofs.Ytmokokhhheonoaa
open Go.RowKit Go.Maps Go.BigFrame

set_option maxRecDepth 100000 in
set_option maxHeartbeats 1600000 in
theorem same14_any (v u : Value) (a b : List (List Int)) (w : World) (h : Rs w v a) (h' : Rs w u b) :
    Calls Try.prog 13 #[v, u] w fun e w' => e = .returned (.bool (decide (a = b))) ∧ Below w.heap.size w w' := by
  obtain ⟨ao, cap, rfl, hao, hca, _⟩ := Row.flat h
  obtain ⟨bo, cap', rfl, hbo, hcb, _⟩ := Row.flat h'
  unfold maxLen at hca hcb
  have HA := hid h
  have HB := hid h'
  clear h h'
  by_cases hl : a.length = b.length
  · have hle : ((a.length : Int) != b.length) = false := by simp; omega
    have hlb : a.length ≤ b.length := by omega
    have HL := hid hl
    clear hl
    go_enter Try.func13, Try.ntmps13
    go_wp2
    go_loopw [5, 6] (fun i _ wr => ∃ k : Nat, k ≤ a.length ∧ i = .int .i64 k ∧ a.take k = b.take k ∧ Below w.heap.size w wr) (fun i _ _ => a.length - (intOf i).toNat)
    case atStart => exact ⟨0, Nat.zero_le _, rfl, rfl, Below.refl _ _⟩
    case round =>
      obtain ⟨k, hk, rfl, ht, hbl⟩ := hrel
      have HT := hid ht
      have HBl := hid hbl
      clear ht
      by_cases hlt : k < a.length
      · obtain ⟨g, off, xa, x, xc, rfl, hx1, hx2, hx3, hx4⟩ := (HA.out.kp (Kp.of_below hbl)).at hlt
        obtain ⟨g', off', ya, y, yc, rfl, hy1, hy2, hy3, hy4⟩ := (HB.out.kp (Kp.of_below hbl)).at (k := k) (by omega)
        have HX := hid hx1
        have HY := hid hy1
        have HXi := hid hx3
        have HYi := hid hy3
        have hlt' : k < b.length := by omega
        clear hx1 hy1 hx3 hy3 hbl
        by_cases hxy : x.length = y.length
        · as_aux_lemma =>
            have hne : ((x.length : Int) != y.length) = false := by simp; omega
            have HXY := hid hxy
            clear hxy
            go_wp2
            go_region
            go_wp2
            go_loopw [6] (fun j wc => ∃ m : Nat, m ≤ x.length ∧ j = .int .i64 m ∧ x.take m = y.take m ∧ Below w.heap.size w wc) (fun j _ => x.length - (intOf j).toNat)
            case atStart => exact ⟨0, Nat.zero_le _, rfl, rfl, HBl.out.drew⟩
            case round =>
              obtain ⟨m, hm, rfl, ht, hbl⟩ := hrel
              have HTm := hid ht
              have HBm := hid hbl
              obtain ⟨_, _, xa', x', xc', e1, hx1, hx2, hx3, _⟩ := (HA.out.kp (Kp.of_below hbl)).at hlt
              obtain ⟨_, _, ya', y', yc', e2, hy1, hy2, hy3, _⟩ := (HB.out.kp (Kp.of_below hbl)).at (k := k) (by omega)
              rw [HX.out] at hx1
              rw [HY.out] at hy1
              cases hx1
              cases hy1
              cases e1
              cases e2
              by_cases hml : m < x.length
              · as_aux_lemma =>
                  obtain ⟨gx, ox, p, rfl, hp1, hp2, hp3, hp4⟩ := hx3.at hml
                  obtain ⟨gy, oy, q, rfl, hq1, hq2, hq3, hq4⟩ := hy3.at (k := m) (by rw [← HXY.out]; exact hml)
                  have hmy : m < y.length := by rw [← HXY.out]; exact hml
                  have HP := hid hp1
                  have HQ := hid hq1
                  clear hp1 hq1 hx3 hy3 ht hbl
                  by_cases hpq : p = q
                  · as_aux_lemma =>
                      subst hpq
                      have HE : Hid (x.take (m + 1) = y.take (m + 1)) := by show _ = _; rw [take_get HP.out, take_get HQ.out, HTm.out]
                      have hd : (p != p) = false := by simp
                      go_wp2
                      go_region
                      go_wp2
                      go_roundw
                      case rel => exact ⟨m + 1, hml, by go_num, HE.out, HBm.out.drew⟩
                      case measure => simp only [intOf]; omega
                  · as_aux_lemma =>
                      have hd : (p != q) = true := by simpa using hpq
                      have HE : Hid (decide (a = b) = false) := decide_eq_false (by
                        rintro rfl
                        have h1 := HX.out.symm.trans HY.out
                        simp at h1
                        subst h1
                        have h2 := HP.out.symm.trans HQ.out
                        simp at h2
                        exact hpq h2)
                      clear hpq
                      go_wp2
                      go_region
                      go_wp2
                      go_ret
                      exact ⟨ret1b HE.out.symm, HBm.out.drew⟩
              · as_aux_lemma =>
                  have hmx : m = x.length := by omega
                  have HE : Hid (a.take (k + 1) = b.take (k + 1)) := by
                    have h9 := HTm.out
                    rw [List.take_of_length_le (by omega), List.take_of_length_le (by rw [← HXY.out]; omega)] at h9
                    show _ = _
                    rw [take_get HX.out, take_get HY.out, HT.out, h9]
                  subst hmx
                  clear ht hbl hx3 hy3
                  go_wp2
                  go_roundw
                  case rel => exact ⟨k + 1, hlt, by go_num, HE.out, HBm.out⟩
                  case measure => simp only [intOf]; omega
        · as_aux_lemma =>
            have hne : ((x.length : Int) != y.length) = true := by simp; omega
            have HE : Hid (decide (a = b) = false) := decide_eq_false (by
              rintro rfl
              have h1 := HX.out.symm.trans HY.out
              simp at h1
              subst h1
              exact hxy rfl)
            clear hxy
            go_wp2
            go_region
            go_wp2
            go_ret
            exact ⟨ret1b HE.out.symm, HBl.out.drew⟩
      · have hk' : k = a.length := by omega
        have HE : Hid (decide (a = b) = true) := by
          have h9 := HT.out
          rw [List.take_of_length_le (by omega), List.take_of_length_le (by have := HL.out; omega)] at h9
          exact decide_eq_true h9
        go_wp2
        go_ret
        exact ⟨ret1b HE.out.symm, hbl⟩
  · have hne : ((a.length : Int) != b.length) = true := by rw [bne_iff_ne]; omega
    have HE : Hid (decide (a = b) = false) := decide_eq_false (fun h => hl (by rw [h]))
    go_enter Try.func13, Try.ntmps13
    go_wp2
    go_ret
    exact ⟨ret1b HE.out.symm, Below.refl _ _⟩

end Go.Proofs.Ytmokokhhheonoaa

/- The examples of layer 14 come out true. -/
namespace Go.Proofs.Ytmokokhhheonoaa
open Go.RowKit Go.Maps Go.BigFrame

/-- Rows laid one behind the other. -/
def lits14 : World → List (List Int) → World × List Value
  | w, [] => (w, [])
  | w, x :: r => ((lits14 (w.alloc (.cells (x.map I64).toArray 3)) r).1, .slice (some ⟨w.heap.size, 0, none⟩) x.length x.length :: (lits14 (w.alloc (.cells (x.map I64).toArray 3)) r).2)

theorem lits14_ok : ∀ (l : List (List Int)) (w : World), (∀ x, x ∈ l → ZI x ∧ x.length ≤ 1000) → Below w.heap.size w (lits14 w l).1 ∧ (lits14 w l).2.length = l.length ∧ ∀ (j : Nat) (u : Value) (x : List Int), (lits14 w l).2[j]? = some u → l[j]? = some x → Is (lits14 w l).1 u x
  | [], w, _ => ⟨Below.refl _ _, rfl, fun j u x hu => by simp [lits14] at hu⟩
  | x :: r, w, h => by
    obtain ⟨h1, h2, h3⟩ := lits14_ok r (w.alloc (.cells (x.map I64).toArray 3)) (fun y hy => h y (by simp [hy]))
    refine ⟨below_step (below_alloc _) h1, by simp [lits14, h2], fun j u y hu hy => ?_⟩
    cases j with
    | zero =>
      simp only [lits14, List.getElem?_cons_zero, Option.some.injEq] at hu hy
      subst hu hy
      have hz := h x (by simp)
      exact (is_new w x 3 (fun y hy => by obtain ⟨k, hk⟩ := List.getElem?_of_mem hy; exact hz.1 k y hk) hz.2).kp (Kp.of_below h1)
    | succ j =>
      simp only [lits14, List.getElem?_cons_succ] at hu hy
      exact h3 j u y hu hy

theorem lits14_rs (l : List (List Int)) (w : World) (h : ∀ x, x ∈ l → ZI x ∧ x.length ≤ 1000) (hl : l.length ≤ 1000) : Rs ((lits14 w l).1.alloc (.cells (lits14 w l).2.toArray 26)) (.slice (some ⟨(lits14 w l).1.heap.size, 0, none⟩) l.length l.length) l ∧ Below w.heap.size w ((lits14 w l).1.alloc (.cells (lits14 w l).2.toArray 26)) := by
  obtain ⟨h1, h2, h3⟩ := lits14_ok l w h
  refine ⟨⟨_, l.length, rfl, Nat.le_refl _, by unfold maxLen; omega, fun _ => ⟨(lits14 w l).1.heap.size, 0, rfl, by simp, fun k x hk => ?_⟩⟩, below_step h1 (below_alloc _)⟩
  have hkl := (List.getElem?_eq_some_iff.1 hk).1
  refine ⟨by have := (h x (List.mem_of_getElem? hk)).2; omega, (lits14 w l).2[k]'(by omega), ?_, (h3 k _ x (List.getElem?_eq_getElem (by omega)) hk).kp (Kp.of_below (below_alloc _))⟩
  rw [Nat.zero_add, Nat.mul_one, cell_of_row _ _ _ _ _ _ (heap_alloc_new _ _)]
  simp [h2, hkl]

theorem zi_small {l : List (List Int)} (h : l.all (fun x => x.all (fun y => decide (-100 ≤ y) && decide (y ≤ 100)) && decide (x.length ≤ 1000)) = true) : ∀ x, x ∈ l → ZI x ∧ x.length ≤ 1000 := fun x hx => by
  have h1 := List.all_eq_true.1 h x hx
  rw [Bool.and_eq_true] at h1
  refine ⟨fun k y hk => ?_, of_decide_eq_true h1.2⟩
  have h2 := List.all_eq_true.1 h1.1 y (List.mem_of_getElem? hk)
  rw [Bool.and_eq_true] at h2
  have a := of_decide_eq_true h2.1
  have b := of_decide_eq_true h2.2
  omega

/-- What Parts answers is read as the parts. -/
theorem PO14.rs {w0 w : World} {G : List (List Int)} {v : Value} {vs : List Value} {Ps : List (List Nat)} (h : PO14 w0 w G v vs Ps) (hG : G.length ≤ 4096) : Rs w v ((partsG G).map natL) := by
  obtain ⟨h1, h2, h3, _, h5⟩ := h
  have e := h5.eq
  subst e
  have hr := rs_of_own (l := (partsG G).map natL) (by rw [List.length_map]; exact h1) h3 (fun t ht => by
    obtain ⟨P, hP, rfl⟩ := List.mem_map.1 ht
    rw [natL_len]
    obtain ⟨i, _, hk, hr⟩ := h5.part P hP
    have := nodup_few (n := G.length) (xs := P) (hr.imp fun h => by omega) (fun x hx => (wy_lt ((hk x).1 hx).1).2)
    omega)
  exact hr

set_option maxRecDepth 100000 in
set_option maxHeartbeats 3200000 in
theorem shown14_any (w : World) : Calls Try.prog 9 #[] w fun e w' => e = .returned (.bool true) ∧ Below w.heap.size w w' := by
  have L1 := fun w => lits14_rs [[1], [2], [0, 3], [3], [0]] w (zi_small (by decide)) (by decide)
  have L2 := fun w => lits14_rs [[3, -1, 9], [2], [1], [0]] w (zi_small (by decide)) (by decide)
  have L3 := fun w => lits14_rs [[1], [2], []] w (zi_small (by decide)) (by decide)
  have L4 := fun w => lits14_rs [[0]] w (zi_small (by decide)) (by decide)
  have L5 := fun w => lits14_rs [[0, 1, 2], [3]] w (zi_small (by decide)) (by decide)
  have L6 := fun w => lits14_rs [[0, 3], [1, 2]] w (zi_small (by decide)) (by decide)
  simp only [lits14, I64, List.map_cons, List.map_nil, List.length_cons, List.length_nil, World.size_alloc, Nat.zero_add, Nat.reduceAdd] at L1 L2 L3 L4 L5 L6
  have H1 := hid L1
  have H2 := hid L2
  have H3 := hid L3
  have H4 := hid L4
  have H5 := hid L5
  have H6 := hid L6
  clear L1 L2 L3 L4 L5 L6
  go_enter Try.func9, Try.ntmps9
  go_wp2_with fail
  refine (parts_any14 (H1.out w).1 (by decide)).mono ?_
  rintro e w1 ⟨va, _, _, rfl, ha⟩
  have HA := hid (ha.rs (by decide))
  have B1 := hid (below_step (H1.out w).2 ha.2.2.2.1)
  clear ha
  rw [ex14_1] at HA
  go_wp2_with fail
  refine (parts_any14 (H2.out w1).1 (by decide)).mono ?_
  rintro e w2 ⟨vb, _, _, rfl, hb⟩
  have HB := hid (hb.rs (by decide))
  have C2 := hid (below_step (H2.out w1).2 hb.2.2.2.1)
  have B2 := hid (below_step B1.out C2.out)
  have HA2 := hid (HA.out.kp (Kp.of_below C2.out))
  clear hb HA C2 B1
  rw [ex14_2] at HB
  go_wp2_with fail
  refine (parts_any14 (H3.out w2).1 (by decide)).mono ?_
  rintro e w3 ⟨vc, _, _, rfl, hc⟩
  have HC := hid (hc.rs (by decide))
  have C3 := hid (below_step (H3.out w2).2 hc.2.2.2.1)
  have B3 := hid (below_step B2.out C3.out)
  have HA3 := hid (HA2.out.kp (Kp.of_below C3.out))
  have HB3 := hid (HB.out.kp (Kp.of_below C3.out))
  clear hc HA2 HB C3 B2
  rw [ex14_3] at HC
  obtain ⟨co, cc, hvc, _⟩ := Row.flat HC.out
  have hvc2 : vc = .slice co 0 cc := hvc
  clear hvc
  subst hvc2
  go_wp2_with fail
  refine (parts_any14 (H4.out w3).1 (by decide)).mono ?_
  rintro e w4 ⟨vd, _, _, rfl, hd⟩
  have HD := hid (hd.rs (by decide))
  have C4 := hid (below_step (H4.out w3).2 hd.2.2.2.1)
  have B4 := hid (below_step B3.out C4.out)
  have HA4 := hid (HA3.out.kp (Kp.of_below C4.out))
  have HB4 := hid (HB3.out.kp (Kp.of_below C4.out))
  clear hd HA3 HB3 C4 B3 HC
  rw [ex14_4] at HD
  go_wp2_with fail
  refine (same14_any _ _ _ _ _ (HA4.out.kp (Kp.of_below (H5.out w4).2)) (H5.out w4).1).mono ?_
  rintro e w5 ⟨rfl, hb5⟩
  have C5 := hid (below_step (H5.out w4).2 hb5)
  have B5 := hid (below_step B4.out C5.out)
  have HB5 := hid (HB4.out.kp (Kp.of_below C5.out))
  have HD5 := hid (HD.out.kp (Kp.of_below C5.out))
  rw [show decide (List.map natL [[0, 1, 2], [3]] = [[0, 1, 2], [3]]) = true by decide]
  clear hb5 HA4 HB4 HD C5 B4
  go_wp2_with fail
  refine (same14_any _ _ _ _ _ (HB5.out.kp (Kp.of_below (H6.out w5).2)) (H6.out w5).1).mono ?_
  rintro e w6 ⟨rfl, hb6⟩
  have C6 := hid (below_step (H6.out w5).2 hb6)
  have B6 := hid (below_step B5.out C6.out)
  have HD6 := hid (HD5.out.kp (Kp.of_below C6.out))
  rw [show decide (List.map natL [[0, 3], [1, 2]] = [[0, 3], [1, 2]]) = true by decide]
  clear hb6 HB5 HD5 C6 B5
  go_wp2_with fail
  refine (same14_any _ _ _ _ _ (HD6.out.kp (Kp.of_below (H4.out w6).2)) (H4.out w6).1).mono ?_
  rintro e w7 ⟨rfl, hb7⟩
  have B7 := hid (below_step B6.out (below_step (H4.out w6).2 hb7))
  rw [show decide (List.map natL [[0]] = [[0]]) = true by decide]
  clear hb7 HD6 B6
  go_wp2
  go_ret
  exact ⟨rfl, B7.out⟩

end Go.Proofs.Ytmokokhhheonoaa

/- A row of bools of one's own, written one by one. -/
namespace Go.Proofs.Ytmokokhhheonoaa
open Go.RowKit Go.Maps Go.BigFrame

def lfA (n : Nat) (L : Nat → Bool) : Array Value := ((List.range n).map fun i => Value.bool (L i)).toArray

def updB14 (L : Nat → Bool) (k : Nat) (b : Bool) : Nat → Bool := fun i => if i = k then b else L i

theorem lfA_get {n k : Nat} (L : Nat → Bool) (h : k < n) : (lfA n L)[k]? = some (.bool (L k)) := by simp [lfA, h]

theorem lfA_set (n k : Nat) (L : Nat → Bool) (b : Bool) : (lfA n L).setIfInBounds k (.bool b) = lfA n (updB14 L k b) := by
  apply Array.ext'
  apply List.ext_getElem?
  intro i
  unfold lfA
  simp only [Array.toList_setIfInBounds]
  by_cases h : i < n
  · by_cases e : i = k
    · subst e
      rw [List.getElem?_set_self (by simpa using h)]
      simp [h, updB14]
    · rw [List.getElem?_set_ne (fun h2 => e h2.symm)]
      simp [h, updB14, e]
  · rw [List.getElem?_eq_none (by simp; omega), List.getElem?_eq_none (by simp; omega)]

structure Lf14 (w0 w : World) (g n : Nat) (L : Nat → Bool) : Prop where
  bel : Below w0.heap.size w0 w
  base : w0.heap.size ≤ g
  blk : w.heap[g]? = some (.cells (lfA n L) 4 (0, 0))

theorem Lf14.at {w0 w : World} {g n k : Nat} {L : Nat → Bool} (h : Lf14 w0 w g n L) (hk : k < n) : w.cell? ⟨g, k, none⟩ = some (.bool (L k)) ∧ w.frozen? ⟨g, k, none⟩ = false :=
  ⟨by rw [cell_of_row w g k _ _ _ h.blk]; exact lfA_get L hk, frozen_of_row w g k _ _ h.blk⟩

theorem Lf14.put {w0 w : World} {g n : Nat} {L : Nat → Bool} (h : Lf14 w0 w g n L) (k : Nat) (b : Bool) : Lf14 w0 (w.setCell ⟨g, k, none⟩ (.bool b)) g n (updB14 L k b) :=
  ⟨h.bel.setCell (p := ⟨g, k, none⟩) h.base _, h.base, by rw [heap_setCell_same w g k _ _ _ h.blk, lfA_set]⟩

theorem Lf14.later {w0 w w' : World} {g n : Nat} {L : Nat → Bool} (h : Lf14 w0 w g n L) (hb : Below w.heap.size w w') : Lf14 w0 w' g n L :=
  ⟨below_step h.bel hb, h.base, (hb.block g (Array.getElem?_eq_some_iff.1 h.blk).1).trans h.blk⟩

theorem info_bool14 : (Try.prog.info? 4).map (fun i => (i.zero, i.size, i.bytes)) = some (some (.bool false), 1, 1) := by kernel_rfl

theorem under_bools14 : Try.prog.underlying 28 = some (.slice 4) := by kernel_rfl

theorem run_makeL14 (w : World) (n : Nat) (hn : n ≤ 1048576) : (Instr.makeSlice 28 (.int .i64 (n : Int)) (.int .i64 (n : Int))).run Try.prog w = .ok (.slice (some ⟨w.heap.size, 0, none⟩) n n) (w.alloc (.cells (lfA n fun _ => false) 4)) := by
  obtain ⟨i0, hi, hz0, hz1, hz2⟩ := info_parts info_bool14
  have h := run_make (P := Try.prog) w 28 4 i0 (.bool false) under_bools14 hi hz0 .i64 .i64 (n : Int) (n : Int) (by omega) (Int.le_refl _) (by rw [hz2]; omega) (by omega)
  rw [hz1, Int.toNat_natCast] at h
  have e : madeCells (Value.bool false).cells (n * 1) = lfA n fun _ => false := by
    apply Array.ext'
    have : (Value.bool false).cells = #[Value.bool false] := rfl
    rw [this, toList_madeCells_one]
    unfold lfA
    simp [List.map_const']
  rw [e] at h
  exact h

theorem Lf14.new (w : World) (n : Nat) : Lf14 w (w.alloc (.cells (lfA n fun _ => false) 4)) w.heap.size n (fun _ => false) :=
  ⟨below_alloc _, Nat.le_refl _, heap_alloc_new _ _⟩

end Go.Proofs.Ytmokokhhheonoaa

/- The document's table of ways, in memory. -/
namespace Go.Proofs.Ytmokokhhheonoaa
open Go.RowKit Go.Maps Go.BigFrame

structure Wt14 (w0 w : World) (v : Value) (rb : Nat → Nat) (n k : Nat) (U : Nat → Nat → Bool) : Prop where
  bel : Below w0.heap.size w0 w
  own : w.ownsRow w0.heap.size 28 1 v k ((List.range k).map fun i => .slice (some ⟨rb i, 0, none⟩) n n)
  rows : ∀ i, i < k → w.heap[rb i]? = some (.cells (lfA n (U i)) 4 (0, 0))
  low : ∀ i, i < k → w0.heap.size ≤ rb i
  inj : ∀ i j, i < k → j < k → rb i = rb j → i = j

theorem lfA_congr {n : Nat} {L M : Nat → Bool} (h : ∀ x, x < n → L x = M x) : lfA n L = lfA n M := by
  unfold lfA
  congr 1
  exact List.map_congr_left fun j hj => by rw [h j (List.mem_range.1 hj)]

theorem Wt14.later {w0 w w' : World} {v : Value} {rb : Nat → Nat} {n k : Nat} {U : Nat → Nat → Bool} (h : Wt14 w0 w v rb n k U) (hb : Below w.heap.size w w') : Wt14 w0 w' v rb n k U :=
  ⟨below_step h.bel hb, ownsRow_later h.own hb, fun i hi => (hb.block _ (Array.getElem?_eq_some_iff.1 (h.rows i hi)).1).trans (h.rows i hi), h.low, h.inj⟩

theorem Wt14.congr {w0 w : World} {v : Value} {rb : Nat → Nat} {n k : Nat} {U V : Nat → Nat → Bool} (h : Wt14 w0 w v rb n k U) (e : ∀ a b, a < k → b < n → U a b = V a b) : Wt14 w0 w v rb n k V :=
  ⟨h.bel, h.own, fun i hi => by rw [h.rows i hi, lfA_congr fun x hx => e i x hi hx], h.low, h.inj⟩

theorem Wt14.shape {w0 w : World} {v : Value} {rb : Nat → Nat} {n k : Nat} {U : Nat → Nat → Bool} (h : Wt14 w0 w v rb n k U) : ∃ ao c, v = .slice ao k c ∧ k ≤ c ∧ c ≤ maxLen := by
  rcases h.own.2 with ⟨rfl, h0⟩ | ⟨g, cap, cur, rfl, _, _, hc, hm, _⟩
  · exact ⟨none, 0, by rw [h0], by omega, by simp [maxLen]⟩
  · exact ⟨_, cap, rfl, hc, hm⟩

theorem Wt14.form {w0 w : World} {v : Value} {rb : Nat → Nat} {n k : Nat} {U : Nat → Nat → Bool} (h : Wt14 w0 w v rb n k U) (hk : 0 < k) :
    ∃ g rc, v = .slice (some ⟨g, 0, none⟩) k rc ∧ k ≤ rc ∧ ∀ i, i < k → w.cell? ⟨g, i, none⟩ = some (.slice (some ⟨rb i, 0, none⟩) n n) := by
  have ho := h.own
  rcases ho.2 with ⟨_, h0⟩ | ⟨g, cap, cur, hv, hb, hg, hc, hm, hs, ht⟩
  · omega
  · subst hv
    refine ⟨g, cap, rfl, hc, fun i hi => ?_⟩
    rw [World.ownsRow.cellAt ho i (by omega)]
    simp [hi]

theorem Wt14.bit {w0 w : World} {v : Value} {rb : Nat → Nat} {n k : Nat} {U : Nat → Nat → Bool} (h : Wt14 w0 w v rb n k U) {i j : Nat} (hi : i < k) (hj : j < n) : w.cell? ⟨rb i, j, none⟩ = some (.bool (U i j)) := by
  rw [cell_of_row w (rb i) j _ _ _ (h.rows i hi), lfA_get _ hj]

theorem Wt14.free {w0 w : World} {v : Value} {rb : Nat → Nat} {n k : Nat} {U : Nat → Nat → Bool} (h : Wt14 w0 w v rb n k U) {i : Nat} (hi : i < k) (j : Nat) : w.frozen? ⟨rb i, j, none⟩ = false := frozen_of_row w _ _ _ _ (h.rows i hi)

theorem type_ne14 {w : World} {g g' : Nat} {c c' : Array Value} {t t' : TypeId} {f f' : Nat × Nat} (h : w.heap[g]? = some (.cells c t f)) (h' : w.heap[g']? = some (.cells c' t' f')) (hne : t ≠ t') : g ≠ g' := by
  rintro rfl
  rw [h] at h'
  simp only [Option.some.injEq, Obj.cells.injEq] at h'
  exact hne h'.2.1

theorem Wt14.set {w0 w : World} {v : Value} {rb : Nat → Nat} {n k : Nat} {U : Nat → Nat → Bool} (h : Wt14 w0 w v rb n k U) {i : Nat} (hi : i < k) (j : Nat) (x : Bool) : Wt14 w0 (w.setCell ⟨rb i, j, none⟩ (.bool x)) v rb n k (updB U i j x) := by
  refine ⟨h.bel.setCell (p := ⟨rb i, j, none⟩) (h.low i hi) _, ⟨h.own.1, ?_⟩, fun i' hi' => ?_, h.low, h.inj⟩
  · rcases h.own.2 with h0 | ⟨g, cap, cur, hv, hb, hg, r⟩
    · exact .inl h0
    · exact .inr ⟨g, cap, cur, hv, hb, (heap_setCell_other _ _ _ _ (type_ne14 hg (h.rows i hi) (by decide))).trans hg, r⟩
  · by_cases e : i' = i
    · subst e
      rw [heap_setCell_same w (rb i') j _ _ _ (h.rows i' hi'), lfA_set]
      congr 2
      congr 1
      funext b
      simp [updB, updB14]
    · rw [heap_setCell_other _ _ _ _ (fun e2 => e (h.inj _ _ hi' hi e2)), h.rows i' hi']
      congr 2
      congr 1
      funext b
      simp [updB, e]

theorem info_boolsW : (Try.prog.info? 28).map (fun i => (i.zero, i.size, i.bytes)) = some (some (.slice none 0 0), 1, 24) := by kernel_rfl

theorem under_rowsW : Try.prog.underlying 31 = some (.slice 28) := by kernel_rfl

/-- A row more. -/
theorem Wt14.grow (ty : TypeId) {w0 w w1 : World} {v : Value} {rb : Nat → Nat} {g n k : Nat} {U : Nat → Nat → Bool} {L : Nat → Bool} (h : Wt14 w0 w v rb n k U) (hr : Lf14 w w1 g n L) (hk : k < 1048576) :
    ∃ v' w3, (Builtin.append_ #[31, 31] ty #[v, .slice (some ⟨w1.heap.size, 0, none⟩) 1 1]).run Try.prog (w1.alloc (.cells #[.slice (some ⟨g, 0, none⟩) n n] 28)) = .ok v' w3 ∧ Wt14 w0 w3 v' (fun i => if i = k then g else rb i) n (k + 1) (fun i => if i = k then L else U i) := by
  obtain ⟨i0, hi, hz0, hz1, hz2⟩ := info_parts info_boolsW
  obtain ⟨w2, hw2⟩ : ∃ X, X = w1.alloc (.cells #[.slice (some ⟨g, 0, none⟩) n n] 28) := ⟨_, rfl⟩
  have hb2 : Below w1.heap.size w1 w2 := by rw [hw2]; exact below_alloc _
  have hl : w2.heap[w1.heap.size]? = some (.cells #[.slice (some ⟨g, 0, none⟩) n n] 28 (0, 0)) := by rw [hw2]; exact heap_alloc_new _ _
  have h2 := (h.later hr.bel).later hb2
  have hr2 := hr.later hb2
  have hbs : w0.heap.size ≤ w2.heap.size := Nat.le_trans h.bel.size (Nat.le_trans hr.bel.size hb2.size)
  obtain ⟨v', w3, hrun, ho3, hg3, _, _⟩ := run_append_own_at (P := Try.prog) w2 w0.heap.size 31 ty 28 i0 _ 1 24 under_rowsW hi hz0 hz1 hz2 rfl (by decide) _ k _ h2.own ⟨w1.heap.size, 0, none⟩ 1 1 [.slice (some ⟨g, 0, none⟩) n n] rfl (fun j u hj => by
    rw [Addr.add_lit]
    match j, hj with
    | 0, hj =>
      cases hj
      exact cell_of_row w2 _ _ _ _ _ hl) (fun u hu => by
    simp only [List.mem_singleton] at hu
    subst hu
    rfl) (by unfold maxLen; omega) (by omega) hbs
  rw [← hw2]
  have hne : ∀ (g : Nat) (c : Array Value), w2.heap[g]? = some (.cells c 4 (0, 0)) → w3.heap[g]? = some (.cells c 4 (0, 0)) := fun g c hg => by
    refine (hg3.block g (Array.getElem?_eq_some_iff.1 hg).1 (fun e => ?_)).trans hg
    rcases h2.own.2 with ⟨hv, _⟩ | ⟨g', cap', cur', hv, _, hg', _⟩
    · rw [hv] at e; cases e
    · rw [hv] at e
      simp only [Value.ownBlock, Option.some.injEq] at e
      subst e
      exact type_ne14 hg hg' (by decide) rfl
  have hlt : ∀ i, i < k → rb i < w.heap.size := fun i hi => (Array.getElem?_eq_some_iff.1 (h.rows i hi)).1
  refine ⟨v', w3, hrun, ⟨h2.bel.grown hg3 hbs (fun j hj => own_blk h2.own hj), ?_, fun i hi' => ?_, fun i hi' => ?_, fun i j hi' hj' e => ?_⟩⟩
  · rw [List.range_succ, List.map_append]
    simp only [List.map_cons, List.map_nil, if_true]
    have e : ((List.range k).map fun i => Value.slice (some ⟨if i = k then g else rb i, 0, none⟩) n n) = ((List.range k).map fun i => Value.slice (some ⟨rb i, 0, none⟩) n n) := List.map_congr_left fun i hi' => by rw [if_neg (by have := List.mem_range.1 hi'; omega)]
    rw [e]
    exact ho3
  · by_cases e : i = k
    · subst e
      rw [if_pos rfl, if_pos rfl]
      exact hne _ _ hr2.blk
    · rw [if_neg e, if_neg e]
      exact hne _ _ (h2.rows i (by omega))
  · by_cases e : i = k
    · simp only [e, if_true]
      exact Nat.le_trans h.bel.size hr.base
    · simp only [e, if_false]
      exact h.low i (by omega)
  · have hb := hr.base
    by_cases e1 : i = k <;> by_cases e2 : j = k
    · omega
    · simp only [e1, e2, if_true, if_false] at e
      have := hlt j (by omega)
      omega
    · simp only [e1, e2, if_true, if_false] at e
      have := hlt i (by omega)
      omega
    · simp only [e1, e2, if_false] at e
      exact h.inj i j (by omega) (by omega) e

theorem Wt14.new (w : World) (n : Nat) (U : Nat → Nat → Bool) : Wt14 w (w.alloc (.cells #[] 28)) (.slice (some ⟨w.heap.size, 0, none⟩) 0 0) (fun _ => 0) n 0 U :=
  ⟨below_alloc _, empty_row _ (Nat.le_refl _), fun i hi => by omega, fun i hi => by omega, fun i j hi => by omega⟩

/-- A row's edges as far as some place. -/
def edgL (n : Nat) (es : List Int) (k : Nat) : Nat → Bool := fun x => decide (x < n) && decide ((x : Int) ∈ es.take k)

theorem edgL_zero (n : Nat) (es : List Int) : edgL n es 0 = fun _ => false := by
  funext x
  simp [edgL]

theorem edgL_put {n : Nat} {es : List Int} {k x : Nat} (h : es[k]? = some (x : Int)) (hx : x < n) : updB14 (edgL n es k) x true = edgL n es (k + 1) := by
  funext y
  unfold updB14 edgL
  rw [take_get h]
  by_cases e : y = x
  · subst e
    simp [hx]
  · rw [if_neg e]
    congr 1
    rw [decide_eq_decide, List.mem_append, List.mem_singleton]
    constructor
    · exact .inl
    · rintro (h | h)
      · exact h
      · exact absurd (by omega : y = x) e

theorem edgL_skip {n : Nat} {es : List Int} {k : Nat} {t : Int} (h : es[k]? = some t) (ht : ¬ (0 ≤ t ∧ t < (n : Int))) : edgL n es k = edgL n es (k + 1) := by
  funext y
  unfold edgL
  rw [take_get h]
  by_cases hy : y < n
  · congr 1
    rw [decide_eq_decide, List.mem_append, List.mem_singleton]
    constructor
    · exact .inl
    · rintro (h | h)
      · exact h
      · exact absurd ⟨by omega, by omega⟩ ht
  · simp [hy]

theorem edgL_all {G : List (List Int)} {i : Nat} {es : List Int} (h : G[i]? = some es) : edgL G.length es es.length = edgB G i := by
  funext x
  have hi := (List.getElem?_eq_some_iff.1 h).1
  unfold edgL edgB
  rw [List.take_length, List.getD_eq_getElem?_getD, h]
  simp [hi]

theorem Wt14.edge {w0 w : World} {v : Value} {rb : Nat → Nat} {g k : Nat} {G : List (List Int)} {es : List Int} (h : Wt14 w0 w v (fun i => if i = k then g else rb i) G.length (k + 1) (fun i => if i = k then edgL G.length es es.length else edgB G i)) (hes : G[k]? = some es) : Wt14 w0 w v (fun i => if i = k then g else rb i) G.length (k + 1) (edgB G) :=
  h.congr fun a b ha _ => by
    by_cases e : a = k
    · subst e
      simp only [if_true]
      rw [edgL_all hes]
    · simp [e]

end Go.Proofs.Ytmokokhhheonoaa

/- The document's Ways walked. -/
namespace Go.Proofs.Ytmokokhhheonoaa
open Go.RowKit Go.Maps Go.BigFrame

set_option maxRecDepth 100000 in
set_option maxHeartbeats 6400000 in
theorem refWays14_any (v : Value) (G : List (List Int)) (w : World) (h : Rs w v G) (hn : G.length ≤ 200) :
    Calls Try.prog 15 #[v] w fun e w' => ∃ v' rb, e = .returned v' ∧ Wt14 w w' v' rb G.length G.length (wayB G) := by
  obtain ⟨ao, cap, rfl, hao, hca, _⟩ := Row.flat h
  unfold maxLen at hca
  have HG := hid h
  clear h
  have HN0 := hid (Wt14.new w G.length (edgB G))
  obtain ⟨W0, hW0⟩ : ∃ X, X = w.alloc (.cells #[] 28) := ⟨_, rfl⟩
  rw [← hW0] at HN0
  go_enter Try.func15, Try.ntmps15
  go_wp2
  rw [← hW0]
  go_loopw [4, 5, 6, 7] (fun t i _ _ wr => ∃ (k : Nat) (rb : Nat → Nat), k ≤ G.length ∧ i = .int .i64 k ∧ Wt14 w wr t rb G.length k (edgB G)) (fun _ i _ _ _ => G.length - (intOf i).toNat)
  case atStart => exact ⟨0, _, Nat.zero_le _, rfl, HN0.out⟩
  case round =>
    clear HN0 hW0
    obtain ⟨i, rb, hi, rfl, hwt⟩ := hrel
    have HT := hid hwt
    obtain ⟨ta, tc, rfl, htc1, htc2⟩ := hwt.shape
    unfold maxLen at htc2
    clear hwt
    by_cases hlt : i < G.length
    · as_aux_lemma =>
        have hdi : decide ((i : Int) < (G.length : Int)) = true := by simpa using hlt
        have hwi : IntKind.i64.wrap ((i : Int) + 1) = ((i + 1 : Nat) : Int) := by rw [IntWalk.i64_in _ ⟨by omega, by omega⟩]; omega
        obtain ⟨wb, hwb⟩ : ∃ X, X = wr := ⟨_, rfl⟩
        subst hwb
        obtain ⟨es, hes⟩ : ∃ es, G[i]? = some es := ⟨_, List.getElem?_eq_getElem hlt⟩
        have HEs := hid hes
        clear hes
        have hmk := run_makeL14 wb G.length (by omega)
        have hnw := Lf14.new wb G.length
        obtain ⟨W, hW⟩ : ∃ X, X = wb.alloc (.cells (lfA G.length fun _ => false) 4) := ⟨_, rfl⟩
        rw [← hW] at hmk hnw
        rw [← edgL_zero G.length es] at hnw
        have HN := hid hnw
        clear hnw hW
        generalize hg : wb.heap.size = g at hmk HN
        go_wp2
        go_loopw [7] (fun j wr => ∃ k : Nat, k ≤ es.length ∧ j = .int .i64 k ∧ Lf14 wb wr g G.length (edgL G.length es k)) (fun j _ => es.length - (intOf j).toNat)
        case atStart => exact ⟨0, Nat.zero_le _, rfl, HN.out⟩
        case round =>
          clear HN hmk
          obtain ⟨k, hk, rfl, hlf⟩ := hrel
          have HL := hid hlf
          obtain ⟨g1, o1, xa, es', xc, rfl, hes, hx2, hx3, hx4⟩ := (HG.out.kp (Kp.of_below (below_step HT.out.bel hlf.bel))).at hlt
          rw [HEs.out] at hes
          cases hes
          clear hlf
          by_cases hkl : k < es.length
          · as_aux_lemma =>
              obtain ⟨g2, o2, t, rfl, ht, ht2, ht3, ht4⟩ := hx3.at hkl
              have HTt := hid ht
              have hw1 : IntKind.i64.wrap ((k : Int) + 1) = ((k + 1 : Nat) : Int) := by rw [IntWalk.i64_in _ ⟨by omega, by omega⟩]; omega
              clear ht hx3
              by_cases hin : 0 ≤ t ∧ t < (G.length : Int)
              · as_aux_lemma =>
                  obtain ⟨x, rfl⟩ : ∃ x : Nat, t = (x : Int) := ⟨t.toNat, by omega⟩
                  have hxl : x < G.length := by omega
                  have hd0 : decide (0 ≤ (x : Int)) = true := by simp
                  have hd1 : decide (x < G.length) = true := by simpa using hxl
                  obtain ⟨c1, c2⟩ := HL.out.at hxl
                  have h3 := HL.out.put x true
                  rw [edgL_put HTt.out hxl] at h3
                  obtain ⟨W3, hW3⟩ : ∃ X, X = wr.setCell ⟨g, x, none⟩ (.bool true) := ⟨_, rfl⟩
                  rw [← hW3] at h3
                  have HL3 := hid h3
                  clear h3 hin
                  go_wp2
                  rw [← hW3]
                  go_roundw
                  case rel => exact ⟨k + 1, hkl, by go_num, HL3.out⟩
                  case measure => simp only [intOf]; omega
              · as_aux_lemma =>
                  have HL3 : Hid (Lf14 wb wr g G.length (edgL G.length es (k + 1))) := by rw [← edgL_skip HTt.out hin]; exact HL.out
                  by_cases hneg : 0 ≤ t
                  · have hge : ¬ t < (G.length : Int) := fun h => hin ⟨hneg, h⟩
                    have hd0 : decide (0 ≤ t) = true := by simpa using hneg
                    have hd1 : decide (t < (G.length : Int)) = false := by simpa using hge
                    clear hin
                    go_wp2
                    go_roundw
                    case rel => exact ⟨k + 1, hkl, by go_num, HL3.out⟩
                    case measure => simp only [intOf]; omega
                  · have hd0 : decide (0 ≤ t) = false := by simpa using hneg
                    clear hin
                    go_wp2
                    go_roundw
                    case rel => exact ⟨k + 1, hkl, by go_num, HL3.out⟩
                    case measure => simp only [intOf]; omega
          · as_aux_lemma =>
              have hke : k = es.length := by omega
              have HL3 : Hid (Lf14 wb wr g G.length (edgL G.length es es.length)) := by have h9 := HL.out; rw [hke] at h9; exact h9
              clear hke
              obtain ⟨v', w3, hrun, hgr⟩ := HT.out.grow 31 HL3.out (by omega)
              have HGr := hid (hgr.edge HEs.out)
              have HR := hid hrun
              clear hrun hgr
              go_wp2_with (first
                | (at_builtin; refine wpList_append_run rfl _ _ _ rfl _ _ rfl rfl HR.out ?_))
              go_roundw
              case rel => exact ⟨i + 1, _, hlt, by go_num, HGr.out⟩
              case measure => simp only [intOf]; omega
    · as_aux_lemma =>
        obtain rfl : i = G.length := by omega
        have hdi : decide ((G.length : Int) < (G.length : Int)) = false := by simp
        have HT2 : Hid (Wt14 w wr (.slice ta G.length tc) rb G.length G.length (wayK G 0)) := HT.out
        clear HT
        go_wp2
        go_loopw [8, 9, 10] (fun i _ _ wr => ∃ c : Nat, c ≤ G.length ∧ i = .int .i64 c ∧ Wt14 w wr (.slice ta G.length tc) rb G.length G.length (wayK G c)) (fun i _ _ _ => G.length - (intOf i).toNat)
        case atStart => exact ⟨0, Nat.zero_le _, rfl, HT2.out⟩
        case round =>
          clear HT2
          obtain ⟨c, hc, rfl, hwt⟩ := hrel
          have HT := hid hwt
          clear hwt
          by_cases hc2 : c < G.length
          · as_aux_lemma =>
              have hcd : decide ((c : Int) < (G.length : Int)) = true := by simpa using hc2
              obtain ⟨gr, rc', hv, hrc, _⟩ := HT.out.form (by omega)
              simp only [Value.slice.injEq, true_and] at hv
              obtain ⟨rfl, rfl⟩ := hv
              obtain ⟨Wk, hWk⟩ : ∃ X, X = wayK G c := ⟨_, rfl⟩
              rw [← hWk] at HT
              have HNx : Hid (stp Wk c G.length 0 = wayK G (c + 1)) := by show _ = _; rw [hWk]; rfl
              clear hWk
              have hwc : IntKind.i64.wrap ((c : Int) + 1) = ((c + 1 : Nat) : Int) := by rw [IntWalk.i64_in _ ⟨by omega, by omega⟩]; omega
              go_wp2
              go_loopw [9, 10] (fun x _ wr => ∃ i : Nat, i ≤ G.length ∧ x = .int .i64 i ∧ Wt14 w wr (.slice (some ⟨gr, 0, none⟩) G.length tc) rb G.length G.length (stp Wk c i 0)) (fun x _ _ => G.length - (intOf x).toNat)
              case atStart => exact ⟨0, by omega, rfl, by rw [stp_start]; exact HT.out⟩
              case round =>
                clear HT
                obtain ⟨i, hi, rfl, hR⟩ := hrel
                have HR := hid hR
                clear hR
                by_cases hi2 : i < G.length
                · as_aux_lemma =>
                    have hid2 : decide ((i : Int) < (G.length : Int)) = true := by simpa using hi2
                    have hwi : IntKind.i64.wrap ((i : Int) + 1) = ((i + 1 : Nat) : Int) := by rw [IntWalk.i64_in _ ⟨by omega, by omega⟩]; omega
                    cases hWc : Wk i c with
                    | false =>
                      as_aux_lemma =>
                        have HWc := hid hWc
                        clear hWc
                        go_wp2
                        go_loopw [10] (fun x wr => x = .int .i64 0 ∧ Wt14 w wr (.slice (some ⟨gr, 0, none⟩) G.length tc) rb G.length G.length (stp Wk c i 0)) (fun _ _ => 0)
                        case atStart => exact ⟨rfl, HR.out⟩
                        case round =>
                          clear HR
                          obtain ⟨rfl, hR⟩ := hrel
                          have HR2 : Hid (Wt14 w wr (.slice (some ⟨gr, 0, none⟩) G.length tc) rb G.length G.length (stp Wk c (i + 1) 0)) := by rw [← stp_skip HWc.out]; exact hR
                          obtain ⟨gr', rc', hv, _, hrow⟩ := hR.form (by omega)
                          cases hv
                          have c4 := hrow i hi2
                          have c5 := hR.bit hi2 hc2
                          rw [stp_col, HWc.out] at c5
                          clear hR hrow
                          go_wp2
                          go_roundw
                          case rel => exact ⟨i + 1, by omega, by go_num, HR2.out⟩
                          case measure => simp only [intOf]; omega
                    | true =>
                      as_aux_lemma =>
                        have HWc := hid hWc
                        clear hWc
                        go_wp2
                        go_loopw [10] (fun x wr => ∃ j : Nat, j ≤ G.length ∧ x = .int .i64 j ∧ Wt14 w wr (.slice (some ⟨gr, 0, none⟩) G.length tc) rb G.length G.length (stp Wk c i j)) (fun x _ => G.length - (intOf x).toNat)
                        case atStart => exact ⟨0, by omega, rfl, HR.out⟩
                        case round =>
                          clear HR
                          obtain ⟨j, hj, rfl, hR⟩ := hrel
                          have HR := hid hR
                          obtain ⟨gr', rc', hv, _, hrow⟩ := hR.form (by omega)
                          cases hv
                          have c4 := hrow i hi2
                          have c4k := hrow c hc2
                          have c5 := hR.bit hi2 hc2
                          rw [stp_col, HWc.out] at c5
                          clear hR hrow
                          by_cases hj2 : j < G.length
                          · have c6 := HR.out.bit hi2 hj2
                            rw [stp_at] at c6
                            have c7 := HR.out.bit hc2 hj2
                            rw [stp_row] at c7
                            have c8 := HR.out.free hi2 j
                            have hjd : decide ((j : Int) < (G.length : Int)) = true := by simpa using hj2
                            have hwj : IntKind.i64.wrap ((j : Int) + 1) = ((j + 1 : Nat) : Int) := by rw [IntWalk.i64_in _ ⟨by omega, by omega⟩]; omega
                            obtain ⟨X, hX⟩ : ∃ X, (Wk i j || Wk c j) = X := ⟨_, rfl⟩
                            have hR9 := HR.out.set hi2 j X
                            have hS : updB (stp Wk c i j) i j X = stp Wk c i (j + 1) := by rw [← hX]; exact stp_step HWc.out
                            rw [hS] at hR9
                            have HR9 := hid hR9
                            clear hR9 hS HR
                            cases hWij : Wk i j with
                            | true =>
                              as_aux_lemma =>
                                obtain rfl : X = true := by rw [← hX, hWij]; rfl
                                rw [hWij] at c6
                                clear hX hWij c7
                                go_wp2
                                go_region
                                go_wp2
                                go_roundw
                                case rel => exact ⟨j + 1, by omega, by go_num, HR9.out.later (Below.refl _ _).drew⟩
                                case measure => simp only [intOf]; omega
                            | false =>
                              as_aux_lemma =>
                                have hX2 : Wk c j = X := by rw [← hX, hWij]; rfl
                                rw [hWij] at c6
                                rw [hX2] at c7
                                clear hX hWij hX2
                                go_wp2
                                go_region
                                go_wp2
                                go_roundw
                                case rel => exact ⟨j + 1, by omega, by go_num, HR9.out.later (Below.refl _ _).drew⟩
                                case measure => simp only [intOf]; omega
                          · as_aux_lemma =>
                              have hje : j = G.length := by omega
                              have HR9 : Hid (Wt14 w wr (.slice (some ⟨gr, 0, none⟩) G.length tc) rb G.length G.length (stp Wk c (i + 1) 0)) := HR.out.congr (fun a b _ hb => by rw [hje]; exact stp_next Wk c i G.length a b hb)
                              have hjd : decide ((j : Int) < (G.length : Int)) = false := by simpa using hj2
                              clear hje
                              go_wp2
                              go_roundw
                              case rel => exact ⟨i + 1, by omega, by go_num, HR9.out⟩
                              case measure => simp only [intOf]; omega
                · as_aux_lemma =>
                    have hie : i = G.length := by omega
                    have hid2 : decide ((i : Int) < (G.length : Int)) = false := by simpa using hi2
                    have HR9 : Hid (Wt14 w wr (.slice (some ⟨gr, 0, none⟩) G.length tc) rb G.length G.length (wayK G (c + 1))) := by rw [← HNx.out]; have h9 := HR.out; rw [hie] at h9; exact h9
                    clear hie
                    go_wp2
                    go_roundw
                    case rel => exact ⟨c + 1, by omega, by go_num, HR9.out⟩
                    case measure => simp only [intOf]; omega
          · as_aux_lemma =>
              have hce : c = G.length := by omega
              have hcd : decide ((c : Int) < (G.length : Int)) = false := by simpa using hc2
              have HR9 : Hid (Wt14 w wr (.slice ta G.length tc) rb G.length G.length (wayB G)) := by have h9 := HT.out; rw [hce] at h9; exact h9
              clear hce
              go_wp2
              go_ret
              exact ⟨_, _, rfl, HR9.out⟩

end Go.Proofs.Ytmokokhhheonoaa
