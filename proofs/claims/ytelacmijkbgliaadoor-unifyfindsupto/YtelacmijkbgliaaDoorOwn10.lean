/- Texts of the proof, one behind the other. -/
import Derived.Test.YtelacmijkbgliaaDoorOwn9
import Derived.Test.YtelacmijkbgliaaDoorOwn1
import Derived.Test.YtelacmijkbgliaaDoorOwn4
/- The document's board laid. -/
namespace Go.Proofs.YtelacmijkbgliaaDoor
open Go.RowKit Go.Maps Go.BigFrame

/-- The board of the first n of two terms. -/
def stX (a b : List Int) : Nat → List Int
  | 0 => []
  | 1 => a
  | _ + 2 => a ++ b

def stT (a b : List Int) : Nat → List Int
  | 0 => a
  | _ + 1 => b

def stK (sig : List Sy) (a b : List Int) : Nat → List (List Nat)
  | 0 => []
  | 1 => kidR sig 0 0 a
  | _ + 2 => kidR sig 0 0 a ++ kidR sig a.length 0 b

theorem st_next (sig : List Sy) (a b : List Int) {n : Nat} (h : n < 2) : stX a b (n + 1) = stX a b n ++ stT a b n ∧ stK sig a b (n + 1) = stK sig a b n ++ kidR sig (stX a b n).length 0 (stT a b n) := by
  match n, h with
  | 0, _ => exact ⟨rfl, rfl⟩
  | 1, _ => exact ⟨rfl, rfl⟩

theorem st_len (sig : List Sy) (a b : List Int) (n : Nat) : (stK sig a b n).length = (stX a b n).length := by
  match n with
  | 0 => rfl
  | 1 => exact kidR_len sig 0 a 0
  | n + 2 =>
    show (kidR sig 0 0 a ++ kidR sig a.length 0 b).length = (a ++ b).length
    rw [List.length_append, List.length_append, kidR_len, kidR_len]

/-- The rows while a term's places are gone through from the back: those from p on are told; of the one before, the first j. -/
def rowP (sig : List Sy) (f : Nat) (t : List Int) (p : Nat) : List (List Nat) := List.replicate p [] ++ kidR sig f p (t.drop p)

def rowJ (sig : List Sy) (f : Nat) (t : List Int) (i j : Nat) : List (List Nat) := List.replicate i [] ++ (((stkR sig (i + 1) (t.drop (i + 1))).take j).map (f + ·) :: kidR sig f (i + 1) (t.drop (i + 1)))

theorem rowJ_zero (sig : List Sy) (f : Nat) (t : List Int) (i : Nat) : rowJ sig f t i 0 = rowP sig f t (i + 1) := by
  unfold rowJ rowP
  rw [List.take_zero, List.map_nil, List.replicate_succ', List.append_assoc]
  rfl

theorem rowJ_at (sig : List Sy) (f : Nat) (t : List Int) (i j : Nat) : (rowJ sig f t i j)[i]? = some (((stkR sig (i + 1) (t.drop (i + 1))).take j).map (f + ·)) := by
  unfold rowJ
  rw [List.getElem?_append_right (by rw [List.length_replicate]; exact Nat.le_refl _), List.length_replicate, Nat.sub_self]
  rfl

theorem rowJ_set (sig : List Sy) (f : Nat) (t : List Int) {i j s : Nat} (h : (stkR sig (i + 1) (t.drop (i + 1)))[j]? = some s) : ((rowJ sig f t i j).map natL).set i (natL (((stkR sig (i + 1) (t.drop (i + 1))).take j).map (f + ·)) ++ [((f + s : Nat) : Int)]) = (rowJ sig f t i (j + 1)).map natL := by
  rw [← natL_snoc, ← List.map_set]
  congr 1
  unfold rowJ
  rw [List.set_append_right _ _ (by rw [List.length_replicate]; exact Nat.le_refl _), List.length_replicate, Nat.sub_self, List.set_cons_zero, take_get h, List.map_append]
  rfl

theorem rowP_start (sig : List Sy) (f : Nat) (t : List Int) : (rowP sig f t t.length).map natL = List.replicate t.length [] := by
  unfold rowP
  rw [List.drop_length, kidR, List.append_nil, List.map_replicate]
  rfl

/-- How many terms a place takes from those that wait. -/
def arK (sig : List Sy) (c : Int) : Nat := if c < 0 then 0 else arN sig c

theorem rowJ_done {sig : List Sy} {f : Nat} {t : List Int} {i : Nat} {c : Int} (hc : t[i]? = some c) : rowJ sig f t i (arK sig c) = rowP sig f t i := by
  have hl := (List.getElem?_eq_some_iff.1 hc).1
  have hd : t.drop i = c :: t.drop (i + 1) := by
    rw [← (List.getElem?_eq_some_iff.1 hc).2]
    exact (List.getElem_cons_drop hl).symm
  unfold rowJ rowP arK
  rw [hd, kidR]
  by_cases h0 : c < 0
  · rw [if_pos h0, if_pos h0, List.take_zero]
    rfl
  · rw [if_neg h0, if_neg h0]

theorem stk_next {sig : List Sy} {t : List Int} {i : Nat} {c : Int} (hc : t[i]? = some c) : stkR sig i (t.drop i) = i :: (stkR sig (i + 1) (t.drop (i + 1))).drop (arK sig c) := by
  have hl := (List.getElem?_eq_some_iff.1 hc).1
  have hd : t.drop i = c :: t.drop (i + 1) := by
    rw [← (List.getElem?_eq_some_iff.1 hc).2]
    exact (List.getElem_cons_drop hl).symm
  rw [hd, stkR]
  rfl

theorem arK_le {sig : List Sy} (ha : ArOk sig) {t : List Int} (ht : rowE sig t = 0) {i : Nat} {c : Int} (hc : t[i]? = some c) : arK sig c ≤ (stkR sig (i + 1) (t.drop (i + 1))).length ∧ (¬ c < 0 → c.toNat < sig.length) := by
  have hl := (List.getElem?_eq_some_iff.1 hc).1
  have hcut : t = t.take i ++ c :: t.drop (i + 1) := by
    rw [← (List.getElem?_eq_some_iff.1 hc).2, List.getElem_cons_drop, List.take_append_drop]
  have h1 := row_first.1 ht
  rw [hcut] at h1
  by_cases h0 : c < 0
  · unfold arK
    rw [if_pos h0]
    exact ⟨Nat.zero_le _, fun h => absurd h0 h⟩
  · obtain ⟨g1, g2⟩ := grow_code ha (t.take i) c (t.drop (i + 1)) 1 0 (by omega) (by rw [h1]; simp) h0
    unfold arK
    rw [if_neg h0, stk_len]
    exact ⟨g2, fun _ => g1⟩

theorem stk_few (sig : List Sy) : ∀ (u : List Int) (p : Nat), (stkR sig p u).length ≤ u.length
  | [], _ => Nat.le_refl _
  | c :: u, p => by
    have := stk_few sig u (p + 1)
    rw [stkR, List.length_cons, List.length_cons, List.length_drop]
    omega

theorem rev_at {α : Type} {l : List α} {j : Nat} {s : α} (h : l[j]? = some s) : l.reverse[l.length - 1 - j]? = some s := by
  have hl := (List.getElem?_eq_some_iff.1 h).1
  rw [List.getElem?_reverse (by omega), ← h]
  congr 1
  omega

theorem rev_cut {α : Type} (l : List α) (k : Nat) (x : α) : l.reverse.take (l.length - k) ++ [x] = (x :: l.drop k).reverse := by
  rw [List.reverse_cons]
  congr 1
  rw [List.reverse_drop]

set_option maxRecDepth 100000 in
set_option maxHeartbeats 6400000 in
theorem laidB_any (sv av bv : Value) (sig : List Sy) (a b : List Int) (w : World) (hs : Sg w sv sig) (ha : Is w av a) (hb : Is w bv b) (hA : ArOk sig) (hra : rowE sig a = 0) (hrb : rowE sig b = 0) (hl : a.length + b.length ≤ 1048576) :
    Calls Tryd.prog 48 #[sv, av, bv] w fun e w' => ∃ cv kv lv vs, e = .returned (.pointer (some ⟨w.heap.size, 0, none⟩)) ∧ BdB w w' w.heap.size cv kv lv vs (a ++ b) (kidR sig 0 0 a ++ kidR sig a.length 0 b) (clsR (a ++ b)) := by
  obtain ⟨so, sc, rfl, hso, hsc, _⟩ := Row.flat hs
  obtain ⟨ao, ac, rfl, hao, hac, _⟩ := Row.flat ha
  obtain ⟨bo, bc, rfl, hbo, hbc, _⟩ := Row.flat hb
  unfold maxLen at hsc hac hbc
  have HS := hid hs
  have HA := hid ha
  have HB := hid hb
  have HAr := hid hA
  have HRa := hid hra
  have HRb := hid hrb
  clear hs ha hb hA hra hrb
  obtain ⟨w1, hw1⟩ : ∃ X, X = w.alloc (.cells #[.slice none 0 0, .slice none 0 0, .slice none 0 0] 80) := ⟨_, rfl⟩
  obtain ⟨w2, hw2⟩ : ∃ X, X = w1.alloc (.cells #[.slice ao a.length ac, .slice bo b.length bc] 23) := ⟨_, rfl⟩
  obtain ⟨d, hd⟩ : ∃ d, d = w.heap.size := ⟨_, rfl⟩
  have hs1 : w1.heap.size = d + 1 := by rw [hw1, World.size_alloc, hd]
  have HSz2 : Hid (w2.heap.size = d + 2) := by show _ = _; rw [hw2, World.size_alloc, hs1]
  have C1 : Hid (Below w.heap.size w w1) := by rw [hw1]; exact below_alloc _
  have C2 : Hid (Below w.heap.size w w2) := below_step C1.out (by rw [hw2]; exact below_alloc _)
  have HBl : Hid (w2.heap[d]? = some (.cells #[.slice none 0 0, .slice none 0 0, .slice none 0 0] 80 (0, 0))) := by
    show _ = _
    have h9 : w1.heap[d]? = some (.cells #[.slice none 0 0, .slice none 0 0, .slice none 0 0] 80 (0, 0)) := by rw [hw1, hd]; exact heap_alloc_new _ _
    rw [hw2]
    exact ((below_alloc _).block d (by omega)).trans h9
  have HTr : Hid (w2.cell? ⟨d + 1, 0, none⟩ = some (.slice ao a.length ac) ∧ w2.cell? ⟨d + 1, 1, none⟩ = some (.slice bo b.length bc)) := by
    show _ ∧ _
    rw [← hs1, hw2]
    exact ⟨cell_new rfl, cell_new rfl⟩
  have HL0 : Hid (BdL w2 w2 d (.slice none 0 0) (.slice none 0 0) (.slice none 0 0) [] [] [] []) :=
    ⟨⟨Below.refl _ _, fun _ _ _ => rfl⟩, by have := HSz2.out; omega, HBl.out, World.ownsRow_nil _ _ _ _, rfl, ⟨fun i v xs hi => by
      match i, hi with
      | 0, hi => cases hi; exact nil_own13 _ _
      | 1, hi => cases hi; exact nil_own13 _ _
      | i + 2, hi => simp at hi, fun i j v u xs ys _ hi _ => by
      match i, hi with
      | 0, hi => cases hi; exact fun g h => by simp [Value.ownBlock] at h
      | 1, hi => cases hi; exact fun g h => by simp [Value.ownBlock] at h
      | i + 2, hi => simp at hi⟩⟩
  rw [← hd]
  have HD := hid hd
  clear HBl
  go_enter Tryd.func48, Tryd.ntmps48
  go_upto_region 3 with fail
  rw [← hw1, ← hw2, ← hd]
  clear hw1 hw2 hs1 hd
  go_wp2_with fail
  go_loopw [9] (fun nv wr => ∃ (n : Nat) (cv kv : Value) (vs : List Value), n ≤ 2 ∧ nv = .int .i64 n ∧ BdL w2 wr d cv kv (.slice none 0 0) vs (stX a b n) (stK sig a b n) []) (fun nv _ => 2 - (intOf nv).toNat)
  case atStart => exact ⟨0, _, _, _, Nat.zero_le _, rfl, HL0.out⟩
  case round =>
    clear HL0
    obtain ⟨n, cv, kv, vs, hn, rfl, hbl⟩ := hrel
    have HL := hid hbl
    clear hbl
    by_cases hn2 : n < 2
    · obtain ⟨T, hT⟩ : ∃ T, T = stT a b n := ⟨_, rfl⟩
      obtain ⟨X, hX⟩ : ∃ X, X = stX a b n := ⟨_, rfl⟩
      obtain ⟨K, hK⟩ : ∃ K, K = stK sig a b n := ⟨_, rfl⟩
      have HTr2 : Hid (∃ oT cT, wr.cell? ⟨d + 1, n, none⟩ = some (.slice oT T.length cT) ∧ Is w (.slice oT T.length cT) T ∧ rowE sig T = 0 ∧ T.length ≤ cT ∧ cT ≤ 9223372036854775807 ∧ X.length + T.length ≤ 1048576) := by
        have q : ∀ k v, w2.cell? ⟨d + 1, k, none⟩ = some v → wr.cell? ⟨d + 1, k, none⟩ = some v := fun k v hv => HL.out.exg.cell (by omega) hv
        show ∃ oT cT, _
        match n, hn2 with
        | 0, _ =>
          have hT' : T = a := hT
          have hX' : X = [] := hX
          rw [hT', hX']
          exact ⟨_, _, q 0 _ HTr.out.1, HA.out, HRa.out, hao, hac, by simp; omega⟩
        | 1, _ =>
          have hT' : T = b := hT
          have hX' : X = a := hX
          rw [hT', hX']
          exact ⟨_, _, q 1 _ HTr.out.2, HB.out, HRb.out, hbo, hbc, hl⟩
      obtain ⟨oT, cT, hct, hit, hrt, htl, htc, hxt⟩ := HTr2.out
      have HNx : Hid (stX a b (n + 1) = X ++ T ∧ stK sig a b (n + 1) = K ++ kidR sig X.length 0 T) := by rw [hX, hK, hT]; exact st_next sig a b hn2
      have HKl : Hid (K.length = X.length) := by rw [hX, hK]; exact st_len sig a b n
      rw [← hX, ← hK] at HL
      have HIt := hid hit
      have HRt := hid hrt
      clear hT hX hK hit hrt HTr2
      obtain ⟨x0, x1, x2⟩ := HL.out.cells
      obtain ⟨g0, q0, rfl, _⟩ := HL.out.cod.shape
      have HCw : Hid (Below w.heap.size w wr) := C2.out.trans (HL.out.exg.bel.mono (by have := HD.out; omega))
      obtain ⟨v1, w4, hr4, ⟨e1, e2, e3⟩, hc4, hf4, hL4⟩ := HL.out.codes 23 (HIt.out.kp (Kp.of_below HCw.out)) (by omega)
      subst e3
      have HR4 := hid hr4
      have HL4 := hid hL4
      obtain ⟨w5, hw5⟩ : ∃ Z, Z = w4.setCell ⟨d, 0, none⟩ (.slice e1 (X.length + T.length) e2) := ⟨_, rfl⟩
      rw [← hw5] at HL4
      clear hr4 hL4
      have hmk := run_make13 w5 T.length (by omega)
      obtain ⟨W, hW⟩ : ∃ Z, Z = w5.alloc (.cells (List.replicate T.length (Value.slice none 0 0)).toArray 23) := ⟨_, rfl⟩
      rw [← hW] at hmk
      have HBW : Hid (Below w5.heap.size w5 W) := by rw [hW]; exact below_alloc _
      have HWs : Hid (w5.heap.size < W.heap.size) := by rw [hW, World.size_alloc]; exact Nat.lt_succ_self _
      have HGb : Hid (W.heap[w5.heap.size]? = some (.cells (List.replicate T.length (Value.slice none 0 0)).toArray 23 (0, 0))) := by rw [hW]; exact heap_alloc_new _ _
      obtain ⟨W3, hW3⟩ : ∃ Z, Z = W.alloc (.cells #[] 3) := ⟨_, rfl⟩
      have HG0 : Hid (G13 W W3 w5.heap.size T.length (List.replicate T.length (.slice none 0 0)) (List.replicate T.length []) [(.slice (some ⟨W.heap.size, 0, none⟩) 0 0, [])]) := by
        have h9 := G13.start HWs.out HGb.out
        have h8 := h9.add (w1 := W3) (u := .slice (some ⟨W.heap.size, 0, none⟩) 0 0) (t := []) (by rw [hW3]; exact below_alloc _) ⟨fun k x hk => by simp at hk, by rw [hW3]; exact empty_row 3 (Nat.le_refl _)⟩
        exact h8
      generalize hg : w5.heap.size = g at hmk HG0 HGb HWs HBW
      have HGg := hid hg
      have HCW : Hid (Below w.heap.size w W) := (C2.out.trans (HL4.out.exg.bel.mono (by have := HD.out; omega))).trans ((by rw [← HGg.out] at HBW; exact HBW.out : Below w5.heap.size w5 W).mono (by have h8 := HL4.out.exg.bel.size; have h7 := C2.out.size; omega))
      have HgW : Hid (w.heap.size ≤ g ∧ w2.heap.size ≤ g) := by
        show _ ∧ _
        have h8 := HL4.out.exg.bel.size
        have h7 := C2.out.size
        have h6 := HGg.out
        omega
      have HOld : Hid (∀ Z, Exg W Z g → Below w.heap.size w Z) := fun Z hZ => HCW.out.trans (hZ.bel.mono HgW.out.1)
      have HG1 : Hid (G13 W W3 g T.length (List.replicate T.length (.slice none 0 0)) ((rowP sig X.length T T.length).map natL) [(.slice (some ⟨W.heap.size, 0, none⟩) (stkR sig T.length (T.drop T.length)).length 0, natL (stkR sig T.length (T.drop T.length)).reverse)]) := by
        show G13 _ _ _ _ _ _ _
        rw [rowP_start, List.drop_length]
        exact HG0.out
      have hs0 : (stkR sig T.length (T.drop T.length)).length = 0 := by rw [List.drop_length]; rfl
      have hwl : IntKind.i64.wrap ((T.length : Int) - 1) = (T.length : Int) - 1 := IntWalk.i64_in _ ⟨by omega, by omega⟩
      have HW3 := hid hW3
      clear HG0 hW3 hW
      go_upto_region 9 with (first
        | (at_builtin; refine wpList_append_run rfl _ _ _ rfl _ _ rfl rfl HR4.out ?_))
      rw [← hw5]
      clear hw5 hc4 hf4 x0 x1 x2 hct
      go_upto_region 11 with fail
      rw [← HW3.out]
      clear HW3 hmk
      go_wp2_with fail
      go_loopw [13, 14] (fun xv iv wr => ∃ (p : Nat) (vals : List Value) (gw cw : Nat), p ≤ T.length ∧ iv = .int .i64 ((p : Int) - 1) ∧ xv = .slice (some ⟨gw, 0, none⟩) (stkR sig p (T.drop p)).length cw ∧ G13 W wr g T.length vals ((rowP sig X.length T p).map natL) [(xv, natL (stkR sig p (T.drop p)).reverse)]) (fun _ iv _ => (intOf iv + 1).toNat)
      case atStart => exact ⟨T.length, _, W.heap.size, 0, Nat.le_refl _, rfl, by rw [hs0], by have h9 := HG1.out; rw [hs0] at h9; exact h9⟩
      case round =>
        clear HG1 hs0 hwl
        obtain ⟨p, vals, gw, cw, hp, rfl, rfl, hgg⟩ := hrel
        have HGp := hid hgg
        clear hgg
        by_cases hp0 : p = 0
        · subst hp0
          have hm1 : ((0 : Nat) : Int) - 1 = -1 := rfl
          rw [hm1]
          clear hm1
          have hB0 : Below g w5 wr := HBW.out.trans HGp.out.exg.bel
          have hB1 : Below w5.heap.size w5 wr := by rw [HGg.out]; exact hB0
          obtain ⟨x0, x1, x2⟩ := (HL4.out.later hB1).cells
          obtain ⟨v', w', hrun, ⟨e4, e5, rfl⟩, hc5, hf5, hL5⟩ := HL4.out.kids 78 (by rw [HGg.out]; exact Nat.le_refl _) hB1 (Kq := kidR sig X.length 0 T) HGp.out.drop (by rw [HGg.out]; exact Nat.le_of_lt HWs.out) (by have := HKl.out; omega)
          have HL5 : Hid (BdL w2 (w'.setCell ⟨d, 1, none⟩ (.slice e4 (K.length + T.length) e5)) d (.slice e1 (X.length + T.length) e2) (.slice e4 (K.length + T.length) e5) (.slice none 0 0) (vs ++ vals) (stX a b (n + 1)) (stK sig a b (n + 1)) []) := by
            show BdL _ _ _ _ _ _ _ _ _ _
            rw [HNx.out.1, HNx.out.2]
            exact hL5
          have HRun := hid hrun
          clear hB0 hB1 hrun hL5
          -- F:d
          go_wp2_with (first
            | (at_builtin; refine wpList_append_run rfl _ _ _ rfl _ _ rfl rfl HRun.out ?_))
          go_roundw
          case rel => exact ⟨n + 1, _, _, _, by omega, by go_num, HL5.out⟩
          case measure => simp only [intOf]; omega
        · obtain ⟨i, rfl⟩ : ∃ i, p = i + 1 := ⟨p - 1, by omega⟩
          have hiv : ((i + 1 : Nat) : Int) - 1 = (i : Int) := by omega
          rw [hiv]
          clear hiv hp0
          have hiT : i < T.length := by omega
          have HCr := hid (HOld.out wr HGp.out.exg)
          obtain ⟨gt, ot, c, rfl, hci, hcc, _, _⟩ := (HIt.out.kp (Kp.of_below HCr.out)).at hiT
          obtain ⟨har, hsg⟩ := arK_le HAr.out HRt.out hci
          obtain ⟨kk, hkk⟩ : ∃ k, k = arK sig c := ⟨_, rfl⟩
          obtain ⟨kz, hkz⟩ : ∃ z : Int, z = (kk : Int) := ⟨_, rfl⟩
          have HKz := hid hkz
          clear hkz
          rw [← hkk] at har
          have HC := hid hci
          have HKk := hid hkk
          have HAr2 := hid har
          have HSg := hid hsg
          clear hci hkk har hsg
          go_upto_if 62 with fail
          go_cut [15] from 62 to 70 (fun x wx => x = .int .i64 kz ∧ wx = wr)
          case first =>
            by_cases hc0 : c < 0
            · have hd1 : decide (0 ≤ c) = false := by simp; omega
              have hz : kz = 0 := by rw [HKz.out, HKk.out]; unfold arK; rw [if_pos hc0]; rfl
              clear HKz
              subst hz
              -- F:a
              go_wp2
              go_meet
              case rel => exact ⟨rfl, rfl⟩
            · have hd1 : decide (0 ≤ c) = true := by simp; omega
              obtain ⟨cn, rfl⟩ : ∃ cn : Nat, c = cn := ⟨c.toNat, by omega⟩
              have hcl := HSg.out hc0
              rw [Int.toNat_natCast] at hcl
              obtain ⟨sg, soff, nm, ar, rfl, hs1, hs2, hs3, hs4, hs5, hs6⟩ := HS.out.at hcl
              have harI := HAr.out _ (List.mem_of_getElem? hs1)
              simp only at harI
              have hz : kz = ar := by
                rw [HKz.out, HKk.out]
                unfold arK
                rw [if_neg hc0]
                unfold arN
                rw [Int.toNat_natCast, hs1]
                simp only
                omega
              have hs3W := (Kp.of_below HCr.out).cell _ _ hs3
              clear hs1 hs2 hs3 hs6 HKz
              subst hz
              -- F:b
              go_wp2
              go_meet
              case rel => exact ⟨rfl, rfl⟩
          obtain ⟨rfl, hwx⟩ := hcut
          have hkz := HKz.out
          clear HKz
          subst hkz
          have hwx' := hwx.symm
          subst hwx'
          clear hwx
          obtain ⟨L, hL⟩ : ∃ L, L = (stkR sig (i + 1) (T.drop (i + 1))).length := ⟨_, rfl⟩
          have HLn := hid hL
          rw [← hL] at HGp HAr2
          rw [← hL]
          have hkL : kk ≤ L := HAr2.out
          have hLT : L ≤ 1048576 := by
            have h9 := stk_few sig (T.drop (i + 1)) (i + 1)
            rw [← hL, List.length_drop] at h9
            omega
          clear hL
          go_wp2_with fail
          go_loopw [16] (fun jv wr => ∃ (j : Nat) (vals : List Value), j ≤ kk ∧ jv = .int .i64 j ∧ G13 W wr g T.length vals ((rowJ sig X.length T i j).map natL) [(.slice (some ⟨gw, 0, none⟩) L cw, natL (stkR sig (i + 1) (T.drop (i + 1))).reverse)]) (fun jv _ => kk - (intOf jv).toNat)
          case atStart => exact ⟨0, vals, Nat.zero_le _, rfl, by rw [rowJ_zero]; exact HGp.out⟩
          case round =>
            clear HGp HCr hcc
            obtain ⟨j, vals, hj, rfl, hgg⟩ := hrel
            have HG := hid hgg
            clear hgg
            by_cases hjk : j < kk
            · obtain ⟨s, hs⟩ : ∃ s, (stkR sig (i + 1) (T.drop (i + 1)))[j]? = some s := ⟨_, List.getElem?_eq_getElem (by rw [← HLn.out]; omega)⟩
              have hsl : s < T.length := by
                have := stk_in sig _ _ s (List.mem_of_getElem? hs)
                rw [List.length_drop] at this
                omega
              obtain ⟨v, r, hv1, hr1, ho1, hcv, hfv⟩ := HG.out.one hiT
              have hr2 : r = natL (((stkR sig (i + 1) (T.drop (i + 1))).take j).map (X.length + ·)) := by
                have h9 := hr1
                rw [List.getElem?_map, rowJ_at, Option.map_some, Option.some.injEq] at h9
                exact h9.symm
              have hrl : r.length ≤ 1048576 := by rw [hr2, natL_len, List.length_map, List.length_take]; omega
              obtain ⟨vo, vc, rfl, _, _⟩ := ho1.shape
              have HVv := hid hv1
              have HVc := hid hcv
              have HRr := hid hr1
              have HWn : Hid ((natL (stkR sig (i + 1) (T.drop (i + 1))).reverse)[L - 1 - j]? = some (s : Int)) := by
                show _ = _
                rw [HLn.out]
                exact natL_get (rev_at hs)
              have HWc : Hid (wr.cell? ⟨gw, L - 1 - j, none⟩ = some (.int .i64 (s : Int))) := (OwI.at HG.out.beside HWn.out).1
              obtain ⟨fs, hfs⟩ : ∃ z, z = X.length + s := ⟨_, rfl⟩
              have hfl : fs ≤ 1048576 := by omega
              have HSt : Hid (((rowJ sig X.length T i j).map natL).set i (r ++ [(fs : Int)]) = (rowJ sig X.length T i (j + 1)).map natL) := by
                show _ = _
                rw [hr2, hfs]
                exact rowJ_set sig X.length T hs
              have e10 : IntKind.i64.wrap ((L : Int) - 1) = ((L - 1 : Nat) : Int) := by rw [IntWalk.i64_in _ ⟨by omega, by omega⟩]; omega
              have e12 : IntKind.i64.wrap (((L - 1 : Nat) : Int) - (j : Int)) = ((L - 1 - j : Nat) : Int) := by rw [IntWalk.i64_in _ ⟨by omega, by omega⟩]; omega
              have e15 : IntKind.i64.wrap ((X.length : Int) + (s : Int)) = (fs : Int) := by rw [IntWalk.i64_in _ ⟨by omega, by omega⟩]; omega
              have e13 : L - 1 - j < L := by omega
              clear hs hv1 hr1 hr2 ho1 hcv hfv hfs
              go_upto_region 20 with fail
              -- R:push
              have hS : wr.drew.cell? ⟨gw, L - 1 - j, none⟩ = some (.int .i64 (s : Int)) := (Kp.of_below (drawn_below1 wr)).cell _ _ HWc.out
              refine wp_region_held_drew (S := fun w' => w'.cell? ⟨gw, L - 1 - j, none⟩ = some (.int .i64 (s : Int))) (by kernel_rfl) hS (fun _ => ?_)
              obtain ⟨z0, hz0⟩ : ∃ X, X = wr.drew := ⟨_, rfl⟩
              have b0 : Below wr.heap.size wr z0 := by rw [hz0]; exact drawn_below1 _
              rw [← hz0] at hS ⊢
              clear hz0
              refine wpAnyH_take (i := 0) (v := .slice (some ⟨g, 0, none⟩) T.length T.length) rfl (by kernel_rfl) (by kernel_rfl) (by kernel_rfl) (fun _ _ _ h => h) (Or.inl ⟨by kernel_rfl, fun w' h => by go_simp⟩) hS ?_
              (try simp only [Act.put]); (try simp only [List.setIfInBounds_toArray]); (try simp only [List.set_cons_zero, List.set_cons_succ])
              refine wpAnyH_take (i := 1) (v := .int .i64 (i : Int)) rfl (by kernel_rfl) (by kernel_rfl) (by kernel_rfl) (fun _ _ _ h => h) (Or.inl ⟨by kernel_rfl, fun w' h => by go_simp⟩) hS ?_
              (try simp only [Act.put]); (try simp only [List.setIfInBounds_toArray]); (try simp only [List.set_cons_zero, List.set_cons_succ])
              refine wpAnyH_take (i := 2) (v := .slice (some ⟨g, 0, none⟩) T.length T.length) rfl (by kernel_rfl) (by kernel_rfl) (by kernel_rfl) (fun _ _ _ h => h) (Or.inl ⟨by kernel_rfl, fun w' h => by go_simp⟩) hS ?_
              (try simp only [Act.put]); (try simp only [List.setIfInBounds_toArray]); (try simp only [List.set_cons_zero, List.set_cons_succ])
              refine wpAnyH_take (i := 3) (v := .int .i64 (i : Int)) rfl (by kernel_rfl) (by kernel_rfl) (by kernel_rfl) (fun _ _ _ h => h) (Or.inl ⟨by kernel_rfl, fun w' h => by go_simp⟩) hS ?_
              (try simp only [Act.put]); (try simp only [List.setIfInBounds_toArray]); (try simp only [List.set_cons_zero, List.set_cons_succ])
              refine wpAnyH_take (i := 4) (v := .pointer (some ⟨g, i, none⟩)) rfl (by kernel_rfl) (by kernel_rfl) (by kernel_rfl) (fun _ _ _ h => h) (Or.inl ⟨by kernel_rfl, fun w' h => by go_simp⟩) hS ?_
              (try simp only [Act.put]); (try simp only [List.setIfInBounds_toArray]); (try simp only [List.set_cons_zero, List.set_cons_succ])
              refine wpAnyH_take (i := 6) (v := .int .i64 (X.length : Int)) rfl (by kernel_rfl) (by kernel_rfl) (by kernel_rfl) (fun _ _ _ h => h) (Or.inl ⟨by kernel_rfl, fun w' h => by go_simp⟩) hS ?_
              (try simp only [Act.put]); (try simp only [List.setIfInBounds_toArray]); (try simp only [List.set_cons_zero, List.set_cons_succ])
              refine wpAnyH_take (i := 7) (v := .slice (some ⟨gw, 0, none⟩) L cw) rfl (by kernel_rfl) (by kernel_rfl) (by kernel_rfl) (fun _ _ _ h => h) (Or.inl ⟨by kernel_rfl, fun w' h => by go_simp⟩) hS ?_
              (try simp only [Act.put]); (try simp only [List.setIfInBounds_toArray]); (try simp only [List.set_cons_zero, List.set_cons_succ])
              refine wpAnyH_take (i := 8) (v := .slice (some ⟨gw, 0, none⟩) L cw) rfl (by kernel_rfl) (by kernel_rfl) (by kernel_rfl) (fun _ _ _ h => h) (Or.inl ⟨by kernel_rfl, fun w' h => by go_simp⟩) hS ?_
              (try simp only [Act.put]); (try simp only [List.setIfInBounds_toArray]); (try simp only [List.set_cons_zero, List.set_cons_succ])
              refine wpAnyH_take (i := 9) (v := .int .i64 (L : Int)) rfl (by kernel_rfl) (by kernel_rfl) (by kernel_rfl) (fun _ _ _ h => h) (Or.inl ⟨by kernel_rfl, fun w' h => by go_simp⟩) hS ?_
              (try simp only [Act.put]); (try simp only [List.setIfInBounds_toArray]); (try simp only [List.set_cons_zero, List.set_cons_succ])
              refine wpAnyH_take (i := 10) (v := .int .i64 ((L - 1 : Nat) : Int)) rfl (by kernel_rfl) (by kernel_rfl) (by kernel_rfl) (fun _ _ _ h => h) (Or.inl ⟨by kernel_rfl, fun w' h => by go_simp⟩) hS ?_
              (try simp only [Act.put]); (try simp only [List.setIfInBounds_toArray]); (try simp only [List.set_cons_zero, List.set_cons_succ])
              refine wpAnyH_take (i := 11) (v := .int .i64 (j : Int)) rfl (by kernel_rfl) (by kernel_rfl) (by kernel_rfl) (fun _ _ _ h => h) (Or.inl ⟨by kernel_rfl, fun w' h => by go_simp⟩) hS ?_
              (try simp only [Act.put]); (try simp only [List.setIfInBounds_toArray]); (try simp only [List.set_cons_zero, List.set_cons_succ])
              refine wpAnyH_take (i := 12) (v := .int .i64 ((L - 1 - j : Nat) : Int)) rfl (by kernel_rfl) (by kernel_rfl) (by kernel_rfl) (fun _ _ _ h => h) (Or.inl ⟨by kernel_rfl, fun w' h => by go_simp⟩) hS ?_
              (try simp only [Act.put]); (try simp only [List.setIfInBounds_toArray]); (try simp only [List.set_cons_zero, List.set_cons_succ])
              refine wpAnyH_take (i := 13) (v := .pointer (some ⟨gw, L - 1 - j, none⟩)) rfl (by kernel_rfl) (by kernel_rfl) (by kernel_rfl) (fun _ _ _ h => h) (Or.inl ⟨by kernel_rfl, fun w' h => by go_simp⟩) hS ?_
              (try simp only [Act.put]); (try simp only [List.setIfInBounds_toArray]); (try simp only [List.set_cons_zero, List.set_cons_succ])
              refine wpAnyH_take (i := 14) (v := .int .i64 (s : Int)) rfl (by kernel_rfl) (by kernel_rfl) (by kernel_rfl) (fun _ _ _ h => h) (Or.inl ⟨by kernel_rfl, fun w' h => by have hh0 := h; go_simp⟩) hS ?_
              (try simp only [Act.put]); (try simp only [List.setIfInBounds_toArray]); (try simp only [List.set_cons_zero, List.set_cons_succ])
              refine wpAnyH_take (i := 15) (v := .int .i64 (fs : Int)) rfl (by kernel_rfl) (by kernel_rfl) (by kernel_rfl) (fun _ _ _ h => h) (Or.inl ⟨by kernel_rfl, fun w' h => by go_simp⟩) hS ?_
              (try simp only [Act.put]); (try simp only [List.setIfInBounds_toArray]); (try simp only [List.set_cons_zero, List.set_cons_succ])
              refine wpAnyH_ready (rs := [5, 16]) (by kernel_rfl) (by simp) (AllReadyH.cons rfl (fun Kc hKc => ?_) (AllReadyH.cons rfl (fun Kc hKc => ?_) AllReadyH.nil))
              · have hl0 := (Kp.of_below b0).cell _ _ HVc.out
                go_simp
                have k5 := hS
                refine hKc.out _ _ k5 (fun _ => ?_)
                clear hKc Kc hS
                have hS := k5
                (try simp only [Act.put]); (try simp only [List.setIfInBounds_toArray]); (try simp only [List.set_cons_zero, List.set_cons_succ])
                refine wpAnyH_ready (rs := [16]) (by kernel_rfl) (by simp) (AllReadyH.cons rfl (fun Kc hKc => ?_) AllReadyH.nil)
                go_simp
                have k16 : (z0.alloc (.cells #[.int .i64 (fs : Int)] 3)).cell? ⟨gw, L - 1 - j, none⟩ = some (.int .i64 (s : Int)) := (Kp.of_below (below_alloc (.cells #[.int .i64 (fs : Int)] 3))).cell _ _ hS
                refine hKc.out _ _ k16 (fun _ => ?_)
                clear hKc Kc hS
                have hS := k16
                (try simp only [Act.put]); (try simp only [List.setIfInBounds_toArray]); (try simp only [List.set_cons_zero, List.set_cons_succ])
                obtain ⟨v2, z2, hrun, ⟨e5, e6, e7, rfl⟩, hc2, hf2, hG2, hO2⟩ := (HG.out.later b0).push9 23 (c := (fs : Int)) hiT HVv.out HRr.out (by omega) (by omega) (by omega)
                have HG2 := hid hG2
                have k17 : z2.cell? ⟨gw, L - 1 - j, none⟩ = some (.int .i64 (s : Int)) := by
                  have h9 := hO2
                  exact (OwI.at (k := L - 1 - j) (x := (s : Int)) hO2 HWn.out).1
                clear hG2 hO2
                refine wpAnyH_ready (rs := [17]) (by kernel_rfl) (by simp) (AllReadyH.cons rfl (fun Kc hKc => ?_) AllReadyH.nil)
                refine step_append13 (by kernel_rfl) _ _ 23 rfl _ _ rfl rfl hrun ?_
                refine hKc.out _ _ k17 (fun _ => ?_)
                clear hKc Kc hS
                have hS := k17
                (try simp only [Act.put]); (try simp only [List.setIfInBounds_toArray]); (try simp only [List.set_cons_zero, List.set_cons_succ])
                refine wpAnyH_take (i := 18) (v := .pointer (some ⟨g, i, none⟩)) rfl (by kernel_rfl) (by kernel_rfl) (by kernel_rfl) (fun _ _ _ h => h) (Or.inl ⟨by kernel_rfl, fun w' h => by go_simp⟩) hS ?_
                (try simp only [Act.put]); (try simp only [List.setIfInBounds_toArray]); (try simp only [List.set_cons_zero, List.set_cons_succ])
                refine wpAnyH_ready (rs := [19]) (by kernel_rfl) (by simp) (AllReadyH.cons rfl (fun Kc hKc => ?_) AllReadyH.nil)
                go_simp
                have k19 : (z2.setCell ⟨g, i, none⟩ (.slice e5 e6 e7)).cell? ⟨gw, L - 1 - j, none⟩ = some (.int .i64 (s : Int)) := (OwI.at (k := L - 1 - j) (x := (s : Int)) HG2.out.beside HWn.out).1
                refine hKc.out _ _ k19 (fun _ => ?_)
                clear hKc Kc hS
                have hS := k19
                (try simp only [Act.put]); (try simp only [List.setIfInBounds_toArray]); (try simp only [List.set_cons_zero, List.set_cons_succ])
                refine wpAnyH_done (by kernel_rfl) ?_ _
                (try simp only [Act.put]); (try simp only [List.getElem_toArray]); (try simp only [List.getElem_cons_succ, List.getElem_cons_zero]); (try simp only [List.setIfInBounds_toArray]); (try simp only [List.set_cons_succ, List.set_cons_zero])
                clear hS hrun hc2 hf2 k17 k19
                go_wp2
                go_roundw
                case rel => exact ⟨j + 1, _, by omega, by go_num, by rw [← HSt.out]; exact HG2.out⟩
                case measure => simp only [intOf]; omega
              · go_simp
                have k16 : (z0.alloc (.cells #[.int .i64 (fs : Int)] 3)).cell? ⟨gw, L - 1 - j, none⟩ = some (.int .i64 (s : Int)) := (Kp.of_below (below_alloc (.cells #[.int .i64 (fs : Int)] 3))).cell _ _ hS
                refine hKc.out _ _ k16 (fun _ => ?_)
                clear hKc Kc hS
                have hS := k16
                (try simp only [Act.put]); (try simp only [List.setIfInBounds_toArray]); (try simp only [List.set_cons_zero, List.set_cons_succ])
                refine wpAnyH_ready (rs := [5]) (by kernel_rfl) (by simp) (AllReadyH.cons rfl (fun Kc hKc => ?_) AllReadyH.nil)
                have hl0 := (Kp.of_below (below_step b0 (below_alloc (.cells #[.int .i64 (fs : Int)] 3)))).cell _ _ HVc.out
                go_simp
                have k5 := hS
                refine hKc.out _ _ k5 (fun _ => ?_)
                clear hKc Kc hS
                have hS := k5
                (try simp only [Act.put]); (try simp only [List.setIfInBounds_toArray]); (try simp only [List.set_cons_zero, List.set_cons_succ])
                obtain ⟨v2, z2, hrun, ⟨e5, e6, e7, rfl⟩, hc2, hf2, hG2, hO2⟩ := (HG.out.later b0).push9 23 (c := (fs : Int)) hiT HVv.out HRr.out (by omega) (by omega) (by omega)
                have HG2 := hid hG2
                have k17 : z2.cell? ⟨gw, L - 1 - j, none⟩ = some (.int .i64 (s : Int)) := by
                  have h9 := hO2
                  exact (OwI.at (k := L - 1 - j) (x := (s : Int)) hO2 HWn.out).1
                clear hG2 hO2
                refine wpAnyH_ready (rs := [17]) (by kernel_rfl) (by simp) (AllReadyH.cons rfl (fun Kc hKc => ?_) AllReadyH.nil)
                refine step_append13 (by kernel_rfl) _ _ 23 rfl _ _ rfl rfl hrun ?_
                refine hKc.out _ _ k17 (fun _ => ?_)
                clear hKc Kc hS
                have hS := k17
                (try simp only [Act.put]); (try simp only [List.setIfInBounds_toArray]); (try simp only [List.set_cons_zero, List.set_cons_succ])
                refine wpAnyH_take (i := 18) (v := .pointer (some ⟨g, i, none⟩)) rfl (by kernel_rfl) (by kernel_rfl) (by kernel_rfl) (fun _ _ _ h => h) (Or.inl ⟨by kernel_rfl, fun w' h => by go_simp⟩) hS ?_
                (try simp only [Act.put]); (try simp only [List.setIfInBounds_toArray]); (try simp only [List.set_cons_zero, List.set_cons_succ])
                refine wpAnyH_ready (rs := [19]) (by kernel_rfl) (by simp) (AllReadyH.cons rfl (fun Kc hKc => ?_) AllReadyH.nil)
                go_simp
                have k19 : (z2.setCell ⟨g, i, none⟩ (.slice e5 e6 e7)).cell? ⟨gw, L - 1 - j, none⟩ = some (.int .i64 (s : Int)) := (OwI.at (k := L - 1 - j) (x := (s : Int)) HG2.out.beside HWn.out).1
                refine hKc.out _ _ k19 (fun _ => ?_)
                clear hKc Kc hS
                have hS := k19
                (try simp only [Act.put]); (try simp only [List.setIfInBounds_toArray]); (try simp only [List.set_cons_zero, List.set_cons_succ])
                refine wpAnyH_done (by kernel_rfl) ?_ _
                (try simp only [Act.put]); (try simp only [List.getElem_toArray]); (try simp only [List.getElem_cons_succ, List.getElem_cons_zero]); (try simp only [List.setIfInBounds_toArray]); (try simp only [List.set_cons_succ, List.set_cons_zero])
                clear hS hrun hc2 hf2 k17 k19
                go_wp2
                go_roundw
                case rel => exact ⟨j + 1, _, by omega, by go_num, by rw [← HSt.out]; exact HG2.out⟩
                case measure => simp only [intOf]; omega
            · have hje : j = kk := by omega
              subst hje
              have hdj : decide ((j : Int) < (j : Int)) = false := by simp
              have HRd : Hid (rowJ sig X.length T i j = rowP sig X.length T i) := by
                show _ = _
                rw [HKk.out]
                exact rowJ_done HC.out
              have hbs := HG.out.beside
              have hLc : L ≤ cw := by
                obtain ⟨_, _, e9, h9, _⟩ := hbs.shape
                simp only [Value.slice.injEq] at e9
                rw [natL_len, List.length_reverse, ← HLn.out] at e9 h9
                rw [e9.2.2]
                exact h9
              have hwr21 : IntKind.i64.wrap ((L : Int) - (j : Int)) = ((L - j : Nat) : Int) := by rw [IntWalk.i64_in _ ⟨by omega, by omega⟩]; omega
              have hwr13 : IntKind.i64.wrap ((i : Int) - 1) = (i : Int) - 1 := IntWalk.i64_in _ ⟨by omega, by omega⟩
              have hhd := hbs.head (m := L - j) (by rw [natL_len, List.length_reverse, ← HLn.out]; omega)
              obtain ⟨v', w', hrun, ho2, hg2, hn2⟩ := join_one 23 hhd (c := (i : Int)) (by omega) (by omega) HG.out.exg.bel.size (by rw [List.length_take, natL_len, List.length_reverse, ← HLn.out]; omega)
              rw [natL_take, ← natL_snoc, HLn.out, rev_cut, show j = arK sig c from HKk.out, ← stk_next HC.out] at ho2
              have hG2 := (HG.out.later (below_alloc (.cells #[.int .i64 (i : Int)] 3))).next (u' := v') hg2 ho2 (by
                rcases hn2 with hn2 | hn2
                · exact .inl hn2
                · exact .inr ⟨_, hn2, Nat.le_refl _⟩)
              have hfm := ho2.2
              obtain ⟨g3, c3, hv3⟩ := own_form hfm (by rw [natL_len, List.length_reverse, stk_next HC.out, List.length_cons]; omega)
              rw [natL_len, List.length_reverse] at hv3
              subst hv3
              rw [HRd.out] at hG2
              have HG2 := hid hG2
              have HRun := hid hrun
              clear hbs hhd hrun ho2 hg2 hn2 hG2 hfm HRd
              -- F:c
              go_wp2_with (first
                | (at_builtin; refine wpList_append_run rfl _ _ _ rfl _ _ rfl rfl HRun.out ?_))
              go_roundw
              case rel => exact ⟨i, vals, g3, c3, by omega, rfl, rfl, HG2.out⟩
              case measure => simp only [intOf]; omega
    · have hn2e : n = 2 := by omega
      have hdn : decide (n < 2) = false := by simpa using hn2
      rw [hn2e] at HL
      clear hn2e
      obtain ⟨A, hA⟩ : ∃ A, A = stX a b 2 := ⟨_, rfl⟩
      obtain ⟨K, hK⟩ : ∃ K, K = stK sig a b 2 := ⟨_, rfl⟩
      rw [← hA, ← hK] at HL
      have HAe : Hid (a ++ b = A) := by rw [hA]; rfl
      have HKe : Hid (kidR sig 0 0 a ++ kidR sig a.length 0 b = K) := by rw [hK]; rfl
      have hAl : A.length ≤ 1048576 := by rw [← HAe.out, List.length_append]; exact hl
      clear hA hK
      -- F:e
      obtain ⟨g0, q0, rfl, _⟩ := HL.out.cod.shape
      go_wp2
      go_loopw [17] (fun iv wr => ∃ (i : Nat) (lv : Value), i ≤ A.length ∧ iv = .int .i64 i ∧ BdL w2 wr d (.slice g0 A.length q0) kv lv vs A K ((clsR A).take i)) (fun iv _ => A.length - (intOf iv).toNat)
      case atStart => exact ⟨0, _, Nat.zero_le _, rfl, by rw [List.take_zero]; exact HL.out⟩
      case round =>
        clear HL
        obtain ⟨i, lv, hi, rfl, hbl⟩ := hrel
        have HL := hid hbl
        obtain ⟨x0, x1, x2⟩ := hbl.cells
        clear hbl
        by_cases hil : i < A.length
        · obtain ⟨c, hc⟩ : ∃ c, A[i]? = some c := ⟨_, List.getElem?_eq_getElem hil⟩
          have HC := hid hc
          have HTk : Hid ((clsR A).take (i + 1) = (clsR A).take i ++ [fstC A i]) := take_get (clsR_at hil)
          have HTl : Hid (((clsR A).take i).length ≤ 1048576) := by show _ ≤ _; rw [List.length_take]; omega
          have hfi : fstC A i ≤ i := ((clB_start A).id i _ (clsR_at hil)).1
          clear hc x1 x2
          go_wp2
          go_loopw [18, 19] (fun cv kk wr => ∃ k : Nat, k ≤ i ∧ cv = .int .i64 i ∧ kk = .int .i64 k ∧ (∀ j, j < k → A[j]? ≠ some c) ∧ BdL w2 wr d (.slice g0 A.length q0) kv lv vs A K ((clsR A).take i)) (fun _ kk _ => i - (intOf kk).toNat)
          case atStart => exact ⟨0, Nat.zero_le _, rfl, rfl, fun j hj => by omega, HL.out⟩
          case round =>
            clear HL
            obtain ⟨k, hk, rfl, rfl, hno, hbl⟩ := hrel
            have HL := hid hbl
            have HNo := hid hno
            obtain ⟨x0, x1, x2⟩ := hbl.cells
            clear hbl hno
            obtain ⟨gX, qX, e1, y1⟩ := HL.out.atX HC.out
            simp only [Value.slice.injEq, true_and] at e1
            obtain ⟨rfl, rfl⟩ := e1
            by_cases hki : k < i
            · by_cases hc0 : c < 0
              · have hd0 : decide (c < 0) = true := by simpa using hc0
                obtain ⟨e, he⟩ : ∃ e, A[k]? = some e := ⟨_, List.getElem?_eq_getElem (by omega)⟩
                obtain ⟨gX', qX', e1, y2⟩ := HL.out.atX he
                simp only [Value.slice.injEq, Option.some.injEq, Addr.mk.injEq, and_true, true_and] at e1
                obtain ⟨rfl, rfl⟩ := e1
                have HE := hid he
                have hkl : k < A.length := by omega
                have HLd := hid (HL.out.later (drawn_below1 wr))
                clear he
                by_cases hec : e = c
                · have hq : (e == c) = true := by simp [hec]
                  have HF : Hid (fstC A i = k) := by
                    show _ = _
                    rw [fstC_var HC.out hc0]
                    exact idxB_is (by rw [HE.out, hec]) HNo.out
                  obtain ⟨wd, hwd⟩ : ∃ Z, Z = wr.drew := ⟨_, rfl⟩
                  rw [← hwd] at HLd
                  have z2 := HLd.out.cells.2.2
                  obtain ⟨v', w', hrun, ⟨f1, f2, rfl⟩, hc9, hf9, hL9⟩ := HLd.out.class 23 (c := k) (by omega) (by have := HTl.out; omega)
                  have HRun := hid hrun
                  have HL9 : Hid (BdL w2 (w'.setCell ⟨d, 2, none⟩ (.slice f1 (((clsR A).take i).length + 1) f2)) d (.slice (some ⟨gX, 0, none⟩) A.length q0) kv (.slice f1 (((clsR A).take i).length + 1) f2) vs A K ((clsR A).take (i + 1))) := by
                    show BdL _ _ _ _ _ _ _ _ _ _
                    rw [HTk.out, HF.out]
                    exact hL9
                  have HWd := hid hwd
                  generalize ((clsR A).take i).length + 1 = m9 at HRun HL9 hf9 hc9
                  clear hrun hL9 hwd
                  go_wp2
                  go_region
                  rw [← HWd.out]
                  go_wp2_with (first
                    | (at_builtin; refine wpList_append_run rfl _ _ _ rfl _ _ rfl rfl HRun.out ?_))
                  go_roundw
                  case rel => exact ⟨i + 1, _, hil, by go_num, HL9.out⟩
                  case measure => simp only [intOf]; omega
                · have hq : (e == c) = false := by simpa using hec
                  have HN : Hid (∀ j, j < k + 1 → A[j]? ≠ some c) := fun j hj => by
                    by_cases hjk : j < k
                    · exact HNo.out j hjk
                    · obtain rfl : j = k := by omega
                      rw [HE.out]
                      exact fun h => hec (Option.some.inj h)
                  go_wp2
                  go_region
                  go_wp2
                  go_roundw
                  case rel => exact ⟨k + 1, by omega, rfl, by go_num, HN.out, HLd.out⟩
                  case measure => simp only [intOf]; omega
              · have hd0 : decide (c < 0) = false := by simp; omega
                have HF : Hid (fstC A i = i) := fstC_sym HC.out hc0
                obtain ⟨v', w', hrun, ⟨f1, f2, rfl⟩, hc9, hf9, hL9⟩ := HL.out.class 23 (c := i) (by omega) (by have := HTl.out; omega)
                have HRun := hid hrun
                have HL9 : Hid (BdL w2 (w'.setCell ⟨d, 2, none⟩ (.slice f1 (((clsR A).take i).length + 1) f2)) d (.slice (some ⟨gX, 0, none⟩) A.length q0) kv (.slice f1 (((clsR A).take i).length + 1) f2) vs A K ((clsR A).take (i + 1))) := by
                  show BdL _ _ _ _ _ _ _ _ _ _
                  rw [HTk.out, HF.out]
                  exact hL9
                generalize ((clsR A).take i).length + 1 = m9 at HRun HL9 hf9 hc9
                clear hrun hL9
                go_wp2_with (first
                  | (at_builtin; refine wpList_append_run rfl _ _ _ rfl _ _ rfl rfl HRun.out ?_))
                go_roundw
                case rel => exact ⟨i + 1, _, hil, by go_num, HL9.out⟩
                case measure => simp only [intOf]; omega
            · obtain rfl : k = i := by omega
              have HF : Hid (fstC A k = k) := by
                show _ = _
                by_cases hc0 : c < 0
                · rw [fstC_var HC.out hc0]
                  exact idxB_is HC.out HNo.out
                · exact fstC_sym HC.out hc0
              obtain ⟨v', w', hrun, ⟨f1, f2, rfl⟩, hc9, hf9, hL9⟩ := HL.out.class 23 (c := k) (by omega) (by have := HTl.out; omega)
              have HRun := hid hrun
              have HL9 : Hid (BdL w2 (w'.setCell ⟨d, 2, none⟩ (.slice f1 (((clsR A).take k).length + 1) f2)) d (.slice (some ⟨gX, 0, none⟩) A.length q0) kv (.slice f1 (((clsR A).take k).length + 1) f2) vs A K ((clsR A).take (k + 1))) := by
                show BdL _ _ _ _ _ _ _ _ _ _
                rw [HTk.out, HF.out]
                exact hL9
              generalize ((clsR A).take k).length + 1 = m9 at HRun HL9 hf9 hc9
              clear hrun hL9
              go_wp2_with (first
                | (at_builtin; refine wpList_append_run rfl _ _ _ rfl _ _ rfl rfl HRun.out ?_))
              go_roundw
              case rel => exact ⟨k + 1, _, hil, by go_num, HL9.out⟩
              case measure => simp only [intOf]; omega
        · have HE : Hid ((clsR A).take i = clsR A) := List.take_of_length_le (by simp [clsR]; omega)
          have HF : Hid (BdB w wr d (.slice g0 A.length q0) kv lv vs (a ++ b) (kidR sig 0 0 a ++ kidR sig a.length 0 b) (clsR (a ++ b))) := by
            show BdB _ _ _ _ _ _ _ _ _ _
            rw [HAe.out, HKe.out]
            have h9 := HL.out.done C2.out (by have := HD.out; omega)
            rw [HE.out] at h9
            exact h9
          go_wp2
          go_ret
          exact ⟨_, _, _, _, rfl, HF.out⟩

end Go.Proofs.YtelacmijkbgliaaDoor

/- slices.Clone and slices.Reverse at trees and classes of package unify. -/
namespace Go.Proofs.YtelacmijkbgliaaDoor
open Go.RowKit Go.Maps Go.BigFrame

/-- A pointer. -/
def PtV (u : Value) : Prop := ∃ x, u = .pointer x

set_option maxRecDepth 1000000 in
set_option maxHeartbeats 1600000 in
theorem reverseC6_any (v : Value) (vals : List Value) (base : Nat) (w : World) (h : w.ownsRow base 68 1 v vals.length vals) (hif : ∀ u ∈ vals, PtV u) :
    Calls Tryd.prog 70 #[v] w fun e w' => e = .returned (.tuple #[]) ∧ w'.ownsRow base 68 1 v vals.length vals.reverse ∧ w.grownBy w' v.ownBlock := by
  have hsh : ∃ ao cap, v = .slice ao vals.length cap ∧ vals.length ≤ cap ∧ cap ≤ maxLen := by
    rcases h.2 with ⟨rfl, hn⟩ | ⟨g, cap, cur, rfl, hb, hg, hc, hm, hs, ht⟩
    · exact ⟨none, 0, by rw [hn], by omega, by simp [maxLen]⟩
    · exact ⟨_, cap, rfl, hc, hm⟩
  obtain ⟨ao, cap, rfl, hc1, hc2⟩ := hsh
  unfold maxLen at hc2
  have HV := hid h
  have HIf := hid hif
  clear h hif
  have mixed : Tryd.prog.follows .mixedOrders = true := by kernel_rfl
  go_enter Tryd.func70, Tryd.ntmps70
  go_wp2
  go_loopg [2, 3] vals.length (fun k s2 s3 wr => ∃ (i jn : Nat) (jz : Int) (dk : Array Value), s2 = .int .i64 i ∧ s3 = .int .i64 jz ∧ ((i : Int) < jz → jz = jn ∧ jn < vals.length) ∧ (¬ (i : Int) < jz → ¬ i < jn) ∧ jn - i ≤ k ∧
    dk.size = vals.length ∧ (∀ u ∈ dk.toList, PtV u) ∧ wr.ownsRow base 68 1 (.slice ao vals.length cap) vals.length dk.toList ∧ w.grownBy wr (Value.slice ao vals.length cap).ownBlock ∧ Sort.reverseLoop i jn dk = Sort.reverseLoop 0 (vals.length - 1) vals.toArray)
  case atStart => exact ⟨0, vals.length - 1, (vals.length : Int) - 1, vals.toArray, rfl, rfl, fun h => ⟨by omega, by omega⟩, fun h => by omega, by omega, by simp, HIf.out, HV.out, World.grownBy.refl _ _, rfl⟩
  case round =>
    obtain ⟨i, jn, jz, dk, rfl, rfl, h1, h2, hk, hds, hifd, how, hgr, heq⟩ := hrel
    by_cases hlt : (i : Int) < jz
    · obtain ⟨rfl, hjn⟩ := h1 hlt
      have hij : i < jn := by omega
      obtain ⟨g, cp, hv⟩ := own_form (v := .slice ao vals.length cap) how (by omega)
      simp only [Value.slice.injEq] at hv
      obtain ⟨rfl, _, rfl⟩ := hv
      have ci : wr.cell? ⟨g, i, none⟩ = some dk[i]! := by
        rw [World.ownsRow.cellAt how i (by omega)]
        simp [getElem!_pos, show i < dk.size by omega]
      have cj : wr.cell? ⟨g, jn, none⟩ = some dk[jn]! := by
        rw [World.ownsRow.cellAt how jn (by omega)]
        simp [getElem!_pos, show jn < dk.size by omega]
      have fi := World.ownsRow.frozenAt how i
      have fj := World.ownsRow.frozenAt how jn
      have HOw := hid how
      have HGr := hid hgr
      have HEq := hid heq
      have hil : i < vals.length := by omega
      obtain ⟨xi, hxi⟩ : ∃ x, x = dk[i]! := ⟨_, rfl⟩
      obtain ⟨xj, hxj⟩ : ∃ x, x = dk[jn]! := ⟨_, rfl⟩
      rw [← hxi] at ci
      rw [← hxj] at cj
      obtain ⟨yi, hyi⟩ : PtV xi := by rw [hxi, getElem!_pos dk i (by omega)]; exact hifd _ (Array.getElem_mem_toList (by omega))
      obtain ⟨yj, hyj⟩ : PtV xj := by rw [hxj, getElem!_pos dk jn (by omega)]; exact hifd _ (Array.getElem_mem_toList (by omega))
      subst hyi
      subst hyj
      have HXi := hid hxi
      have HXj := hid hxj
      have HIf2 : Hid (∀ u ∈ (Sort.swp dk i jn).toList, PtV u) := fun u hu => hifd u (swp_mem (by omega) (by omega) hu)
      clear hifd
      clear how hgr heq hxi hxj h1 h2
      have hst := (World.ownsRow.stored HOw.out i (.pointer yj)).1
      have hst2 := (World.ownsRow.stored hst jn (.pointer yi)).1
      have HS2 : Hid (((wr.setCell ⟨g, i, none⟩ (.pointer yj)).setCell ⟨g, jn, none⟩ (.pointer yi)).drew.ownsRow base 68 1 (.slice (some ⟨g, 0, none⟩) vals.length cap) vals.length (Sort.swp dk i jn).toList) := by
        rw [swp_list (by omega) (by omega), ← HXi.out, ← HXj.out]
        exact ownsRow_later hst2 (drawn_below1 _)
      have HG2 : Hid (w.grownBy ((wr.setCell ⟨g, i, none⟩ (.pointer yj)).setCell ⟨g, jn, none⟩ (.pointer yi)).drew (some g)) :=
        grown_trans HGr.out (grown_trans (set_grownT wr g i (.pointer yj)) (grown_trans (set_grownT _ g jn (.pointer yi)) (grown_of_below (drawn_below1 _) _)))
      clear hst hst2
      go_wp2_with fail
      go_region_o
      go_wp2
      go_roundg (jn - 1 - (i + 1))
      case measure => omega
      case rel =>
        have h9 := HEq.out
        rw [Sort.reverseLoop, if_pos hij] at h9
        exact ⟨i + 1, jn - 1, (jn : Int) - 1, Sort.swp dk i jn, by simp, rfl, fun h => ⟨by omega, by omega⟩, fun h => by omega, Nat.le_refl _, by rw [Sort.size_swp]; exact hds, HIf2.out, HS2.out, HG2.out, h9⟩
    · have hnot := h2 hlt
      have HR : Hid (dk.toList = vals.reverse) := by
        show _ = _
        rw [Sort.reverseLoop, if_neg hnot] at heq
        have h9 := Lib.reverseLoop_reverse vals.toArray
        rw [show vals.toArray.size = vals.length by simp] at h9
        rw [heq, h9]
        simp
      have HOw := hid how
      have HGr := hid hgr
      clear how hgr heq
      go_wp2
      go_end0
      exact ⟨rfl, by rw [← HR.out]; exact HOw.out, HGr.out⟩

set_option maxRecDepth 1000000 in
set_option maxHeartbeats 1600000 in
theorem reverseT6_any (v : Value) (vals : List Value) (base : Nat) (w : World) (h : w.ownsRow base 64 1 v vals.length vals) (hif : ∀ u ∈ vals, IfV u) :
    Calls Tryd.prog 60 #[v] w fun e w' => e = .returned (.tuple #[]) ∧ w'.ownsRow base 64 1 v vals.length vals.reverse ∧ w.grownBy w' v.ownBlock := by
  have hsh : ∃ ao cap, v = .slice ao vals.length cap ∧ vals.length ≤ cap ∧ cap ≤ maxLen := by
    rcases h.2 with ⟨rfl, hn⟩ | ⟨g, cap, cur, rfl, hb, hg, hc, hm, hs, ht⟩
    · exact ⟨none, 0, by rw [hn], by omega, by simp [maxLen]⟩
    · exact ⟨_, cap, rfl, hc, hm⟩
  obtain ⟨ao, cap, rfl, hc1, hc2⟩ := hsh
  unfold maxLen at hc2
  have HV := hid h
  have HIf := hid hif
  clear h hif
  have mixed : Tryd.prog.follows .mixedOrders = true := by kernel_rfl
  go_enter Tryd.func60, Tryd.ntmps60
  go_wp2
  go_loopg [2, 3] vals.length (fun k s2 s3 wr => ∃ (i jn : Nat) (jz : Int) (dk : Array Value), s2 = .int .i64 i ∧ s3 = .int .i64 jz ∧ ((i : Int) < jz → jz = jn ∧ jn < vals.length) ∧ (¬ (i : Int) < jz → ¬ i < jn) ∧ jn - i ≤ k ∧
    dk.size = vals.length ∧ (∀ u ∈ dk.toList, IfV u) ∧ wr.ownsRow base 64 1 (.slice ao vals.length cap) vals.length dk.toList ∧ w.grownBy wr (Value.slice ao vals.length cap).ownBlock ∧ Sort.reverseLoop i jn dk = Sort.reverseLoop 0 (vals.length - 1) vals.toArray)
  case atStart => exact ⟨0, vals.length - 1, (vals.length : Int) - 1, vals.toArray, rfl, rfl, fun h => ⟨by omega, by omega⟩, fun h => by omega, by omega, by simp, HIf.out, HV.out, World.grownBy.refl _ _, rfl⟩
  case round =>
    obtain ⟨i, jn, jz, dk, rfl, rfl, h1, h2, hk, hds, hifd, how, hgr, heq⟩ := hrel
    by_cases hlt : (i : Int) < jz
    · obtain ⟨rfl, hjn⟩ := h1 hlt
      have hij : i < jn := by omega
      obtain ⟨g, cp, hv⟩ := own_form (v := .slice ao vals.length cap) how (by omega)
      simp only [Value.slice.injEq] at hv
      obtain ⟨rfl, _, rfl⟩ := hv
      have ci : wr.cell? ⟨g, i, none⟩ = some dk[i]! := by
        rw [World.ownsRow.cellAt how i (by omega)]
        simp [getElem!_pos, show i < dk.size by omega]
      have cj : wr.cell? ⟨g, jn, none⟩ = some dk[jn]! := by
        rw [World.ownsRow.cellAt how jn (by omega)]
        simp [getElem!_pos, show jn < dk.size by omega]
      have fi := World.ownsRow.frozenAt how i
      have fj := World.ownsRow.frozenAt how jn
      have HOw := hid how
      have HGr := hid hgr
      have HEq := hid heq
      have hil : i < vals.length := by omega
      obtain ⟨xi, hxi⟩ : ∃ x, x = dk[i]! := ⟨_, rfl⟩
      obtain ⟨xj, hxj⟩ : ∃ x, x = dk[jn]! := ⟨_, rfl⟩
      rw [← hxi] at ci
      rw [← hxj] at cj
      obtain ⟨ti, yi, hyi⟩ : IfV xi := by rw [hxi, getElem!_pos dk i (by omega)]; exact hifd _ (Array.getElem_mem_toList (by omega))
      obtain ⟨tj, yj, hyj⟩ : IfV xj := by rw [hxj, getElem!_pos dk jn (by omega)]; exact hifd _ (Array.getElem_mem_toList (by omega))
      subst hyi
      subst hyj
      have HXi := hid hxi
      have HXj := hid hxj
      have HIf2 : Hid (∀ u ∈ (Sort.swp dk i jn).toList, IfV u) := fun u hu => hifd u (swp_mem (by omega) (by omega) hu)
      clear hifd
      clear how hgr heq hxi hxj h1 h2
      have hst := (World.ownsRow.stored HOw.out i (.iface tj yj)).1
      have hst2 := (World.ownsRow.stored hst jn (.iface ti yi)).1
      have HS2 : Hid (((wr.setCell ⟨g, i, none⟩ (.iface tj yj)).setCell ⟨g, jn, none⟩ (.iface ti yi)).drew.ownsRow base 64 1 (.slice (some ⟨g, 0, none⟩) vals.length cap) vals.length (Sort.swp dk i jn).toList) := by
        rw [swp_list (by omega) (by omega), ← HXi.out, ← HXj.out]
        exact ownsRow_later hst2 (drawn_below1 _)
      have HG2 : Hid (w.grownBy ((wr.setCell ⟨g, i, none⟩ (.iface tj yj)).setCell ⟨g, jn, none⟩ (.iface ti yi)).drew (some g)) :=
        grown_trans HGr.out (grown_trans (set_grownT wr g i (.iface tj yj)) (grown_trans (set_grownT _ g jn (.iface ti yi)) (grown_of_below (drawn_below1 _) _)))
      clear hst hst2
      go_wp2_with fail
      go_region_o
      go_wp2
      go_roundg (jn - 1 - (i + 1))
      case measure => omega
      case rel =>
        have h9 := HEq.out
        rw [Sort.reverseLoop, if_pos hij] at h9
        exact ⟨i + 1, jn - 1, (jn : Int) - 1, Sort.swp dk i jn, by simp, rfl, fun h => ⟨by omega, by omega⟩, fun h => by omega, Nat.le_refl _, by rw [Sort.size_swp]; exact hds, HIf2.out, HS2.out, HG2.out, h9⟩
    · have hnot := h2 hlt
      have HR : Hid (dk.toList = vals.reverse) := by
        show _ = _
        rw [Sort.reverseLoop, if_neg hnot] at heq
        have h9 := Lib.reverseLoop_reverse vals.toArray
        rw [show vals.toArray.size = vals.length by simp] at h9
        rw [heq, h9]
        simp
      have HOw := hid how
      have HGr := hid hgr
      clear how hgr heq
      go_wp2
      go_end0
      exact ⟨rfl, by rw [← HR.out]; exact HOw.out, HGr.out⟩

end Go.Proofs.YtelacmijkbgliaaDoor
