/- Texts of the proof, one behind the other. -/
import Derived.Test.YtjcgngfidnechabDoorOwn7
import Derived.Deep.LoopGhost
import Derived.Test.YtjcgngfidnechabDoorOwn4
import Derived.Lib.AppendZeros
/- The places of a term, plainly: what is above a place, where the arguments stand. -/
namespace Go.Proofs.YtjcgngfidnechabDoor
open Go.RowKit Go.Maps

mutual
/-- The places above a place, of a tree that stands at a place. -/
def abv : Tr → Nat → Nat → List Int
  | .var, _, _ => []
  | .app ts, p, q => if p = q then [] else (p : Int) :: abvs ts (p + 1) q
def abvs : List Tr → Nat → Nat → List Int
  | [], _, _ => []
  | t :: ts, p, q => if p + t.size ≤ q then abvs ts (p + t.size) q else abv t p q
end

/-- How many nodes the term at a place has. -/
def nodes (sig : List Sy) (t : List Int) (i : Nat) : Nat := (firstT sig 1 0 (t.drop i)).1.toNat

/-- The places above a place. -/
def abD (sig : List Sy) (t : List Int) (q : Nat) : List Nat := (List.range q).filter fun i => decide (q < i + nodes sig t i)

theorem first_more {sig : List Sy} (q : List Int) : ∀ (r : List Int) (m : Int) (i : Nat) (n : Int), firstT sig m i r = (n, 0) → firstT sig m i (r ++ q) = (n, 0)
  | [], m, i, n, h => by simp [firstT] at h
  | c :: r, m, i, n, h => by
    rw [List.cons_append, firstT_cons]
    rw [firstT_cons] at h
    cases hc : codeD sig c with
    | none => rw [hc] at h; simp at h
    | some e =>
      rw [hc] at h
      simp only at h ⊢
      by_cases h0 : m + e = 0
      · rw [if_pos h0] at h ⊢; exact h
      · rw [if_neg h0] at h ⊢; exact first_more q r (m + e) (i + 1) n h

theorem first_at {sig : List Sy} (ha : ArOk sig) : ∀ (v : List Int) (m : Int) (j i : Nat), 1 ≤ m → firstT sig m j v = ((j : Int) + v.length, 0) → i < v.length → ∃ m' : Int, 1 ≤ m' ∧ firstT sig m' (j + i) (v.drop i) = ((j : Int) + v.length, 0)
  | v, m, j, 0, hm, h, _ => ⟨m, hm, h⟩
  | [], m, j, i + 1, _, _, hi => by simp at hi
  | c :: v, m, j, i + 1, hm, h, hi => by
    rw [firstT_cons] at h
    cases hc : codeD sig c with
    | none => rw [hc] at h; simp at h
    | some e =>
      have he := codeD_ge ha hc
      rw [hc] at h
      simp only at h
      by_cases h0 : m + e = 0
      · rw [if_pos h0] at h
        have := congrArg Prod.fst h
        simp only [List.length_cons] at this hi
        omega
      · rw [if_neg h0] at h
        obtain ⟨m', h1, h2⟩ := first_at ha v (m + e) (j + 1) i (by omega) (by rw [h]; simp only [List.length_cons, Prod.mk.injEq, and_true]; omega) (by simpa using hi)
        refine ⟨m', h1, ?_⟩
        rw [List.drop_succ_cons, show j + (i + 1) = j + 1 + i by omega, h2]
        simp only [List.length_cons, Prod.mk.injEq, and_true]
        omega

/-- The term at a place of a right term. -/
theorem at_place {sig : List Sy} (ha : ArOk sig) {v : List Int} (h : rowE sig v = 0) {i : Nat} (hi : i < v.length) :
    1 ≤ nodes sig v i ∧ i + nodes sig v i ≤ v.length ∧ firstT sig 1 0 (v.drop i) = ((nodes sig v i : Int), 0) ∧ rowE sig ((v.drop i).take (nodes sig v i)) = 0 := by
  obtain ⟨m', h1, h2⟩ := first_at ha v 1 0 i (by omega) (by rw [row_first.1 h]; simp) hi
  obtain ⟨k, k1, k2, k3, _, _⟩ := first_part ha (v.drop i) 1 m' 0 (0 + i) (by omega) h1 (by rw [h2, List.length_drop]; simp only [Prod.mk.injEq, and_true]; omega)
  have hn : nodes sig v i = k := by unfold nodes; rw [k3]; simp
  rw [hn]
  rw [List.length_drop] at k2
  have k3' : firstT sig 1 0 (v.drop i) = ((k : Int), 0) := by rw [k3]; simp
  refine ⟨k1, by omega, k3', ?_⟩
  obtain ⟨k', e1, _, _, e4⟩ := first_take (v.drop i) 1 0 _ k3'
  have : k' = k := by omega
  subst this
  rw [row_first, e4, List.length_take, List.length_drop]
  simp only [Prod.mk.injEq, and_true]
  omega

theorem nodes_app {sig : List Sy} (ha : ArOk sig) {v : List Int} (h : rowE sig v = 0) {i : Nat} (hi : i < v.length) (q : List Int) : nodes sig (v ++ q) i = nodes sig v i := by
  obtain ⟨_, _, h3, _⟩ := at_place ha h hi
  have h4 := first_more q _ _ _ _ h3
  rw [← List.drop_append_of_le_length (by omega)] at h4
  have h5 : nodes sig (v ++ q) i = ((nodes sig v i : Int)).toNat := by
    show (firstT sig 1 0 ((v ++ q).drop i)).1.toNat = _
    rw [h4]
  rw [h5, Int.toNat_natCast]

theorem nodes_behind {sig : List Sy} (v q : List Int) (i : Nat) : nodes sig (v ++ q) (v.length + i) = nodes sig q i := by
  unfold nodes
  rw [List.drop_length_add_append]

theorem nodes_drop {sig : List Sy} (t : List Int) (j i : Nat) : nodes sig (t.drop j) i = nodes sig t (j + i) := by
  unfold nodes
  rw [List.drop_drop]

theorem nodes_root {sig : List Sy} {v : List Int} (h : rowE sig v = 0) : nodes sig v 0 = v.length := by
  unfold nodes
  rw [List.drop_zero, row_first.1 h]
  simp

/-- Terms lie in one another, or apart. -/
theorem lam {sig : List Sy} (ha : ArOk sig) {t : List Int} (h : rowE sig t = 0) {i j : Nat} (hj : j < t.length) (h1 : j ≤ i) (h2 : i < j + nodes sig t j) : i + nodes sig t i ≤ j + nodes sig t j := by
  obtain ⟨_, k2, k3, k4⟩ := at_place ha h hj
  have hl : ((t.drop j).take (nodes sig t j)).length = nodes sig t j := by rw [List.length_take, List.length_drop]; omega
  have h3 := at_place ha k4 (i := i - j) (by rw [hl]; omega)
  have h4 := nodes_app ha k4 (i := i - j) (by rw [hl]; omega) ((t.drop j).drop (nodes sig t j))
  rw [List.take_append_drop, nodes_drop, show j + (i - j) = i by omega] at h4
  rw [← h4, hl] at h3
  omega

theorem grow_map {sig : List Sy} (ha : ArOk sig) : ∀ us : List (List Int), (∀ u ∈ us, rowE sig u = 0) → (growR sig us.flatten).reverse = us.flatMap (growR sig)
  | [], _ => by simp [growR]
  | u :: us, h => by
    obtain ⟨T, h1, _⟩ := grow_one ha (h u (by simp))
    have h3 := grow_behind ha us.flatten u [] (by rw [List.nil_append]; exact row_first.1 (h u (by simp)))
    rw [List.flatten_cons, h3, h1, List.reverse_append, grow_map ha us (fun x hx => h x (by simp [hx])), List.flatMap_cons, h1]
    rfl

/-- A symbol's arguments, as a tree. -/
theorem kids_tree {sig : List Sy} (ha : ArOk sig) {c : Int} {r : List Int} (h : rowE sig (c :: r) = 0) (hc : ¬ c < 0) :
    ∃ us : List (List Int), us.length = arN sig c ∧ r = us.flatten ∧ (∀ u ∈ us, rowE sig u = 0) ∧ growR sig (c :: r) = [.app (us.flatMap (growR sig))] := by
  have h1 := row_first.1 h
  rw [firstT_cons] at h1
  cases hd : codeD sig c with
  | none => rw [hd] at h1; simp at h1
  | some e =>
    rw [hd] at h1
    simp only at h1
    obtain ⟨k1, _⟩ := codeD_ar ha hd hc
    obtain ⟨us, u1, u2, u3⟩ : ∃ us : List (List Int), us.length = arN sig c ∧ r = us.flatten ∧ ∀ u ∈ us, rowE sig u = 0 := by
      by_cases h0 : 1 + e = 0
      · rw [if_pos h0] at h1
        have hl : r.length = 0 := by
          have := congrArg Prod.fst h1
          simp at this
          omega
        exact ⟨[], by simp; omega, by rw [List.eq_nil_of_length_eq_zero hl]; rfl, fun u hu => by cases hu⟩
      · rw [if_neg h0, show (1 : Int) + e = (arN sig c : Int) by omega] at h1
        exact split_first ha _ r (0 + 1) (by omega) (by rw [h1]; simp only [List.length_cons, Prod.mk.injEq, and_true]; omega)
    have hl : (growR sig r).length = arN sig c := by
      have := congrArg List.length (grow_flat ha us u3)
      rw [List.length_map, List.length_map, List.length_reverse, ← u2] at this
      omega
    refine ⟨us, u1, u2, u3, ?_⟩
    show growStep sig (growR sig r) c = _
    unfold growStep
    rw [if_neg hc, hl, Nat.sub_self, List.take_zero, List.drop_zero, List.nil_append, u2, grow_map ha us u3]

theorem abD_far {sig : List Sy} (ha : ArOk sig) {v : List Int} (h : rowE sig v = 0) (r : List Int) {q : Nat} (hq : v.length ≤ q) : abD sig (v ++ r) q = (abD sig r (q - v.length)).map (v.length + ·) := by
  obtain ⟨d, rfl⟩ : ∃ d, q = v.length + d := ⟨q - v.length, by omega⟩
  rw [Nat.add_sub_cancel_left]
  unfold abD
  rw [List.range_add, List.filter_append, List.filter_map]
  have h1 : (List.range v.length).filter (fun i => decide (v.length + d < i + nodes sig (v ++ r) i)) = [] := by
    rw [List.filter_eq_nil_iff]
    intro i hi
    have hi := List.mem_range.1 hi
    have h2 := at_place ha h hi
    rw [nodes_app ha h hi]
    simp
    omega
  rw [h1, List.nil_append]
  congr 1
  refine List.filter_congr fun i _ => ?_
  simp only [Function.comp]
  rw [nodes_behind]
  simp
  omega

theorem abD_in {sig : List Sy} (ha : ArOk sig) {v : List Int} (h : rowE sig v = 0) (r : List Int) {q : Nat} (hq : q < v.length) : abD sig (v ++ r) q = abD sig v q := by
  unfold abD
  refine List.filter_congr fun i hi => ?_
  rw [nodes_app ha h (by have := List.mem_range.1 hi; omega)]

theorem abD_cons {sig : List Sy} {c : Int} {r : List Int} (h : rowE sig (c :: r) = 0) {q : Nat} (hq : q < r.length) : abD sig (c :: r) (q + 1) = 0 :: (abD sig r q).map (1 + ·) := by
  unfold abD
  rw [Nat.add_comm q 1, List.range_add, List.filter_append, List.filter_map]
  have h1 : (List.range 1).filter (fun i => decide (1 + q < i + nodes sig (c :: r) i)) = [0] := by
    have : List.range 1 = [0] := rfl
    rw [this, List.filter_cons_of_pos (by rw [nodes_root h]; simp; omega)]
    rfl
  rw [h1, List.singleton_append]
  congr 2
  refine List.filter_congr fun i _ => ?_
  simp only [Function.comp]
  have := nodes_behind (sig := sig) [c] r i
  simp only [List.singleton_append, List.length_singleton] at this
  rw [this]
  simp
  omega

/-- What is found above a place by going down the tree. -/
theorem abv_eq {sig : List Sy} (ha : ArOk sig) : ∀ (N : Nat) (u : List Int), u.length ≤ N → rowE sig u = 0 → ∀ (T : Tr) (p q : Nat), growR sig u = [T] → q < u.length → abv T p (p + q) = (abD sig u q).map (fun i => ((p + i : Nat) : Int))
  | 0, u, hN, h, T, p, q, _, hq => by omega
  | N + 1, [], hN, h, T, p, q, _, hq => by simp at hq
  | N + 1, c :: r, hN, h, T, p, q, hT, hq => by
    by_cases hc : c < 0
    · have h1 := row_first.1 h
      have hr : r = [] := by
        rw [firstT_cons] at h1
        cases hd : codeD sig c with
        | none => rw [hd] at h1; simp at h1
        | some e =>
          rw [hd] at h1
          unfold codeD at hd
          split at hd
          · cases hd
          · cases hd
            simp at h1
            exact List.eq_nil_of_length_eq_zero (by omega)
      subst hr
      obtain rfl : q = 0 := by simp at hq; omega
      have : T = .var := by
        have h2 : growStep sig [] c = [T] := hT
        unfold growStep at h2
        rw [if_pos hc] at h2
        simp at h2
        exact h2.symm
      subst this
      simp [abv, abD]
    · obtain ⟨us, _, hr, hus, hg⟩ := kids_tree ha h hc
      rw [hg] at hT
      simp only [List.cons.injEq, and_true] at hT
      subst hT
      have hlen : ∀ u ∈ us, u.length ≤ N := fun u hu => by
        have h1 : u.length ≤ us.flatten.length := List.Sublist.length_le (List.sublist_flatten_of_mem hu)
        rw [← hr] at h1
        simp at hN
        omega
      -- the arguments, one behind the other
      have key : ∀ (vs : List (List Int)), (∀ u ∈ vs, rowE sig u = 0) → (∀ u ∈ vs, u.length ≤ N) → ∀ p q : Nat, q < vs.flatten.length → abvs (vs.flatMap (growR sig)) p (p + q) = (abD sig vs.flatten q).map (fun i => ((p + i : Nat) : Int)) := by
        intro vs
        induction vs with
        | nil => intro _ _ p q hq; simp at hq
        | cons v vs ih =>
          intro hv hl p q hq
          obtain ⟨T, h1, h2⟩ := grow_one ha (hv v (by simp))
          rw [List.flatMap_cons, h1, List.flatten_cons]
          show abvs (T :: vs.flatMap (growR sig)) p (p + q) = _
          unfold abvs
          rw [h2]
          by_cases hqv : v.length ≤ q
          · rw [if_pos (by omega), abD_far ha (hv v (by simp)) _ hqv, show p + q = p + v.length + (q - v.length) by omega,
              ih (fun u hu => hv u (by simp [hu])) (fun u hu => hl u (by simp [hu])) (p + v.length) (q - v.length) (by rw [List.flatten_cons, List.length_append] at hq; omega), List.map_map]
            refine List.map_congr_left fun i _ => ?_
            simp only [Function.comp]
            rw [Nat.add_assoc]
          · rw [if_neg (by omega), abD_in ha (hv v (by simp)) _ (by omega)]
            exact abv_eq ha N v (hl v (by simp)) (hv v (by simp)) T p q h1 (by omega)
      unfold abv
      cases q with
      | zero => simp [abD]
      | succ q =>
        have hq2 : q < us.flatten.length := by rw [← hr]; simpa using hq
        rw [if_neg (by omega), abD_cons h (by simpa using hq), show p + (q + 1) = p + 1 + q by omega, key us hus hlen (p + 1) q hq2, hr, List.map_cons, List.map_map]
        congr 1
        refine List.map_congr_left fun i _ => ?_
        simp only [Function.comp]
        rw [Nat.add_assoc]

/-- The arguments' places, found one by one. -/
def kidsD (sig : List Sy) (t : List Int) : Nat → Nat → List Int
  | 0, _ => []
  | n + 1, k => (k : Int) :: kidsD sig t n (k + nodes sig t k)

theorem kidsD_places {sig : List Sy} (t : List Int) : ∀ (us : List (List Int)) (k : Nat) (q : List Int), (∀ u ∈ us, rowE sig u = 0) → t.drop k = us.flatten ++ q → kidsD sig t us.length k = places k (us.map List.length)
  | [], _, _, _, _ => rfl
  | u :: us, k, q, h, ht => by
    have h0 := h u (by simp)
    have h1 : nodes sig t k = u.length := by
      unfold nodes
      rw [ht, List.flatten_cons, List.append_assoc, first_more _ u 1 0 (u.length : Int) (by rw [row_first.1 h0])]
      simp
    show (k : Int) :: kidsD sig t us.length (k + nodes sig t k) = (k : Int) :: places (k + u.length) (us.map List.length)
    rw [h1, kidsD_places t us (k + u.length) q (fun x hx => h x (by simp [hx]))]
    rw [← List.drop_drop, ht, List.flatten_cons, List.append_assoc, List.drop_left]

/-- Kids, found one by one. -/
theorem kids_eq {sig : List Sy} {t : List Int} {k : Nat} {c : Int} (h : placeE sig t k = 0) (hc : t[k]? = some c) : kidsL sig t k = if c < 0 then [] else kidsD sig t (arN sig c) (k + 1) := by
  obtain ⟨ha, hr, k', m, hk, hkl, hm1, hend, hkm, hsub, hrow⟩ := placeE_ok h
  obtain rfl : k = k' := by omega
  have hd := drop_get hc
  obtain ⟨m', rfl⟩ : ∃ m', m = m' + 1 := ⟨m - 1, by omega⟩
  rw [hd, List.take_succ_cons] at hsub hrow
  unfold kidsL
  rw [hsub, Int.toNat_natCast]
  by_cases h0 : c < 0
  · rw [if_pos h0]
    obtain ⟨T, hT, _⟩ := grow_one ha hrow
    rw [hT]
    have hT2 : growStep sig (growR sig ((t.drop (k + 1)).take m')) c = [T] := hT
    unfold growStep at hT2
    rw [if_pos h0] at hT2
    have h2 := congrArg List.length hT2
    rw [List.length_append] at h2
    simp only [List.length_cons, List.length_nil] at h2
    have h3 : growR sig ((t.drop (k + 1)).take m') = [] := List.eq_nil_of_length_eq_zero (by omega)
    rw [h3] at hT2
    simp only [List.nil_append, List.cons.injEq, and_true] at hT2
    subst hT2
    rfl
  · rw [if_neg h0]
    obtain ⟨us, u1, u2, u3, u4⟩ := kids_tree ha hrow h0
    rw [u4]
    show kidsGo (k + 1) (us.flatMap (growR sig)) = _
    rw [kids_places, ← grow_map ha us u3, grow_flat ha us u3, ← u1]
    refine (kidsD_places t us (k + 1) ((t.drop (k + 1)).drop m') u3 ?_).symm
    rw [← u2, List.take_append_drop]

end Go.Proofs.YtjcgngfidnechabDoor

/- placesAbove walked. -/
namespace Go.Proofs.YtjcgngfidnechabDoor
open Go.RowKit Go.Maps

theorem abv_here (T : Tr) (p : Nat) : abv T p p = [] := by
  cases T with
  | var => simp [abv]
  | app ts => unfold abv; rw [if_pos rfl]

theorem sizes_drop {ts : List Tr} {j : Nat} {t : Tr} (h : ts[j]? = some t) : sizes (ts.drop j) = t.size + sizes (ts.drop (j + 1)) := by
  rw [drop_get h]
  simp only [sizes]

theorem sizes_pos {ts : List Tr} {j : Nat} (h : 0 < sizes (ts.drop j)) : j < ts.length := by
  by_cases hj : j < ts.length
  · exact hj
  · rw [List.drop_of_length_le (by omega)] at h
    simp [sizes] at h

theorem abvs_next {ts : List Tr} {j p q : Nat} {t : Tr} (h : ts[j]? = some t) : abvs (ts.drop j) p q = if p + t.size ≤ q then abvs (ts.drop (j + 1)) (p + t.size) q else abv t p q := by
  rw [drop_get h]
  rfl

set_option maxRecDepth 100000 in
set_option maxHeartbeats 3200000 in
theorem placesAbove_any (u : Value) (T : Tr) (A : Nat → Prop) (q : Nat) (w : World) (ht : TV w A u T) (hA : ∀ b, A b → b < w.heap.size) (hq : q < T.size) (hl : T.size * 8 ≤ 140737488355328) :
    Calls Tryd.prog 55 #[u, .int .i64 q] w fun e w' => ∃ v', e = .returned v' ∧ OwI w' w.heap.size v' (abv T 0 q) ∧ Below w.heap.size w w' := by
  have HA := hid hA
  have HT := hid ht
  clear hA ht
  go_enter Tryd.func55, Tryd.ntmps55
  go_wp2
  go_loopg [5, 6, 7] q (fun k x nv pv wr => ∃ (p : Nat) (S : Tr) (ab : List Int), pv = .int .i64 p ∧ p ≤ q ∧ q < p + S.size ∧ p + S.size ≤ T.size ∧ q - p ≤ k ∧ TV w A nv S ∧ abv T 0 q = ab ++ abv S p q ∧ ab.length ≤ p ∧ OwI wr w.heap.size x ab ∧ Below w.heap.size w wr)
  case atStart => exact ⟨0, T, [], rfl, Nat.zero_le _, by omega, by omega, by omega, HT.out, rfl, Nat.le_refl _, nilI _ _, Below.refl _ _⟩
  case round =>
    obtain ⟨p, S, ab, rfl, hpq, hqs, hst, hgk, htv, hab, hal, how, hbl⟩ := hrel
    have HOw := hid how
    have HB := hid hbl
    have HAb := hid hab
    clear how hbl hab HT
    by_cases hpe : p = q
    · subst hpe
      have HF : Hid (abv T 0 p = ab) := by show _ = _; rw [HAb.out, abv_here, List.append_nil]
      have hne : ((p : Int) != (p : Int)) = false := by simp
      go_wp2
      go_ret
      exact ⟨_, rfl, by rw [HF.out]; exact HOw.out, HB.out⟩
    · cases S with
      | var => simp only [Tr.size] at hqs; omega
      | app ts =>
        unfold TV at htv
        obtain ⟨b, a, cp, rfl, hb, h3, h4, h5, h6, h7⟩ := htv
        simp only [Tr.size] at hqs hst
        unfold maxLen at h6
        have hlt0 : 0 < ts.length := sizes_pos (j := 0) (by rw [List.drop_zero]; omega)
        have hne : ((p : Int) != (q : Int)) = true := by rw [bne_iff_ne]; omega
        have h3r := (HB.out.cell (p := ⟨b, 0, none⟩) (HA.out b hb)).trans h3
        obtain ⟨g, off, rfl, hAg, htvs⟩ : ∃ g off, a = some ⟨g, off, none⟩ ∧ A g ∧ TVs w A g off ts := by
          rcases h7 with h | h
          · rw [h] at hlt0; simp at hlt0
          · exact h
        have HTs := hid htvs
        have HAg := hid hAg
        have hwp : IntKind.i64.wrap ((p : Int) + 1) = ((p + 1 : Nat) : Int) := by rw [IntWalk.i64_in _ ⟨by omega, by omega⟩]; omega
        have HAp : Hid (abv T 0 q = (ab ++ [(p : Int)]) ++ abvs ts (p + 1) q) := by
          show _ = _
          rw [HAb.out, abv, if_neg hpe, List.append_assoc]
          rfl
        obtain ⟨v6, w6, hr6, ho6, hg6, _⟩ := join_one 23 (c := (p : Int)) HOw.out (by omega) (by omega) HB.out.size (by omega)
        have hb6 := (below_step HB.out (below_alloc _)).grown hg6 (Nat.le_trans HB.out.size (below_alloc _).size) (fun j hj => own_blk HOw.out.2 hj)
        have HR6 := hid hr6
        have HO6 := hid ho6
        have HB6 := hid hb6
        have hc6 := (HB6.out.cell (p := ⟨b, 0, none⟩) (HA.out b hb)).trans h3
        have has := as_app (.pointer (some ⟨b, 0, none⟩)) 80 false
        simp only [Bool.false_eq_true, if_false] at has
        clear h7 htvs hAg h3r h4 hr6 ho6 hg6 hb6 HAb HOw HB h3
        go_wp2_with (first
          | (at_builtin; refine wpList_append_run rfl _ _ _ rfl _ _ rfl rfl HR6.out ?_))
        clear has hwp hc6 HR6 hne
        go_loopg [7, 8] ts.length (fun k pv av wr => ∃ (j p2 : Nat), j < ts.length ∧ pv = .int .i64 p2 ∧ av = .slice (some ⟨g, off + j, none⟩) (ts.length - j) (cp - j) ∧ p + 1 ≤ p2 ∧ p2 ≤ q ∧ q < p2 + sizes (ts.drop j) ∧ p2 + sizes (ts.drop j) ≤ T.size ∧ ts.length - j ≤ k ∧ abvs ts (p + 1) q = abvs (ts.drop j) p2 q ∧ Below w6.heap.size w6 wr)
        case atStart => exact ⟨0, p + 1, hlt0, rfl, rfl, Nat.le_refl _, by omega, by rw [List.drop_zero]; omega, by rw [List.drop_zero]; omega, by omega, rfl, Below.refl _ _⟩
        case round =>
          obtain ⟨j, p2, hj, rfl, rfl, hp2, hp2q, hq2, hst2, hgk2, hab2, hbl2⟩ := hrel
          have HB2 := hid hbl2
          have HA2 := hid hab2
          obtain ⟨t, htk⟩ : ∃ t, ts[j]? = some t := ⟨_, List.getElem?_eq_getElem hj⟩
          obtain ⟨uv, hcu, htv⟩ := HTs.out.get htk
          have hcell : wr.cell? ⟨g, off + j, none⟩ = some uv := (HB2.out.cell (p := ⟨g, off + j, none⟩) (Nat.lt_of_lt_of_le (HA.out g HAg.out) HB6.out.size)).trans ((HB6.out.cell (p := ⟨g, off + j, none⟩) (HA.out g HAg.out)).trans hcu)
          have hsd := sizes_drop htk
          have hnx : abvs ts (p + 1) q = if p2 + t.size ≤ q then abvs (ts.drop (j + 1)) (p2 + t.size) q else abv t p2 q := by rw [HA2.out, abvs_next htk]
          have HNx := hid hnx
          have hlj : 0 < ts.length - j := by omega
          clear hab2 hbl2 hcu htk hnx HA2
          by_cases hfar : p2 + t.size ≤ q
          · have HNf : Hid (abvs ts (p + 1) q = abvs (ts.drop (j + 1)) (p2 + t.size) q) := by show _ = _; rw [HNx.out, if_pos hfar]
            have hj2 : j + 1 < ts.length := sizes_pos (by omega)
            have hcj : ¬ cp - j = 1 := by omega
            have hcj1 : 1 ≤ cp - j := by omega
            have hlj1 : 1 ≤ ts.length - j := by omega
            have HCp : Hid (cp - j - 1 = cp - (j + 1)) := by show _ = _; omega
            have HLn : Hid (ts.length - j - 1 = ts.length - (j + 1)) := by show _ = _; omega
            have hts := t.pos
            clear HNx
            cases t with
            | var =>
              unfold TV at htv
              subst htv
              simp only [Tr.size] at hfar hsd hts HNf
              have hw1 : IntKind.i64.wrap ((p2 : Int) + 1) = ((p2 + 1 : Nat) : Int) := by rw [IntWalk.i64_in _ ⟨by omega, by omega⟩]; omega
              have hge : ((p2 + 1 : Nat) : Int) ≤ (q : Int) := by omega
              go_wp2_with fail
              refine (varNodes_any _).mono ?_
              rintro e w2 ⟨rfl, hb2⟩
              have HB3 := hid (below_step HB2.out hb2)
              have hcell2 := (Kp.of_below hb2).cell _ _ hcell
              clear hb2 hcell
              go_wp2_with fail
              refine (varNodes_any _).mono ?_
              rintro e w3 ⟨rfl, hb3⟩
              have HB4 := hid (below_step HB3.out hb3)
              clear hb3 hcell2
              go_wp2
              go_roundg (ts.length - (j + 1))
              case measure => omega
              case rel => exact ⟨j + 1, p2 + 1, hj2, by go_num, by rw [← HCp.out, ← HLn.out]; rfl, by omega, by omega, by omega, by omega, Nat.le_refl _, HNf.out, HB4.out⟩
            | app rs =>
              unfold TV at htv
              obtain ⟨b2, a2, cp2, rfl, hb2, _, h4, _, _, _⟩ := htv
              have h4r : wr.cell? ⟨b2, 1, none⟩ = _ := (HB2.out.cell (p := ⟨b2, 1, none⟩) (Nat.lt_of_lt_of_le (HA.out b2 hb2) HB6.out.size)).trans ((HB6.out.cell (p := ⟨b2, 1, none⟩) (HA.out b2 hb2)).trans h4)
              simp only [Tr.size] at hfar hsd hts HNf
              obtain ⟨Z, hZ⟩ : ∃ Z, Z = 1 + sizes rs := ⟨_, rfl⟩
              rw [← hZ] at hfar hsd hts HNf h4r
              have hw1 : IntKind.i64.wrap ((p2 : Int) + (Z : Int)) = ((p2 + Z : Nat) : Int) := by rw [IntWalk.i64_in _ ⟨by omega, by omega⟩]; omega
              have hge : ((p2 + Z : Nat) : Int) ≤ (q : Int) := by omega
              clear h4 hZ
              go_wp2_with fail
              refine (appNodes_any b2 _ _ h4r).mono ?_
              rintro e w2 ⟨rfl, hw2⟩
              have hw8 := hw2.symm
              subst hw8
              clear hw2
              go_wp2_with fail
              refine (appNodes_any b2 _ _ h4r).mono ?_
              rintro e w3 ⟨rfl, hw3⟩
              have hw8 := hw3.symm
              subst hw8
              clear hw3 h4r hcell
              go_wp2
              go_roundg (ts.length - (j + 1))
              case measure => omega
              case rel => exact ⟨j + 1, p2 + Z, hj2, by go_num, by rw [← HCp.out, ← HLn.out]; rfl, by omega, by omega, by omega, by omega, Nat.le_refl _, HNf.out, HB2.out⟩
          · have HNf : Hid (abv T 0 q = (ab ++ [(p : Int)]) ++ abv t p2 q) := by show _ = _; rw [HAp.out, HNx.out, if_neg hfar]
            have HTv := hid htv
            have hts := t.pos
            clear HNx
            cases t with
            | var =>
              unfold TV at htv
              subst htv
              simp only [Tr.size] at hfar hsd hts
              have hw1 : IntKind.i64.wrap ((p2 : Int) + 1) = ((p2 + 1 : Nat) : Int) := by rw [IntWalk.i64_in _ ⟨by omega, by omega⟩]; omega
              have hge : ¬ ((p2 + 1 : Nat) : Int) ≤ (q : Int) := by omega
              go_wp2_with fail
              refine (varNodes_any _).mono ?_
              rintro e w2 ⟨rfl, hb2⟩
              have HB3 := hid (below_step HB6.out (below_step HB2.out hb2))
              have HO3 := hid (HO6.out.later (below_step HB2.out hb2))
              have hcell2 := (Kp.of_below hb2).cell _ _ hcell
              clear hb2 hcell
              go_wp2
              go_roundg (q - p2)
              case measure => omega
              case rel => exact ⟨p2, .var, ab ++ [(p : Int)], rfl, hp2q, by simp only [Tr.size]; omega, by simp only [Tr.size]; omega, Nat.le_refl _, HTv.out, HNf.out, by rw [List.length_append, List.length_singleton]; omega, HO3.out, HB3.out⟩
            | app rs =>
              unfold TV at htv
              obtain ⟨b2, a2, cp2, rfl, hb2, _, h4, _, _, _⟩ := htv
              have h4r : wr.cell? ⟨b2, 1, none⟩ = _ := (HB2.out.cell (p := ⟨b2, 1, none⟩) (Nat.lt_of_lt_of_le (HA.out b2 hb2) HB6.out.size)).trans ((HB6.out.cell (p := ⟨b2, 1, none⟩) (HA.out b2 hb2)).trans h4)
              simp only [Tr.size] at hfar hsd hts
              obtain ⟨Z, hZ⟩ : ∃ Z, Z = 1 + sizes rs := ⟨_, rfl⟩
              rw [← hZ] at hfar hsd hts h4r
              have HZ := hid hZ
              have hw1 : IntKind.i64.wrap ((p2 : Int) + (Z : Int)) = ((p2 + Z : Nat) : Int) := by rw [IntWalk.i64_in _ ⟨by omega, by omega⟩]; omega
              have hge : ¬ ((p2 + Z : Nat) : Int) ≤ (q : Int) := by omega
              have HB3 := hid (below_step HB6.out HB2.out)
              have HO3 := hid (HO6.out.later HB2.out)
              clear h4 hZ
              go_wp2_with fail
              refine (appNodes_any b2 _ _ h4r).mono ?_
              rintro e w2 ⟨rfl, hw2⟩
              have hw8 := hw2.symm
              subst hw8
              clear hw2 h4r
              go_wp2
              go_roundg (q - p2)
              case measure => omega
              case rel => exact ⟨p2, .app rs, ab ++ [(p : Int)], rfl, hp2q, by simp only [Tr.size]; rw [← HZ.out]; omega, by simp only [Tr.size]; rw [← HZ.out]; omega, Nat.le_refl _, HTv.out, HNf.out, by rw [List.length_append, List.length_singleton]; omega, HO3.out, HB3.out⟩

end Go.Proofs.YtjcgngfidnechabDoor

/- The document's End and place walked. -/
namespace Go.Proofs.YtjcgngfidnechabDoor
open Go.RowKit Go.Maps Go.BigFrame

theorem codeD_neg {sig : List Sy} {c e : Int} (h : codeD sig c = some e) (hc : c < 0) : e = -1 := by
  unfold codeD at h
  split at h
  · cases h
  · first
    | (rw [if_pos hc] at h; cases h; rfl)
    | (cases h; rfl)

theorem codeD_get {sig : List Sy} {c : Nat} {e : Int} (h : codeD sig (c : Int) = some e) : ∃ s, sig[c]? = some s ∧ e = s.2 - 1 := by
  unfold codeD at h
  rw [if_neg (by omega), if_neg (by omega), Int.toNat_natCast] at h
  cases hs : sig[c]? with
  | none => rw [hs] at h; cases h
  | some s =>
    rw [hs] at h
    cases h
    exact ⟨s, rfl, rfl⟩

set_option maxRecDepth 100000 in
set_option maxHeartbeats 1600000 in
theorem refEnd_any (sv v : Value) (sig : List Sy) (t : List Int) (k n : Nat) (w : World) (hs : Sg w sv sig) (h : Is w v t) (ha : ArOk sig) (hb : t.length * 8 ≤ 140737488351232) (hn : firstT sig 1 0 (t.drop k) = ((n : Int), 0)) :
    Calls Tryd.prog 28 #[sv, v, .int .i64 k] w fun e w' => e = .returned (.int .i64 ((k + n : Nat) : Int)) ∧ w' = w := by
  obtain ⟨so, sc, rfl, hso, hsc, _⟩ := Row.flat hs
  obtain ⟨ao, cap, rfl, hao, hca, q0⟩ := Row.flat h
  unfold maxLen at hca hsc
  have HS := hid hs
  have HT := hid h
  have HA := hid ha
  have HN := hid hn
  have hkl : k < t.length := by
    by_cases hk : k < t.length
    · exact hk
    · rw [List.drop_of_length_le (by omega)] at hn
      simp [firstT] at hn
  clear hs h q0 ha hn
  go_enter Tryd.func28, Tryd.ntmps28
  go_wp2
  go_loopw [2, 7] (fun a x wr => ∃ (j : Nat) (m : Int), a = .int .i64 ((k + j : Nat) : Int) ∧ x = .int .i64 m ∧ k + j ≤ t.length ∧ ((0 < m ∧ firstT sig m j (t.drop (k + j)) = ((n : Int), 0)) ∨ (m = 0 ∧ j = n)) ∧ m ≤ 1 + 1000 * (j : Int) ∧ wr = w) (fun a _ _ => t.length + 1 - (intOf a).toNat)
  case atStart => exact ⟨0, 1, rfl, rfl, by omega, .inl ⟨by omega, HN.out⟩, by omega, rfl⟩
  case round =>
    obtain ⟨j, m, rfl, rfl, hkj, hft, hm2, hw⟩ := hrel
    have hw8 := hw.symm
    subst hw8
    clear hw HN
    rcases hft with ⟨hm0, hft⟩ | ⟨rfl, rfl⟩
    · have hlt : k + j < t.length := by
        by_cases hk : k + j < t.length
        · exact hk
        · rw [List.drop_of_length_le (by omega)] at hft
          simp [firstT] at hft
      obtain ⟨g, off, c, rfl, hx1, hx2, hx3, hx4⟩ := HT.out.at hlt
      rw [drop_get hx1, firstT_cons] at hft
      cases hcd : codeD sig c with
      | none => rw [hcd] at hft; simp at hft
      | some e =>
        have hge := codeD_ge HA.out hcd
        have HD : Hid ((0 < m + e ∧ firstT sig (m + e) (j + 1) (t.drop (k + (j + 1))) = ((n : Int), 0)) ∨ (m + e = 0 ∧ j + 1 = n)) := by
          rw [hcd] at hft
          simp only at hft
          by_cases h0 : m + e = 0
          · rw [if_pos h0] at hft
            have := congrArg Prod.fst hft
            simp only at this
            exact .inr ⟨h0, by omega⟩
          · rw [if_neg h0] at hft
            exact .inl ⟨by omega, hft⟩
        clear hft
        have hwk : IntKind.i64.wrap ((k : Int) + (j : Int) + 1) = ((k + (j + 1) : Nat) : Int) := by rw [IntWalk.i64_in _ ⟨by omega, by omega⟩]; omega
        by_cases hc0 : c < 0
        · have he := codeD_neg hcd hc0
          subst he
          have hcn : ¬ 0 ≤ c := by omega
          have hwm : IntKind.i64.wrap (m - 1) = m + -1 := by rw [IntWalk.i64_in _ ⟨by omega, by omega⟩]; omega
          clear hcd hx1
          go_wp2
          go_roundw
          case rel => exact ⟨j + 1, m + -1, by go_num, rfl, by omega, HD.out, by omega, trivial⟩
          case measure => simp [intOf]; omega
        · obtain ⟨cn, rfl⟩ : ∃ cn : Nat, c = cn := ⟨c.toNat, by omega⟩
          have hcn : (0 : Int) ≤ (cn : Int) := by omega
          obtain ⟨s, hsg, he⟩ := codeD_get hcd
          have hcl := (List.getElem?_eq_some_iff.1 hsg).1
          obtain ⟨g2, off2, nm, ar, rfl, hs1, hs2, hs3, hs4, hs5, hs6⟩ := HS.out.at (k := cn) hcl
          rw [hsg] at hs1
          cases hs1
          have har := HA.out _ (List.mem_of_getElem? hsg)
          simp only at har he
          subst he
          have hwm1 : IntKind.i64.wrap (m - 1) = m - 1 := IntWalk.i64_in _ ⟨by omega, by omega⟩
          have hwm : IntKind.i64.wrap (m - 1 + ar) = m + (ar - 1) := by rw [IntWalk.i64_in _ ⟨by omega, by omega⟩]; omega
          clear hsg hx1 hcd
          go_wp2
          go_roundw
          case rel => exact ⟨j + 1, m + (ar - 1), by go_num, rfl, by omega, HD.out, by omega, trivial⟩
          case measure => simp [intOf]; omega
    · go_wp2
      go_ret
      exact ⟨rfl, rfl⟩

/-- What is wrong with a place. -/
theorem place_eq {sig : List Sy} {t : List Int} {p : Int} (h : termE sig t = 0) : placeE sig t p = if p < 0 ∨ (t.length : Int) ≤ p then 33 else 0 := by
  unfold placeE
  rw [if_pos h]
  unfold endP
  by_cases hp : p < 0 ∨ (t.length : Int) ≤ p
  · rw [if_pos hp, if_pos hp]
  · rw [if_neg hp, if_neg hp]
    obtain ⟨k, rfl⟩ : ∃ k : Nat, p = k := ⟨p.toNat, by omega⟩
    have hk : k < t.length := by omega
    obtain ⟨h1, h2⟩ := term_parts h
    obtain ⟨_, _, h3, _⟩ := at_place (sigE_ok h1) h2 hk
    rw [Int.toNat_natCast, h3]

theorem place_in {sig : List Sy} {t : List Int} {k : Nat} (h : termE sig t = 0) (hk : k < t.length) : placeE sig t k = 0 := by
  rw [place_eq h, if_neg (by omega)]

theorem place_end {sig : List Sy} {t : List Int} {k : Nat} (h : termE sig t = 0) (hk : k < t.length) : endP sig t k = (((k + nodes sig t k : Nat) : Int), 0) := by
  obtain ⟨h1, h2⟩ := term_parts h
  obtain ⟨_, _, h3, _⟩ := at_place (sigE_ok h1) h2 hk
  unfold endP
  rw [if_neg (by omega), Int.toNat_natCast, h3]
  simp only [Prod.mk.injEq, and_true]
  omega

theorem sub_eq {sig : List Sy} {t : List Int} {k : Nat} (h : termE sig t = 0) (hk : k < t.length) : subL sig t k = (t.drop k).take (nodes sig t k) := by
  unfold subL
  rw [if_pos (place_in h hk), place_end h hk, Int.toNat_natCast, Int.toNat_natCast, show k + nodes sig t k - k = nodes sig t k by omega]

end Go.Proofs.YtjcgngfidnechabDoor

/- The document's Kids, Sub, Above, Vars walked. -/
namespace Go.Proofs.YtjcgngfidnechabDoor
open Go.RowKit Go.Maps Go.BigFrame

/-- A symbol's arguments, where they stand. -/
theorem kids_parts {sig : List Sy} {t : List Int} {k : Nat} {c : Int} (h : placeE sig t k = 0) (hc : t[k]? = some c) (h0 : ¬ c < 0) :
    ∃ (us : List (List Int)) (q : List Int), us.length = arN sig c ∧ t.drop (k + 1) = us.flatten ++ q ∧ (∀ u ∈ us, rowE sig u = 0) ∧ kidsL sig t k = places (k + 1) (us.map List.length) := by
  obtain ⟨ha, hr, k', m, hk, hkl, hm1, hend, hkm, hsub, hrow⟩ := placeE_ok h
  obtain rfl : k = k' := by omega
  have hd := drop_get hc
  obtain ⟨m', rfl⟩ : ∃ m', m = m' + 1 := ⟨m - 1, by omega⟩
  rw [hd, List.take_succ_cons] at hsub hrow
  obtain ⟨us, u1, u2, u3, u4⟩ := kids_tree ha hrow h0
  refine ⟨us, (t.drop (k + 1)).drop m', u1, by rw [← u2, List.take_append_drop], u3, ?_⟩
  unfold kidsL
  rw [hsub, Int.toNat_natCast, u4]
  show kidsGo (k + 1) (us.flatMap (growR sig)) = _
  rw [kids_places, ← grow_map ha us u3, grow_flat ha us u3]

theorem kids_var {sig : List Sy} {t : List Int} {k : Nat} {c : Int} (h : placeE sig t k = 0) (hc : t[k]? = some c) (h0 : c < 0) : kidsL sig t k = [] := by
  rw [kids_eq h hc, if_pos h0]

theorem drop_next {us : List (List Int)} {i : Nat} {u : List Int} (h : us[i]? = some u) (q : List Int) : (us.drop i).flatten ++ q = u ++ ((us.drop (i + 1)).flatten ++ q) := by
  rw [drop_get h, List.flatten_cons, List.append_assoc]

theorem first_right {sig : List Sy} {u : List Int} (h : rowE sig u = 0) (q : List Int) : firstT sig 1 0 (u ++ q) = ((u.length : Int), 0) := first_more q u 1 0 _ (by rw [row_first.1 h])

theorem place_term {sig : List Sy} {t : List Int} {p : Int} (h : placeE sig t p = 0) : termE sig t = 0 := by
  unfold placeE at h
  by_cases ht : termE sig t = 0
  · exact ht
  · rw [if_neg ht] at h; exact h

/-- The places above a place, as they are told. -/
def aboveL (sig : List Sy) (t : List Int) (p : Int) : List Int := if placeE sig t p = 0 then (abD sig t p.toNat).map fun i : Nat => (i : Int) else []

end Go.Proofs.YtjcgngfidnechabDoor

/- What the law file's helpers do: same, lent, kept, spoil, three, which. -/
namespace Go.Proofs.YtjcgngfidnechabDoor
open Go.RowKit Go.Maps Go.BigFrame

set_option maxHeartbeats 400000 in
theorem same3_any (v u : Value) (xs ys : List Int) (w : World) (h : Is w v xs) (h' : Is w u ys) :
    Calls Tryd.prog 32 #[v, u] w fun e w' => e = .returned (.bool (decide (xs = ys))) ∧ ∃ n, w' = w.drewN n := by
  obtain ⟨ao, cap, rfl, hao, hca, hcl⟩ := h.flatI
  obtain ⟨bo, cap', rfl, hbo, hcb, hcl'⟩ := h'.flatI
  clear h h'
  by_cases hl : xs.length = ys.length
  · have hle : ((xs.length : Int) != ys.length) = false := by simp; omega
    go_enter Tryd.func32, Tryd.ntmps32
    go_wp2
    go_loopw [5] (fun i wr => ∃ k : Nat, k ≤ xs.length ∧ i = .int .i64 k ∧ xs.take k = ys.take k ∧ ∃ n, wr = w.drewN n) (fun i _ => xs.length - (intOf i).toNat)
    case atStart => exact ⟨0, Nat.zero_le _, rfl, rfl, 0, rfl⟩
    case round =>
      obtain ⟨k, hk, rfl, ht, n, rfl⟩ := hrel
      have HT : Hid (xs.take k = ys.take k) := ht
      clear ht
      by_cases hlt : k < xs.length
      · obtain ⟨g, off, x, rfl, hx1, hx3⟩ := hcl k hlt
        obtain ⟨g', off', y, rfl, hy1, hy3⟩ := hcl' k (by omega)
        have HX : Hid (xs[k]? = some x) := hx1
        have HY : Hid (ys[k]? = some y) := hy1
        have hlt' : k < ys.length := by omega
        clear hx1 hy1 hcl hcl'
        by_cases hxy : x = y
        · subst hxy
          have hxx : (x != x) = false := by simp
          go_wp2
          go_quiet (fail)
          go_wp2
          go_roundw
          case rel => exact ⟨k + 1, by omega, by go_num, by rw [take_get HX.out, take_get HY.out, HT.out], _, rfl⟩
          case measure => simp [intOf]; omega
        · have hne : (x != y) = true := by rw [bne_iff_ne]; exact hxy
          go_wp2
          go_quiet (fail)
          go_wp2
          go_ret
          exact ⟨ret1b (by rw [eq_comm, decide_eq_false_iff_not]; rintro rfl; have := HX.out.symm.trans HY.out; simp at this; exact hxy this), _, World.drewN_drewN _ _ _⟩
      · have hk' : k = xs.length := by omega
        go_wp2
        go_ret
        refine ⟨ret1b ?_, n, rfl⟩
        have := HT.out
        rw [List.take_of_length_le (by omega), List.take_of_length_le (by omega)] at this
        simp [this]
  · have hle : ((xs.length : Int) != ys.length) = true := by rw [bne_iff_ne]; omega
    go_enter Tryd.func32, Tryd.ntmps32
    go_wp2
    go_ret
    exact ⟨ret1b (by rw [eq_comm, decide_eq_false_iff_not]; rintro rfl; exact hl rfl), 0, rfl⟩

theorem join_two (ty : TypeId) {w : World} {base : Nat} {x u : Value} {xs es : List Int} (ho : OwI w base x xs) (hs : Is w u es) (hb : base ≤ w.heap.size) (hl : (xs.length + es.length) * 8 ≤ 140737488355328) :
    ∃ v' w', (Builtin.append_ #[23, 23] ty #[x, u]).run Tryd.prog w = .ok v' w' ∧ OwI w' base v' (xs ++ es) ∧ w.grownBy w' x.ownBlock ∧ (v'.ownBlock = x.ownBlock ∨ v'.ownBlock = some w.heap.size) := by
  obtain ⟨i0, hi, hz0, hz1, hz2⟩ := info_parts info_int
  have hZ : ZI es := fun k x hk => by
    obtain ⟨ao, cap, rfl, _, _, hx⟩ := Row.flat hs
    obtain ⟨_, _, y, _, hy, h1, h2, _⟩ := hx k (List.getElem?_eq_some_iff.1 hk).1
    rw [hk] at hy
    cases hy
    exact ⟨h1, h2⟩
  have hZ2 : ZI (xs ++ es) := fun k y hk => by
    by_cases hkl : k < xs.length
    · rw [List.getElem?_append_left hkl] at hk
      exact ho.1 k y hk
    · rw [List.getElem?_append_right (by omega)] at hk
      exact hZ _ y hk
  obtain ⟨ao, cap, rfl, hc, hm, hx⟩ := hs
  by_cases h0 : es.length = 0
  · obtain rfl : es = [] := List.eq_nil_of_length_eq_zero h0
    obtain ⟨bo, bc, rfl, hbc, _⟩ := ho.shape
    refine ⟨_, w, run_append_nothing w 23 23 ty 3 i0 under_ints hi _ xs.length bc hbc _ ?_, by rw [List.append_nil]; exact ho, World.grownBy.refl _ _, .inl rfl⟩
    cases ao with
    | none => exact Src.ofNil w under_ints _
    | some a => exact Src.ofSlice w under_ints a 0 _ [] (by simp) (fun j u hj => (by simp at hj)) (fun u hu => (by simp at hu))
  · obtain ⟨g', off, rfl, hg, hcell⟩ := hx (by omega)
    obtain ⟨v', w', hr, h2, h3, _, h5⟩ := run_append_own_at (P := Tryd.prog) w base 23 ty 3 i0 _ 1 8 under_ints hi hz0 hz1 hz2 rfl (by decide) _ xs.length (xs.map I64) ho.2 ⟨g', off, none⟩ es.length cap (es.map I64) (by simp) (fun j u hj => by
      rw [List.getElem?_map] at hj
      cases hk : es[j]? with
      | none => rw [hk] at hj; simp at hj
      | some x =>
        rw [hk] at hj
        simp at hj
        subst hj
        rw [Addr.add_lit]
        have := (hcell j x hk).2.2
        rw [Nat.mul_one] at this
        exact this) (fun u hu => by obtain ⟨x, _, rfl⟩ := List.mem_map.1 hu; rfl) (by unfold maxLen; omega) (by omega) hb
    refine ⟨v', w', hr, ⟨hZ2, ?_⟩, h3, h5⟩
    rw [List.length_append, List.map_append]
    exact h2

theorem I64_one (xs : List Int) : ∀ u ∈ xs.map I64, u.oneCell' = true := fun u hu => by obtain ⟨x, _, rfl⟩ := List.mem_map.1 hu; rfl

theorem run_copy_ints {w : World} {base g n cap cap' : Nat} {ao : Option Addr} {zs xs : List Int} (ho : OwI w base (.slice (some ⟨g, 0, none⟩) n cap) zs) (hn : n = zs.length)
    (hs : Is w (.slice ao xs.length cap') xs) (hle : xs.length ≤ n) :
    ∃ w', (Builtin.copy_ #[23, 23] 3 #[.slice (some ⟨g, 0, none⟩) n cap, .slice ao xs.length cap']).run Tryd.prog w = .ok (goInt xs.length) w' ∧
      OwI w' base (.slice (some ⟨g, 0, none⟩) n cap) (xs ++ zs.drop xs.length) ∧ w.grownBy w' (some g) := by
  subst hn
  have hsz : (Tryd.prog.info? 3).map (·.size) = some 1 := by kernel_rfl
  by_cases h0 : xs.length = 0
  · obtain rfl : xs = [] := List.eq_nil_of_length_eq_zero h0
    have := run_copy_none (P := Tryd.prog) w 23 23 3 3 (some ⟨g, 0, none⟩) ao zs.length cap 0 cap' under_ints hsz (by simp)
    exact ⟨w, this, by simpa using ho, World.grownBy.refl _ _⟩
  · have hZ := hs.range
    obtain ⟨ao', c', hv, hc, hm, hx⟩ := hs
    simp only [Value.slice.injEq] at hv
    obtain ⟨rfl, _, rfl⟩ := hv
    obtain ⟨g', off, rfl, hg, hx⟩ := hx (by omega)
    rcases ho.2.2 with ⟨hv, _⟩ | ⟨g2, cap2, cur, hv, hb, hg2, hc2, hm2, hs2, ht2⟩
    · simp at hv
    · simp only [Value.slice.injEq, Option.some.injEq, Addr.mk.injEq, and_true, true_and] at hv
      obtain ⟨rfl, rfl⟩ := hv
      have hmin : xs.length = Nat.min xs.length zs.length := (Nat.min_eq_left hle).symm
      have hcur : zs.length ≤ cur.size := by omega
      have := run_copy_row (P := Tryd.prog) w 23 23 3 3 g 0 zs.length cap ⟨g', off, none⟩ xs.length cap' cur 3 (xs.map I64) under_ints hsz hg2
        (by simpa using hmin) (by
          intro j v hj
          simp only [List.getElem?_map, Option.map_eq_some_iff] at hj
          obtain ⟨x, hx1, rfl⟩ := hj
          rw [Addr.add_lit]
          have := (hx j x hx1).2.2
          rw [Nat.mul_one] at this
          exact this) (by simp; omega) (I64_one xs)
      refine ⟨_, by simpa using this, ⟨?_, ?_, .inr ⟨g, cap, _, by rw [List.length_append, List.length_drop, show xs.length + (zs.length - xs.length) = zs.length by omega], hb, setRow_heap w g cur _ 3 _ hg2, ?_, hm2, ?_, ?_⟩⟩, ?_⟩
      · intro k y hk
        by_cases hkl : k < xs.length
        · rw [List.getElem?_append_left hkl] at hk
          exact hZ k y hk
        · rw [List.getElem?_append_right (by omega), List.getElem?_drop] at hk
          exact ho.1 _ y hk
      · simp
      · simp; omega
      · simp; omega
      · have hl : (xs.map I64).length = xs.length := by simp
        rw [List.length_append, List.length_drop, show xs.length + (zs.length - xs.length) = zs.length by omega]
        simp only [List.map_append, List.map_drop, ← ht2, List.drop_take, Nat.mul_one]
        rw [List.take_append, hl, List.take_of_length_le (by simp; omega)]
      · exact ⟨rfl, rfl, rfl, by simp [World.setRow], fun k _ hk => setRow_other w g k _ (fun e => hk (by simp [e]))⟩

/-- A row and three marks behind it. -/
def marked (xs : List Int) : List Int := xs ++ [77, 77, 77]

theorem mark_step (xs R : List Int) (k : Nat) : (xs ++ List.replicate k 77) ++ 77 :: R = (xs ++ List.replicate (k + 1) 77) ++ R := by
  rw [List.replicate_succ']; simp

theorem get_midI {α : Type} {L : List α} {x : α} {R : List α} {k : Nat} (hk : L.length = k) : (L ++ x :: R)[k]? = some x := by subst hk; simp

theorem marked_lo {xs : List Int} {k : Nat} {x : Int} (h : xs[k]? = some x) : (marked xs)[k]? = some x := by
  have hk := (List.getElem?_eq_some_iff.1 h).1
  unfold marked
  rw [List.getElem?_append_left hk, h]

theorem marked_hi {xs : List Int} {k : Nat} (h1 : ¬ k < xs.length) (h2 : k < xs.length + 3) : (marked xs)[k]? = some 77 := by
  unfold marked
  rw [List.getElem?_append_right (by omega)]
  obtain ⟨j, rfl⟩ : ∃ j, k = xs.length + j := ⟨k - xs.length, by omega⟩
  rw [Nat.add_sub_cancel_left]
  match j, (by omega : j < 3) with
  | 0, _ => rfl
  | 1, _ => rfl
  | 2, _ => rfl

theorem cutI {w : World} {base g n cap : Nat} {xs ys : List Int} (h : OwI w base (.slice (some ⟨g, 0, none⟩) n cap) (xs ++ ys)) : Is w (.slice (some ⟨g, 0, none⟩) xs.length cap) xs := by
  obtain ⟨ao, cp, hv, hc, hm, hx⟩ := h.is
  simp only [Value.slice.injEq] at hv
  obtain ⟨rfl, _, rfl⟩ := hv
  rw [List.length_append] at hc
  refine ⟨_, cap, rfl, by omega, hm, fun h0 => ?_⟩
  obtain ⟨g', off, e, hg, hcell⟩ := hx (by rw [List.length_append]; omega)
  simp only [Option.some.injEq, Addr.mk.injEq, and_true] at e
  obtain ⟨rfl, rfl⟩ := e
  exact ⟨g, 0, rfl, hg, fun k x hk => hcell k x (by rw [List.getElem?_append_left (List.getElem?_eq_some_iff.1 hk).1]; exact hk)⟩

theorem grown_stepT {a b c : World} {r r' : Option Nat} (h : a.grownBy b r) (h' : b.grownBy c r') (hr : ∀ g, r' = some g → r = some g ∨ a.heap.size ≤ g) : a.grownBy c r :=
  ⟨h'.os.trans h.os, h'.tape.trans h.tape, h'.output.trans h.output, Nat.le_trans h.size h'.size, fun k hk hne => (h'.block k (Nat.lt_of_lt_of_le hk h.size) (fun e => by
    rcases hr k e.symm with h1 | h1
    · exact hne h1.symm
    · omega)).trans (h.block k hk hne)⟩

set_option maxRecDepth 100000 in
theorem three_any (w : World) : Calls Tryd.prog 29 #[] w fun e w' => ∃ v', e = .returned v' ∧ Sg w' v' sumS ∧ Below w.heap.size w w' := by
  go_enter Tryd.func29, Tryd.ntmps29
  go_wp2
  go_ret
  refine ⟨_, rfl, sg_lit (p := sumS) (by simp) (by decide) ⟨⟨by decide, by decide, by decide, cell_new rfl, cell_new rfl⟩, ⟨by decide, by decide, by decide, cell_new rfl, cell_new rfl⟩, ⟨by decide, by decide, by decide, cell_new rfl, cell_new rfl⟩, trivial⟩, below_alloc _⟩

/-- Which of n places. -/
def whichN (c : Int) (n : Nat) : Nat := ((if c < 0 then -(c + 1) else c) % (n : Int)).toNat

theorem which_lt (c : Int) (n : Nat) (hn : 0 < n) : whichN c n < n := by
  unfold whichN
  have h1 := Int.emod_nonneg (if c < 0 then -(c + 1) else c) (b := (n : Int)) (by omega)
  have h2 := Int.emod_lt_of_pos (if c < 0 then -(c + 1) else c) (b := (n : Int)) (by omega)
  omega

end Go.Proofs.YtjcgngfidnechabDoor

/- slices.Grow, slices.Concat walked. -/
namespace Go.Proofs.YtjcgngfidnechabDoor
open Go.RowKit Go.Maps Go.BigFrame

theorem wpList_append_run2 {P : Program} {w w' : World} {ops : Array Oper} {rest : List Oper} {o : Oper} {a : Act} {v' : Value} {Q : Exit → Act → World → Prop} (hgd : o.guard = none) (s x : Operand) (t t2 : TypeId)
    (ho : o.op = .call { callee := .builtin .append, args := #[s, x], argTypes := #[t, t2] }) (v u : Value) (hs : a.eval s = v) (hx : a.eval x = u)
    (hr : (Builtin.append_ #[t, t2] o.type #[v, u]).run P w = .ok v' w') (h : wpList P ops Q rest (a.put o.dst v') w') : wpList P ops Q (o :: rest) a w := by
  refine wpList_plain hgd fun K hK => ?_
  unfold Oper.wp execOp
  simp only [ho, resolve, invoke, builtin, Sem.run_bind, Sem.run_pure, Result.andThen_ok, List.map_toArray, List.map_cons, List.map_nil, hs, hx, hr]
  exact hK _ _ h

theorem zeroI_cells (n : Nat) : (Builtin.zeroCells (Value.int .i64 0).cells n).size = n := by
  simp [Builtin.zeroCells, Value.cells]

set_option maxRecDepth 100000 in
theorem growS_any (n : Nat) (w : World) (h : n * 8 ≤ 140737488355328) :
    Calls Tryd.prog 61 #[.slice none 0 0, .int .i64 n] w fun e w' => ∃ v', e = .returned v' ∧ OwI w' w.heap.size v' [] ∧ Below w.heap.size w w' := by
  obtain ⟨i0, hi, hz0, hz1, hz2⟩ := info_parts info_int
  by_cases h0 : n = 0
  · subst h0
    go_enter Tryd.func61, Tryd.ntmps61
    go_wp2
    go_ret
    exact ⟨_, rfl, nilI _ _, Below.refl _ _⟩
  · have hn1 : ¬ (n : Int) < 0 := by omega
    have hn2 : (0 : Int) < (n : Int) := by omega
    have hr := Lib.run_append_nil_zeros (P := Tryd.prog) w 23 3 23 3 i0 (.int .i64 0) .i64 .i64 under_ints (by kernel_rfl) hi hz0 n (by omega) (by rw [hz1]; decide) (by omega) (by rw [hz2]; omega)
    obtain ⟨C, hC⟩ : ∃ C, C = grownCap w n 0 3 := ⟨_, rfl⟩
    rw [← hC] at hr
    have HR := hid hr
    have HC : Hid (n ≤ C ∧ C ≤ maxLen) := by
      rw [hC]
      exact ⟨grownCap_ge _ _ _ _, grownCap_le_maxLen _ _ _ _ (by unfold maxLen; omega)⟩
    clear hr hC
    go_enter Tryd.func61, Tryd.ntmps61
    go_wp2_with (first
      | (at_builtin; refine wpList_append_run2 rfl _ _ _ _ rfl _ _ rfl rfl HR.out ?_))
    go_ret
    refine ⟨_, rfl, ⟨fun k x hk => (by simp at hk), rfl, .inr ⟨w.heap.size, C, _, rfl, Nat.le_refl _, heap_alloc_new _ _, Nat.zero_le _, HC.out.2, ?_, rfl⟩⟩, below_step (below_alloc _) (drawn_below1 _)⟩
    have h1 := zeroI_cells n
    have h2 := zeroI_cells (C - n)
    simp only [Value.cells] at h1 h2
    have := HC.out.1
    rw [Array.size_append, h1, h2]
    omega

theorem sumT_take {l : List (List Int)} {k : Nat} {r : List Int} (h : l[k]? = some r) : ((l.take (k + 1)).map List.length).sum = ((l.take k).map List.length).sum + r.length := by
  rw [take_get h, List.map_append, List.sum_append]
  simp

theorem sumT_le (l : List (List Int)) (k : Nat) : ((l.take k).map List.length).sum ≤ (l.map List.length).sum := by
  have : (l.map List.length).sum = ((l.take k).map List.length).sum + ((l.drop k).map List.length).sum := by
    rw [← List.sum_append, ← List.map_append, List.take_append_drop]
  omega

theorem flat_len (l : List (List Int)) : l.flatten.length = (l.map List.length).sum := List.length_flatten

set_option maxRecDepth 100000 in
set_option maxHeartbeats 1600000 in
theorem concat_any (v : Value) (l : List (List Int)) (w : World) (h : Rs w v l) (hl : (l.map List.length).sum * 8 ≤ 140737488355328) :
    Calls Tryd.prog 39 #[v] w fun e w' => ∃ v', e = .returned v' ∧ OwI w' w.heap.size v' l.flatten ∧ Below w.heap.size w w' := by
  obtain ⟨ao, cap, rfl, hao, hca, q0⟩ := Row.flat h
  unfold maxLen at hca
  have HR := hid h
  clear h q0
  go_enter Tryd.func39, Tryd.ntmps39
  go_wp2
  go_loopw [3, 11] (fun x i wr => ∃ k : Nat, k ≤ l.length ∧ i = .int .i64 k ∧ x = .int .i64 ((((l.take k).map List.length).sum : Nat) : Int) ∧ wr = w) (fun _ i _ => l.length - (intOf i).toNat)
  case atStart => exact ⟨0, Nat.zero_le _, rfl, rfl, rfl⟩
  case round =>
    obtain ⟨k, hk, rfl, rfl, hw⟩ := hrel
    have hw8 := hw.symm
    subst hw8
    clear hw
    have hsl := sumT_le l k
    have hsl1 := sumT_le l (k + 1)
    by_cases hlt : k < l.length
    · obtain ⟨g, off, a, r, c, rfl, hm, hc0, hir, hrl⟩ := HR.out.at hlt
      have hst := sumT_take hm
      have HSt := hid hst
      obtain ⟨S, hS⟩ : ∃ S, S = ((l.take k).map List.length).sum := ⟨_, rfl⟩
      rw [← hS] at hsl hst HSt ⊢
      have hw1 : IntKind.i64.wrap ((S : Int) + (r.length : Int)) = ((S + r.length : Nat) : Int) := by rw [IntWalk.i64_in _ ⟨by omega, by omega⟩]; omega
      have hn0 : ¬ ((S + r.length : Nat) : Int) < 0 := by omega
      clear hm hir hS
      go_wp2
      go_roundw
      case rel => exact ⟨k + 1, by omega, by go_num, by rw [HSt.out]; exact congrArg (Value.int .i64) (by omega), trivial⟩
      case measure => simp [intOf]; omega
    · have hke : k = l.length := by omega
      subst hke
      rw [List.take_length]
      have HG := hid (growS_any (l.map List.length).sum w hl)
      go_wp2_with fail
      refine HG.out.mono ?_
      rintro e w1 ⟨v1, rfl, ho1, hb1⟩
      have HO1 := hid ho1
      have HB1 := hid hb1
      clear ho1 hb1 HG hsl hsl1 hlt hk
      go_wp2
      go_loopw [6, 27] (fun x i wr => ∃ k : Nat, k ≤ l.length ∧ i = .int .i64 k ∧ OwI wr w.heap.size x (l.take k).flatten ∧ Below w.heap.size w wr) (fun _ i _ => l.length - (intOf i).toNat)
      case atStart => exact ⟨0, Nat.zero_le _, rfl, HO1.out, HB1.out⟩
      case round =>
        obtain ⟨k, hk, rfl, how, hbl⟩ := hrel
        have HO := hid how
        have HB := hid hbl
        have hsl := sumT_le l k
        have hsl1 := sumT_le l (k + 1)
        clear how
        by_cases hlt : k < l.length
        · obtain ⟨g, off, a, r, c, rfl, hm, hc0, hir, hrl⟩ := (HR.out.kp (Kp.of_below hbl)).at hlt
          have hst := sumT_take hm
          have HFl : Hid ((l.take (k + 1)).flatten = (l.take k).flatten ++ r) := by
            show _ = _
            rw [take_get hm, List.flatten_append]
            simp
          obtain ⟨v4, w4, hr4, ho4, hg4⟩ := join_ints 23 HO.out hir HB.out.size (by rw [flat_len]; omega)
          have HR4 := hid hr4
          have HO4 := hid ho4
          have HB4 : Hid (Below w.heap.size w w4) := HB.out.grown hg4 HB.out.size (fun j hj => own_blk HO.out.2 hj)
          clear hm hir hr4 ho4 hg4 hst hbl
          go_wp2_with (first
            | (at_builtin; refine wpList_append_run rfl _ _ _ rfl _ _ rfl rfl HR4.out ?_))
          go_roundw
          case rel => exact ⟨k + 1, by omega, by go_num, by rw [HFl.out]; exact HO4.out, HB4.out⟩
          case measure => simp [intOf]; omega
        · have hke : k = l.length := by omega
          subst hke
          rw [List.take_length] at HO
          go_wp2
          go_ret
          exact ⟨_, rfl, HO.out, HB.out⟩

end Go.Proofs.YtjcgngfidnechabDoor
