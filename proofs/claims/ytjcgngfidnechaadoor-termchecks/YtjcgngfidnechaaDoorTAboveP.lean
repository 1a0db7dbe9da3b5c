/- The places of a term, plainly: what is above a place, where the arguments stand. -/
import Derived.Test.YtjcgngfidnechaaDoorTParts
namespace Go.Proofs.YtjcgngfidnechaaDoor
open Go.RowKit Go.Maps

mutual
/-- The places above a place, of a tree that stands at a place. -/
def abv : Tr → Nat → Nat → List Int
  | .var, _, _ => []
  | .app ts, p, q => if p = q then [] else (p : Int) :: abvs ts (p + 1) q
def abvs : List Tr → Nat → Nat → List Int
  | [], _, _ => []
  | t :: ts, p, q => if p + t.size ≤ q then abvs ts (p + t.size) q else abv t p q
end

/-- How many nodes the term at a place has. -/
def nodes (sig : List Sy) (t : List Int) (i : Nat) : Nat := (firstT sig 1 0 (t.drop i)).1.toNat

/-- The places above a place. -/
def abD (sig : List Sy) (t : List Int) (q : Nat) : List Nat := (List.range q).filter fun i => decide (q < i + nodes sig t i)

theorem first_more {sig : List Sy} (q : List Int) : ∀ (r : List Int) (m : Int) (i : Nat) (n : Int), firstT sig m i r = (n, 0) → firstT sig m i (r ++ q) = (n, 0)
  | [], m, i, n, h => by simp [firstT] at h
  | c :: r, m, i, n, h => by
    rw [List.cons_append, firstT_cons]
    rw [firstT_cons] at h
    cases hc : codeD sig c with
    | none => rw [hc] at h; simp at h
    | some e =>
      rw [hc] at h
      simp only at h ⊢
      by_cases h0 : m + e = 0
      · rw [if_pos h0] at h ⊢; exact h
      · rw [if_neg h0] at h ⊢; exact first_more q r (m + e) (i + 1) n h

theorem first_at {sig : List Sy} (ha : ArOk sig) : ∀ (v : List Int) (m : Int) (j i : Nat), 1 ≤ m → firstT sig m j v = ((j : Int) + v.length, 0) → i < v.length → ∃ m' : Int, 1 ≤ m' ∧ firstT sig m' (j + i) (v.drop i) = ((j : Int) + v.length, 0)
  | v, m, j, 0, hm, h, _ => ⟨m, hm, h⟩
  | [], m, j, i + 1, _, _, hi => by simp at hi
  | c :: v, m, j, i + 1, hm, h, hi => by
    rw [firstT_cons] at h
    cases hc : codeD sig c with
    | none => rw [hc] at h; simp at h
    | some e =>
      have he := codeD_ge ha hc
      rw [hc] at h
      simp only at h
      by_cases h0 : m + e = 0
      · rw [if_pos h0] at h
        have := congrArg Prod.fst h
        simp only [List.length_cons] at this hi
        omega
      · rw [if_neg h0] at h
        obtain ⟨m', h1, h2⟩ := first_at ha v (m + e) (j + 1) i (by omega) (by rw [h]; simp only [List.length_cons, Prod.mk.injEq, and_true]; omega) (by simpa using hi)
        refine ⟨m', h1, ?_⟩
        rw [List.drop_succ_cons, show j + (i + 1) = j + 1 + i by omega, h2]
        simp only [List.length_cons, Prod.mk.injEq, and_true]
        omega

/-- The term at a place of a right term. -/
theorem at_place {sig : List Sy} (ha : ArOk sig) {v : List Int} (h : rowE sig v = 0) {i : Nat} (hi : i < v.length) :
    1 ≤ nodes sig v i ∧ i + nodes sig v i ≤ v.length ∧ firstT sig 1 0 (v.drop i) = ((nodes sig v i : Int), 0) ∧ rowE sig ((v.drop i).take (nodes sig v i)) = 0 := by
  obtain ⟨m', h1, h2⟩ := first_at ha v 1 0 i (by omega) (by rw [row_first.1 h]; simp) hi
  obtain ⟨k, k1, k2, k3, _, _⟩ := first_part ha (v.drop i) 1 m' 0 (0 + i) (by omega) h1 (by rw [h2, List.length_drop]; simp only [Prod.mk.injEq, and_true]; omega)
  have hn : nodes sig v i = k := by unfold nodes; rw [k3]; simp
  rw [hn]
  rw [List.length_drop] at k2
  have k3' : firstT sig 1 0 (v.drop i) = ((k : Int), 0) := by rw [k3]; simp
  refine ⟨k1, by omega, k3', ?_⟩
  obtain ⟨k', e1, _, _, e4⟩ := first_take (v.drop i) 1 0 _ k3'
  have : k' = k := by omega
  subst this
  rw [row_first, e4, List.length_take, List.length_drop]
  simp only [Prod.mk.injEq, and_true]
  omega

theorem nodes_app {sig : List Sy} (ha : ArOk sig) {v : List Int} (h : rowE sig v = 0) {i : Nat} (hi : i < v.length) (q : List Int) : nodes sig (v ++ q) i = nodes sig v i := by
  obtain ⟨_, _, h3, _⟩ := at_place ha h hi
  have h4 := first_more q _ _ _ _ h3
  rw [← List.drop_append_of_le_length (by omega)] at h4
  have h5 : nodes sig (v ++ q) i = ((nodes sig v i : Int)).toNat := by
    show (firstT sig 1 0 ((v ++ q).drop i)).1.toNat = _
    rw [h4]
  rw [h5, Int.toNat_natCast]

theorem nodes_behind {sig : List Sy} (v q : List Int) (i : Nat) : nodes sig (v ++ q) (v.length + i) = nodes sig q i := by
  unfold nodes
  rw [List.drop_length_add_append]

theorem nodes_drop {sig : List Sy} (t : List Int) (j i : Nat) : nodes sig (t.drop j) i = nodes sig t (j + i) := by
  unfold nodes
  rw [List.drop_drop]

theorem nodes_root {sig : List Sy} {v : List Int} (h : rowE sig v = 0) : nodes sig v 0 = v.length := by
  unfold nodes
  rw [List.drop_zero, row_first.1 h]
  simp

/-- Terms lie in one another, or apart. -/
theorem lam {sig : List Sy} (ha : ArOk sig) {t : List Int} (h : rowE sig t = 0) {i j : Nat} (hj : j < t.length) (h1 : j ≤ i) (h2 : i < j + nodes sig t j) : i + nodes sig t i ≤ j + nodes sig t j := by
  obtain ⟨_, k2, k3, k4⟩ := at_place ha h hj
  have hl : ((t.drop j).take (nodes sig t j)).length = nodes sig t j := by rw [List.length_take, List.length_drop]; omega
  have h3 := at_place ha k4 (i := i - j) (by rw [hl]; omega)
  have h4 := nodes_app ha k4 (i := i - j) (by rw [hl]; omega) ((t.drop j).drop (nodes sig t j))
  rw [List.take_append_drop, nodes_drop, show j + (i - j) = i by omega] at h4
  rw [← h4, hl] at h3
  omega

theorem grow_map {sig : List Sy} (ha : ArOk sig) : ∀ us : List (List Int), (∀ u ∈ us, rowE sig u = 0) → (growR sig us.flatten).reverse = us.flatMap (growR sig)
  | [], _ => by simp [growR]
  | u :: us, h => by
    obtain ⟨T, h1, _⟩ := grow_one ha (h u (by simp))
    have h3 := grow_behind ha us.flatten u [] (by rw [List.nil_append]; exact row_first.1 (h u (by simp)))
    rw [List.flatten_cons, h3, h1, List.reverse_append, grow_map ha us (fun x hx => h x (by simp [hx])), List.flatMap_cons, h1]
    rfl

/-- A symbol's arguments, as a tree. -/
theorem kids_tree {sig : List Sy} (ha : ArOk sig) {c : Int} {r : List Int} (h : rowE sig (c :: r) = 0) (hc : ¬ c < 0) :
    ∃ us : List (List Int), us.length = arN sig c ∧ r = us.flatten ∧ (∀ u ∈ us, rowE sig u = 0) ∧ growR sig (c :: r) = [.app (us.flatMap (growR sig))] := by
  have h1 := row_first.1 h
  rw [firstT_cons] at h1
  cases hd : codeD sig c with
  | none => rw [hd] at h1; simp at h1
  | some e =>
    rw [hd] at h1
    simp only at h1
    obtain ⟨k1, _⟩ := codeD_ar ha hd hc
    obtain ⟨us, u1, u2, u3⟩ : ∃ us : List (List Int), us.length = arN sig c ∧ r = us.flatten ∧ ∀ u ∈ us, rowE sig u = 0 := by
      by_cases h0 : 1 + e = 0
      · rw [if_pos h0] at h1
        have hl : r.length = 0 := by
          have := congrArg Prod.fst h1
          simp at this
          omega
        exact ⟨[], by simp; omega, by rw [List.eq_nil_of_length_eq_zero hl]; rfl, fun u hu => by cases hu⟩
      · rw [if_neg h0, show (1 : Int) + e = (arN sig c : Int) by omega] at h1
        exact split_first ha _ r (0 + 1) (by omega) (by rw [h1]; simp only [List.length_cons, Prod.mk.injEq, and_true]; omega)
    have hl : (growR sig r).length = arN sig c := by
      have := congrArg List.length (grow_flat ha us u3)
      rw [List.length_map, List.length_map, List.length_reverse, ← u2] at this
      omega
    refine ⟨us, u1, u2, u3, ?_⟩
    show growStep sig (growR sig r) c = _
    unfold growStep
    rw [if_neg hc, hl, Nat.sub_self, List.take_zero, List.drop_zero, List.nil_append, u2, grow_map ha us u3]

theorem abD_far {sig : List Sy} (ha : ArOk sig) {v : List Int} (h : rowE sig v = 0) (r : List Int) {q : Nat} (hq : v.length ≤ q) : abD sig (v ++ r) q = (abD sig r (q - v.length)).map (v.length + ·) := by
  obtain ⟨d, rfl⟩ : ∃ d, q = v.length + d := ⟨q - v.length, by omega⟩
  rw [Nat.add_sub_cancel_left]
  unfold abD
  rw [List.range_add, List.filter_append, List.filter_map]
  have h1 : (List.range v.length).filter (fun i => decide (v.length + d < i + nodes sig (v ++ r) i)) = [] := by
    rw [List.filter_eq_nil_iff]
    intro i hi
    have hi := List.mem_range.1 hi
    have h2 := at_place ha h hi
    rw [nodes_app ha h hi]
    simp
    omega
  rw [h1, List.nil_append]
  congr 1
  refine List.filter_congr fun i _ => ?_
  simp only [Function.comp]
  rw [nodes_behind]
  simp
  omega

theorem abD_in {sig : List Sy} (ha : ArOk sig) {v : List Int} (h : rowE sig v = 0) (r : List Int) {q : Nat} (hq : q < v.length) : abD sig (v ++ r) q = abD sig v q := by
  unfold abD
  refine List.filter_congr fun i hi => ?_
  rw [nodes_app ha h (by have := List.mem_range.1 hi; omega)]

theorem abD_cons {sig : List Sy} {c : Int} {r : List Int} (h : rowE sig (c :: r) = 0) {q : Nat} (hq : q < r.length) : abD sig (c :: r) (q + 1) = 0 :: (abD sig r q).map (1 + ·) := by
  unfold abD
  rw [Nat.add_comm q 1, List.range_add, List.filter_append, List.filter_map]
  have h1 : (List.range 1).filter (fun i => decide (1 + q < i + nodes sig (c :: r) i)) = [0] := by
    have : List.range 1 = [0] := rfl
    rw [this, List.filter_cons_of_pos (by rw [nodes_root h]; simp; omega)]
    rfl
  rw [h1, List.singleton_append]
  congr 2
  refine List.filter_congr fun i _ => ?_
  simp only [Function.comp]
  have := nodes_behind (sig := sig) [c] r i
  simp only [List.singleton_append, List.length_singleton] at this
  rw [this]
  simp
  omega

/-- What is found above a place by going down the tree. -/
theorem abv_eq {sig : List Sy} (ha : ArOk sig) : ∀ (N : Nat) (u : List Int), u.length ≤ N → rowE sig u = 0 → ∀ (T : Tr) (p q : Nat), growR sig u = [T] → q < u.length → abv T p (p + q) = (abD sig u q).map (fun i => ((p + i : Nat) : Int))
  | 0, u, hN, h, T, p, q, _, hq => by omega
  | N + 1, [], hN, h, T, p, q, _, hq => by simp at hq
  | N + 1, c :: r, hN, h, T, p, q, hT, hq => by
    by_cases hc : c < 0
    · have h1 := row_first.1 h
      have hr : r = [] := by
        rw [firstT_cons] at h1
        cases hd : codeD sig c with
        | none => rw [hd] at h1; simp at h1
        | some e =>
          rw [hd] at h1
          unfold codeD at hd
          split at hd
          · cases hd
          · cases hd
            simp at h1
            exact List.eq_nil_of_length_eq_zero (by omega)
      subst hr
      obtain rfl : q = 0 := by simp at hq; omega
      have : T = .var := by
        have h2 : growStep sig [] c = [T] := hT
        unfold growStep at h2
        rw [if_pos hc] at h2
        simp at h2
        exact h2.symm
      subst this
      simp [abv, abD]
    · obtain ⟨us, _, hr, hus, hg⟩ := kids_tree ha h hc
      rw [hg] at hT
      simp only [List.cons.injEq, and_true] at hT
      subst hT
      have hlen : ∀ u ∈ us, u.length ≤ N := fun u hu => by
        have h1 : u.length ≤ us.flatten.length := List.Sublist.length_le (List.sublist_flatten_of_mem hu)
        rw [← hr] at h1
        simp at hN
        omega
      -- the arguments, one behind the other
      have key : ∀ (vs : List (List Int)), (∀ u ∈ vs, rowE sig u = 0) → (∀ u ∈ vs, u.length ≤ N) → ∀ p q : Nat, q < vs.flatten.length → abvs (vs.flatMap (growR sig)) p (p + q) = (abD sig vs.flatten q).map (fun i => ((p + i : Nat) : Int)) := by
        intro vs
        induction vs with
        | nil => intro _ _ p q hq; simp at hq
        | cons v vs ih =>
          intro hv hl p q hq
          obtain ⟨T, h1, h2⟩ := grow_one ha (hv v (by simp))
          rw [List.flatMap_cons, h1, List.flatten_cons]
          show abvs (T :: vs.flatMap (growR sig)) p (p + q) = _
          unfold abvs
          rw [h2]
          by_cases hqv : v.length ≤ q
          · rw [if_pos (by omega), abD_far ha (hv v (by simp)) _ hqv, show p + q = p + v.length + (q - v.length) by omega,
              ih (fun u hu => hv u (by simp [hu])) (fun u hu => hl u (by simp [hu])) (p + v.length) (q - v.length) (by rw [List.flatten_cons, List.length_append] at hq; omega), List.map_map]
            refine List.map_congr_left fun i _ => ?_
            simp only [Function.comp]
            rw [Nat.add_assoc]
          · rw [if_neg (by omega), abD_in ha (hv v (by simp)) _ (by omega)]
            exact abv_eq ha N v (hl v (by simp)) (hv v (by simp)) T p q h1 (by omega)
      unfold abv
      cases q with
      | zero => simp [abD]
      | succ q =>
        have hq2 : q < us.flatten.length := by rw [← hr]; simpa using hq
        rw [if_neg (by omega), abD_cons h (by simpa using hq), show p + (q + 1) = p + 1 + q by omega, key us hus hlen (p + 1) q hq2, hr, List.map_cons, List.map_map]
        congr 1
        refine List.map_congr_left fun i _ => ?_
        simp only [Function.comp]
        rw [Nat.add_assoc]

/-- The arguments' places, found one by one. -/
def kidsD (sig : List Sy) (t : List Int) : Nat → Nat → List Int
  | 0, _ => []
  | n + 1, k => (k : Int) :: kidsD sig t n (k + nodes sig t k)

theorem kidsD_places {sig : List Sy} (t : List Int) : ∀ (us : List (List Int)) (k : Nat) (q : List Int), (∀ u ∈ us, rowE sig u = 0) → t.drop k = us.flatten ++ q → kidsD sig t us.length k = places k (us.map List.length)
  | [], _, _, _, _ => rfl
  | u :: us, k, q, h, ht => by
    have h0 := h u (by simp)
    have h1 : nodes sig t k = u.length := by
      unfold nodes
      rw [ht, List.flatten_cons, List.append_assoc, first_more _ u 1 0 (u.length : Int) (by rw [row_first.1 h0])]
      simp
    show (k : Int) :: kidsD sig t us.length (k + nodes sig t k) = (k : Int) :: places (k + u.length) (us.map List.length)
    rw [h1, kidsD_places t us (k + u.length) q (fun x hx => h x (by simp [hx]))]
    rw [← List.drop_drop, ht, List.flatten_cons, List.append_assoc, List.drop_left]

/-- Kids, found one by one. -/
theorem kids_eq {sig : List Sy} {t : List Int} {k : Nat} {c : Int} (h : placeE sig t k = 0) (hc : t[k]? = some c) : kidsL sig t k = if c < 0 then [] else kidsD sig t (arN sig c) (k + 1) := by
  obtain ⟨ha, hr, k', m, hk, hkl, hm1, hend, hkm, hsub, hrow⟩ := placeE_ok h
  obtain rfl : k = k' := by omega
  have hd := drop_get hc
  obtain ⟨m', rfl⟩ : ∃ m', m = m' + 1 := ⟨m - 1, by omega⟩
  rw [hd, List.take_succ_cons] at hsub hrow
  unfold kidsL
  rw [hsub, Int.toNat_natCast]
  by_cases h0 : c < 0
  · rw [if_pos h0]
    obtain ⟨T, hT, _⟩ := grow_one ha hrow
    rw [hT]
    have hT2 : growStep sig (growR sig ((t.drop (k + 1)).take m')) c = [T] := hT
    unfold growStep at hT2
    rw [if_pos h0] at hT2
    have h2 := congrArg List.length hT2
    rw [List.length_append] at h2
    simp only [List.length_cons, List.length_nil] at h2
    have h3 : growR sig ((t.drop (k + 1)).take m') = [] := List.eq_nil_of_length_eq_zero (by omega)
    rw [h3] at hT2
    simp only [List.nil_append, List.cons.injEq, and_true] at hT2
    subst hT2
    rfl
  · rw [if_neg h0]
    obtain ⟨us, u1, u2, u3, u4⟩ := kids_tree ha hrow h0
    rw [u4]
    show kidsGo (k + 1) (us.flatMap (growR sig)) = _
    rw [kids_places, ← grow_map ha us u3, grow_flat ha us u3, ← u1]
    refine (kidsD_places t us (k + 1) ((t.drop (k + 1)).drop m') u3 ?_).symm
    rw [← u2, List.take_append_drop]

end Go.Proofs.YtjcgngfidnechaaDoor
