/- Texts of the proof, one behind the other. -/
import Derived.Test.YtcijfaijjpkdoaaDoorOwn9
import Derived.Test.YtcijfaijjpkdoaaDoorOwn5
import Derived.Test.YtcijfaijjpkdoaaDoorOwn6
import Derived.Deep.LoopGhost
/- The places of a term, plainly: what is above a place, where the arguments stand. -/
namespace Go.Proofs.YtcijfaijjpkdoaaDoor
open Go.RowKit Go.Maps

mutual
/-- The places above a place, of a tree that stands at a place. -/
def abv : Tr → Nat → Nat → List Int
  | .var, _, _ => []
  | .app ts, p, q => if p = q then [] else (p : Int) :: abvs ts (p + 1) q
def abvs : List Tr → Nat → Nat → List Int
  | [], _, _ => []
  | t :: ts, p, q => if p + t.size ≤ q then abvs ts (p + t.size) q else abv t p q
end

/-- How many nodes the term at a place has. -/
def nodes (sig : List Sy) (t : List Int) (i : Nat) : Nat := (firstT sig 1 0 (t.drop i)).1.toNat

/-- The places above a place. -/
def abD (sig : List Sy) (t : List Int) (q : Nat) : List Nat := (List.range q).filter fun i => decide (q < i + nodes sig t i)

theorem first_more {sig : List Sy} (q : List Int) : ∀ (r : List Int) (m : Int) (i : Nat) (n : Int), firstT sig m i r = (n, 0) → firstT sig m i (r ++ q) = (n, 0)
  | [], m, i, n, h => by simp [firstT] at h
  | c :: r, m, i, n, h => by
    rw [List.cons_append, firstT_cons]
    rw [firstT_cons] at h
    cases hc : codeD sig c with
    | none => rw [hc] at h; simp at h
    | some e =>
      rw [hc] at h
      simp only at h ⊢
      by_cases h0 : m + e = 0
      · rw [if_pos h0] at h ⊢; exact h
      · rw [if_neg h0] at h ⊢; exact first_more q r (m + e) (i + 1) n h

theorem first_at {sig : List Sy} (ha : ArOk sig) : ∀ (v : List Int) (m : Int) (j i : Nat), 1 ≤ m → firstT sig m j v = ((j : Int) + v.length, 0) → i < v.length → ∃ m' : Int, 1 ≤ m' ∧ firstT sig m' (j + i) (v.drop i) = ((j : Int) + v.length, 0)
  | v, m, j, 0, hm, h, _ => ⟨m, hm, h⟩
  | [], m, j, i + 1, _, _, hi => by simp at hi
  | c :: v, m, j, i + 1, hm, h, hi => by
    rw [firstT_cons] at h
    cases hc : codeD sig c with
    | none => rw [hc] at h; simp at h
    | some e =>
      have he := codeD_ge ha hc
      rw [hc] at h
      simp only at h
      by_cases h0 : m + e = 0
      · rw [if_pos h0] at h
        have := congrArg Prod.fst h
        simp only [List.length_cons] at this hi
        omega
      · rw [if_neg h0] at h
        obtain ⟨m', h1, h2⟩ := first_at ha v (m + e) (j + 1) i (by omega) (by rw [h]; simp only [List.length_cons, Prod.mk.injEq, and_true]; omega) (by simpa using hi)
        refine ⟨m', h1, ?_⟩
        rw [List.drop_succ_cons, show j + (i + 1) = j + 1 + i by omega, h2]
        simp only [List.length_cons, Prod.mk.injEq, and_true]
        omega

/-- The term at a place of a right term. -/
theorem at_place {sig : List Sy} (ha : ArOk sig) {v : List Int} (h : rowE sig v = 0) {i : Nat} (hi : i < v.length) :
    1 ≤ nodes sig v i ∧ i + nodes sig v i ≤ v.length ∧ firstT sig 1 0 (v.drop i) = ((nodes sig v i : Int), 0) ∧ rowE sig ((v.drop i).take (nodes sig v i)) = 0 := by
  obtain ⟨m', h1, h2⟩ := first_at ha v 1 0 i (by omega) (by rw [row_first.1 h]; simp) hi
  obtain ⟨k, k1, k2, k3, _, _⟩ := first_part ha (v.drop i) 1 m' 0 (0 + i) (by omega) h1 (by rw [h2, List.length_drop]; simp only [Prod.mk.injEq, and_true]; omega)
  have hn : nodes sig v i = k := by unfold nodes; rw [k3]; simp
  rw [hn]
  rw [List.length_drop] at k2
  have k3' : firstT sig 1 0 (v.drop i) = ((k : Int), 0) := by rw [k3]; simp
  refine ⟨k1, by omega, k3', ?_⟩
  obtain ⟨k', e1, _, _, e4⟩ := first_take (v.drop i) 1 0 _ k3'
  have : k' = k := by omega
  subst this
  rw [row_first, e4, List.length_take, List.length_drop]
  simp only [Prod.mk.injEq, and_true]
  omega

theorem nodes_app {sig : List Sy} (ha : ArOk sig) {v : List Int} (h : rowE sig v = 0) {i : Nat} (hi : i < v.length) (q : List Int) : nodes sig (v ++ q) i = nodes sig v i := by
  obtain ⟨_, _, h3, _⟩ := at_place ha h hi
  have h4 := first_more q _ _ _ _ h3
  rw [← List.drop_append_of_le_length (by omega)] at h4
  have h5 : nodes sig (v ++ q) i = ((nodes sig v i : Int)).toNat := by
    show (firstT sig 1 0 ((v ++ q).drop i)).1.toNat = _
    rw [h4]
  rw [h5, Int.toNat_natCast]

theorem nodes_behind {sig : List Sy} (v q : List Int) (i : Nat) : nodes sig (v ++ q) (v.length + i) = nodes sig q i := by
  unfold nodes
  rw [List.drop_length_add_append]

theorem nodes_drop {sig : List Sy} (t : List Int) (j i : Nat) : nodes sig (t.drop j) i = nodes sig t (j + i) := by
  unfold nodes
  rw [List.drop_drop]

theorem nodes_root {sig : List Sy} {v : List Int} (h : rowE sig v = 0) : nodes sig v 0 = v.length := by
  unfold nodes
  rw [List.drop_zero, row_first.1 h]
  simp

/-- Terms lie in one another, or apart. -/
theorem lam {sig : List Sy} (ha : ArOk sig) {t : List Int} (h : rowE sig t = 0) {i j : Nat} (hj : j < t.length) (h1 : j ≤ i) (h2 : i < j + nodes sig t j) : i + nodes sig t i ≤ j + nodes sig t j := by
  obtain ⟨_, k2, k3, k4⟩ := at_place ha h hj
  have hl : ((t.drop j).take (nodes sig t j)).length = nodes sig t j := by rw [List.length_take, List.length_drop]; omega
  have h3 := at_place ha k4 (i := i - j) (by rw [hl]; omega)
  have h4 := nodes_app ha k4 (i := i - j) (by rw [hl]; omega) ((t.drop j).drop (nodes sig t j))
  rw [List.take_append_drop, nodes_drop, show j + (i - j) = i by omega] at h4
  rw [← h4, hl] at h3
  omega

theorem grow_map {sig : List Sy} (ha : ArOk sig) : ∀ us : List (List Int), (∀ u ∈ us, rowE sig u = 0) → (growR sig us.flatten).reverse = us.flatMap (growR sig)
  | [], _ => by simp [growR]
  | u :: us, h => by
    obtain ⟨T, h1, _⟩ := grow_one ha (h u (by simp))
    have h3 := grow_behind ha us.flatten u [] (by rw [List.nil_append]; exact row_first.1 (h u (by simp)))
    rw [List.flatten_cons, h3, h1, List.reverse_append, grow_map ha us (fun x hx => h x (by simp [hx])), List.flatMap_cons, h1]
    rfl

/-- A symbol's arguments, as a tree. -/
theorem kids_tree {sig : List Sy} (ha : ArOk sig) {c : Int} {r : List Int} (h : rowE sig (c :: r) = 0) (hc : ¬ c < 0) :
    ∃ us : List (List Int), us.length = arN sig c ∧ r = us.flatten ∧ (∀ u ∈ us, rowE sig u = 0) ∧ growR sig (c :: r) = [.app (us.flatMap (growR sig))] := by
  have h1 := row_first.1 h
  rw [firstT_cons] at h1
  cases hd : codeD sig c with
  | none => rw [hd] at h1; simp at h1
  | some e =>
    rw [hd] at h1
    simp only at h1
    obtain ⟨k1, _⟩ := codeD_ar ha hd hc
    obtain ⟨us, u1, u2, u3⟩ : ∃ us : List (List Int), us.length = arN sig c ∧ r = us.flatten ∧ ∀ u ∈ us, rowE sig u = 0 := by
      by_cases h0 : 1 + e = 0
      · rw [if_pos h0] at h1
        have hl : r.length = 0 := by
          have := congrArg Prod.fst h1
          simp at this
          omega
        exact ⟨[], by simp; omega, by rw [List.eq_nil_of_length_eq_zero hl]; rfl, fun u hu => by cases hu⟩
      · rw [if_neg h0, show (1 : Int) + e = (arN sig c : Int) by omega] at h1
        exact split_first ha _ r (0 + 1) (by omega) (by rw [h1]; simp only [List.length_cons, Prod.mk.injEq, and_true]; omega)
    have hl : (growR sig r).length = arN sig c := by
      have := congrArg List.length (grow_flat ha us u3)
      rw [List.length_map, List.length_map, List.length_reverse, ← u2] at this
      omega
    refine ⟨us, u1, u2, u3, ?_⟩
    show growStep sig (growR sig r) c = _
    unfold growStep
    rw [if_neg hc, hl, Nat.sub_self, List.take_zero, List.drop_zero, List.nil_append, u2, grow_map ha us u3]

theorem abD_far {sig : List Sy} (ha : ArOk sig) {v : List Int} (h : rowE sig v = 0) (r : List Int) {q : Nat} (hq : v.length ≤ q) : abD sig (v ++ r) q = (abD sig r (q - v.length)).map (v.length + ·) := by
  obtain ⟨d, rfl⟩ : ∃ d, q = v.length + d := ⟨q - v.length, by omega⟩
  rw [Nat.add_sub_cancel_left]
  unfold abD
  rw [List.range_add, List.filter_append, List.filter_map]
  have h1 : (List.range v.length).filter (fun i => decide (v.length + d < i + nodes sig (v ++ r) i)) = [] := by
    rw [List.filter_eq_nil_iff]
    intro i hi
    have hi := List.mem_range.1 hi
    have h2 := at_place ha h hi
    rw [nodes_app ha h hi]
    simp
    omega
  rw [h1, List.nil_append]
  congr 1
  refine List.filter_congr fun i _ => ?_
  simp only [Function.comp]
  rw [nodes_behind]
  simp
  omega

theorem abD_in {sig : List Sy} (ha : ArOk sig) {v : List Int} (h : rowE sig v = 0) (r : List Int) {q : Nat} (hq : q < v.length) : abD sig (v ++ r) q = abD sig v q := by
  unfold abD
  refine List.filter_congr fun i hi => ?_
  rw [nodes_app ha h (by have := List.mem_range.1 hi; omega)]

theorem abD_cons {sig : List Sy} {c : Int} {r : List Int} (h : rowE sig (c :: r) = 0) {q : Nat} (hq : q < r.length) : abD sig (c :: r) (q + 1) = 0 :: (abD sig r q).map (1 + ·) := by
  unfold abD
  rw [Nat.add_comm q 1, List.range_add, List.filter_append, List.filter_map]
  have h1 : (List.range 1).filter (fun i => decide (1 + q < i + nodes sig (c :: r) i)) = [0] := by
    have : List.range 1 = [0] := rfl
    rw [this, List.filter_cons_of_pos (by rw [nodes_root h]; simp; omega)]
    rfl
  rw [h1, List.singleton_append]
  congr 2
  refine List.filter_congr fun i _ => ?_
  simp only [Function.comp]
  have := nodes_behind (sig := sig) [c] r i
  simp only [List.singleton_append, List.length_singleton] at this
  rw [this]
  simp
  omega

/-- What is found above a place by going down the tree. -/
theorem abv_eq {sig : List Sy} (ha : ArOk sig) : ∀ (N : Nat) (u : List Int), u.length ≤ N → rowE sig u = 0 → ∀ (T : Tr) (p q : Nat), growR sig u = [T] → q < u.length → abv T p (p + q) = (abD sig u q).map (fun i => ((p + i : Nat) : Int))
  | 0, u, hN, h, T, p, q, _, hq => by omega
  | N + 1, [], hN, h, T, p, q, _, hq => by simp at hq
  | N + 1, c :: r, hN, h, T, p, q, hT, hq => by
    by_cases hc : c < 0
    · have h1 := row_first.1 h
      have hr : r = [] := by
        rw [firstT_cons] at h1
        cases hd : codeD sig c with
        | none => rw [hd] at h1; simp at h1
        | some e =>
          rw [hd] at h1
          unfold codeD at hd
          split at hd
          · cases hd
          · cases hd
            simp at h1
            exact List.eq_nil_of_length_eq_zero (by omega)
      subst hr
      obtain rfl : q = 0 := by simp at hq; omega
      have : T = .var := by
        have h2 : growStep sig [] c = [T] := hT
        unfold growStep at h2
        rw [if_pos hc] at h2
        simp at h2
        exact h2.symm
      subst this
      simp [abv, abD]
    · obtain ⟨us, _, hr, hus, hg⟩ := kids_tree ha h hc
      rw [hg] at hT
      simp only [List.cons.injEq, and_true] at hT
      subst hT
      have hlen : ∀ u ∈ us, u.length ≤ N := fun u hu => by
        have h1 : u.length ≤ us.flatten.length := List.Sublist.length_le (List.sublist_flatten_of_mem hu)
        rw [← hr] at h1
        simp at hN
        omega
      -- the arguments, one behind the other
      have key : ∀ (vs : List (List Int)), (∀ u ∈ vs, rowE sig u = 0) → (∀ u ∈ vs, u.length ≤ N) → ∀ p q : Nat, q < vs.flatten.length → abvs (vs.flatMap (growR sig)) p (p + q) = (abD sig vs.flatten q).map (fun i => ((p + i : Nat) : Int)) := by
        intro vs
        induction vs with
        | nil => intro _ _ p q hq; simp at hq
        | cons v vs ih =>
          intro hv hl p q hq
          obtain ⟨T, h1, h2⟩ := grow_one ha (hv v (by simp))
          rw [List.flatMap_cons, h1, List.flatten_cons]
          show abvs (T :: vs.flatMap (growR sig)) p (p + q) = _
          unfold abvs
          rw [h2]
          by_cases hqv : v.length ≤ q
          · rw [if_pos (by omega), abD_far ha (hv v (by simp)) _ hqv, show p + q = p + v.length + (q - v.length) by omega,
              ih (fun u hu => hv u (by simp [hu])) (fun u hu => hl u (by simp [hu])) (p + v.length) (q - v.length) (by rw [List.flatten_cons, List.length_append] at hq; omega), List.map_map]
            refine List.map_congr_left fun i _ => ?_
            simp only [Function.comp]
            rw [Nat.add_assoc]
          · rw [if_neg (by omega), abD_in ha (hv v (by simp)) _ (by omega)]
            exact abv_eq ha N v (hl v (by simp)) (hv v (by simp)) T p q h1 (by omega)
      unfold abv
      cases q with
      | zero => simp [abD]
      | succ q =>
        have hq2 : q < us.flatten.length := by rw [← hr]; simpa using hq
        rw [if_neg (by omega), abD_cons h (by simpa using hq), show p + (q + 1) = p + 1 + q by omega, key us hus hlen (p + 1) q hq2, hr, List.map_cons, List.map_map]
        congr 1
        refine List.map_congr_left fun i _ => ?_
        simp only [Function.comp]
        rw [Nat.add_assoc]

/-- The arguments' places, found one by one. -/
def kidsD (sig : List Sy) (t : List Int) : Nat → Nat → List Int
  | 0, _ => []
  | n + 1, k => (k : Int) :: kidsD sig t n (k + nodes sig t k)

theorem kidsD_places {sig : List Sy} (t : List Int) : ∀ (us : List (List Int)) (k : Nat) (q : List Int), (∀ u ∈ us, rowE sig u = 0) → t.drop k = us.flatten ++ q → kidsD sig t us.length k = places k (us.map List.length)
  | [], _, _, _, _ => rfl
  | u :: us, k, q, h, ht => by
    have h0 := h u (by simp)
    have h1 : nodes sig t k = u.length := by
      unfold nodes
      rw [ht, List.flatten_cons, List.append_assoc, first_more _ u 1 0 (u.length : Int) (by rw [row_first.1 h0])]
      simp
    show (k : Int) :: kidsD sig t us.length (k + nodes sig t k) = (k : Int) :: places (k + u.length) (us.map List.length)
    rw [h1, kidsD_places t us (k + u.length) q (fun x hx => h x (by simp [hx]))]
    rw [← List.drop_drop, ht, List.flatten_cons, List.append_assoc, List.drop_left]

/-- Kids, found one by one. -/
theorem kids_eq {sig : List Sy} {t : List Int} {k : Nat} {c : Int} (h : placeE sig t k = 0) (hc : t[k]? = some c) : kidsL sig t k = if c < 0 then [] else kidsD sig t (arN sig c) (k + 1) := by
  obtain ⟨ha, hr, k', m, hk, hkl, hm1, hend, hkm, hsub, hrow⟩ := placeE_ok h
  obtain rfl : k = k' := by omega
  have hd := drop_get hc
  obtain ⟨m', rfl⟩ : ∃ m', m = m' + 1 := ⟨m - 1, by omega⟩
  rw [hd, List.take_succ_cons] at hsub hrow
  unfold kidsL
  rw [hsub, Int.toNat_natCast]
  by_cases h0 : c < 0
  · rw [if_pos h0]
    obtain ⟨T, hT, _⟩ := grow_one ha hrow
    rw [hT]
    have hT2 : growStep sig (growR sig ((t.drop (k + 1)).take m')) c = [T] := hT
    unfold growStep at hT2
    rw [if_pos h0] at hT2
    have h2 := congrArg List.length hT2
    rw [List.length_append] at h2
    simp only [List.length_cons, List.length_nil] at h2
    have h3 : growR sig ((t.drop (k + 1)).take m') = [] := List.eq_nil_of_length_eq_zero (by omega)
    rw [h3] at hT2
    simp only [List.nil_append, List.cons.injEq, and_true] at hT2
    subst hT2
    rfl
  · rw [if_neg h0]
    obtain ⟨us, u1, u2, u3, u4⟩ := kids_tree ha hrow h0
    rw [u4]
    show kidsGo (k + 1) (us.flatMap (growR sig)) = _
    rw [kids_places, ← grow_map ha us u3, grow_flat ha us u3, ← u1]
    refine (kidsD_places t us (k + 1) ((t.drop (k + 1)).drop m') u3 ?_).symm
    rw [← u2, List.take_append_drop]

end Go.Proofs.YtcijfaijjpkdoaaDoor

/- argumentPairs walked. -/
namespace Go.Proofs.YtcijfaijjpkdoaaDoor
open Go.RowKit Go.Maps Go.BigFrame

/-- The tree is that of the term at a place of a row. -/
def Wf (sig : List Sy) (r : List Int) (T : Tr) (q : Nat) : Prop := ∃ u rest, r.drop q = u ++ rest ∧ rowE sig u = 0 ∧ growR sig u = [T]

theorem Wf.size {sig : List Sy} {r : List Int} {T : Tr} {q : Nat} (h : Wf sig r T q) : q + T.size ≤ r.length := by
  obtain ⟨u, rest, h1, h2, h3⟩ := h
  have h4 := growR_sizes sig u
  rw [h3] at h4
  have h5 := congrArg List.length h1
  have h6 := T.pos
  simp only [List.length_drop, List.length_append, sizes] at h4 h5
  omega

theorem Wf.row {sig : List Sy} {r : List Int} {T : Tr} {q : Nat} (h : Wf sig r T q) : rowE sig ((r.drop q).take T.size) = 0 ∧ growR sig ((r.drop q).take T.size) = [T] := by
  obtain ⟨u, rest, h1, h2, h3⟩ := h
  have h4 := growR_sizes sig u
  rw [h3] at h4
  simp only [sizes] at h4
  have h5 : (r.drop q).take T.size = u := by rw [h1, show T.size = u.length by omega, List.take_left]
  rw [h5]
  exact ⟨h2, h3⟩

theorem drop_head {r : List Int} {q : Nat} {c : Int} {l : List Int} (h : r.drop q = c :: l) : r[q]? = some c ∧ r.drop (q + 1) = l := by
  constructor
  · have := congrArg (·[0]?) h
    simpa [List.getElem?_drop] using this
  · rw [← List.drop_drop, h]
    rfl

theorem Wf.var {sig : List Sy} {r : List Int} {q : Nat} (h : Wf sig r .var q) : ∃ c, r[q]? = some c ∧ c < 0 := by
  obtain ⟨u, rest, h1, h2, h3⟩ := h
  cases u with
  | nil => simp [rowE, firstT] at h2
  | cons c u =>
    rw [List.cons_append] at h1
    refine ⟨c, (drop_head h1).1, ?_⟩
    by_cases hc : c < 0
    · exact hc
    · have h4 : growStep sig (growR sig u) c = [.var] := h3
      unfold growStep at h4
      rw [if_neg hc] at h4
      have h5 := congrArg List.getLast? h4
      simp at h5

theorem Wf.app {sig : List Sy} (ha : ArOk sig) {r : List Int} {ts : List Tr} {q : Nat} (h : Wf sig r (.app ts) q) : ∃ c, r[q]? = some c ∧ ¬ c < 0 ∧ ts.length = arN sig c ∧ ∀ (k : Nat) (t : Tr), ts[k]? = some t → Wf sig r t (q + 1 + sizes (ts.take k)) := by
  obtain ⟨u, rest, h1, h2, h3⟩ := h
  cases u with
  | nil => simp [rowE, firstT] at h2
  | cons c u =>
    rw [List.cons_append] at h1
    obtain ⟨h4, h5⟩ := drop_head h1
    have hc : ¬ c < 0 := fun hc => by
      have h6 : growStep sig (growR sig u) c = [.app ts] := h3
      unfold growStep at h6
      rw [if_pos hc] at h6
      have h7 := congrArg List.getLast? h6
      simp at h7
    obtain ⟨us, u1, u2, u3, u4⟩ := kids_tree ha h2 hc
    rw [h3] at u4
    simp only [List.cons.injEq, Tr.app.injEq, and_true] at u4
    have key : ∀ (vs : List (List Int)) (o : Nat) (q2 : List Int), (∀ u ∈ vs, rowE sig u = 0) → r.drop o = vs.flatten ++ q2 → (vs.flatMap (growR sig)).length = vs.length ∧ ∀ (k : Nat) (t : Tr), (vs.flatMap (growR sig))[k]? = some t → Wf sig r t (o + sizes ((vs.flatMap (growR sig)).take k)) := by
      intro vs
      induction vs with
      | nil => intro o q2 _ _; exact ⟨rfl, fun k t hk => by simp at hk⟩
      | cons v vs ih =>
        intro o q2 hv hd
        obtain ⟨T, e1, e2⟩ := grow_one ha (hv v (by simp))
        rw [List.flatten_cons, List.append_assoc] at hd
        have hd2 : r.drop (o + v.length) = vs.flatten ++ q2 := by rw [← List.drop_drop, hd, List.drop_left]
        obtain ⟨i1, i2⟩ := ih (o + v.length) q2 (fun u hu => hv u (by simp [hu])) hd2
        rw [List.flatMap_cons, e1]
        refine ⟨by simp [i1], fun k t hk => ?_⟩
        cases k with
        | zero =>
          simp only [List.singleton_append, List.getElem?_cons_zero, Option.some.injEq] at hk
          subst hk
          simp only [List.take_zero, sizes, Nat.add_zero]
          exact ⟨v, _, hd, hv v (by simp), e1⟩
        | succ k =>
          rw [List.singleton_append, List.getElem?_cons_succ] at hk
          have := i2 k t hk
          rw [List.singleton_append, List.take_succ_cons]
          simp only [sizes]
          rw [e2, ← Nat.add_assoc]
          exact this
    obtain ⟨k1, k2⟩ := key us (q + 1) rest u3 (by rw [h5, u2])
    rw [← u4] at k1 k2
    exact ⟨c, h4, hc, by rw [k1, u1], k2⟩

theorem under_appM : Tryd.prog.underlying 86 = some (.pointer 128) := by kernel_rfl

theorem zero_appM : (Tryd.prog.info? 86).map (·.zero) = some (some (.pointer none)) := by kernel_rfl

theorem as_appM (v : Value) (xT : TypeId) (ok : Bool) (w : World) : (Instr.typeAssert (.iface 86 v) xT 86 ok).run Tryd.prog w = .ok (if ok then .tuple #[v, .bool true] else v) w := by
  simp [Instr.typeAssert, run_underlying under_appM, go_sem, Result.andThen]

theorem as_notM (v : Value) (xT : TypeId) (w : World) : (Instr.typeAssert (.iface 79 v) xT 86 true).run Tryd.prog w = .ok (.tuple #[.pointer none, .bool false]) w := by
  obtain ⟨i, hi, hz⟩ : ∃ i, Tryd.prog.info? 86 = some i ∧ i.zero = some (.pointer none) := by
    have h := zero_appM
    cases hi : Tryd.prog.info? 86 with
    | none => rw [hi] at h; cases h
    | some i => rw [hi] at h; exact ⟨i, rfl, by simpa using h⟩
  simp [Instr.typeAssert, run_underlying under_appM, go_sem, Result.andThen, zeroValue, typeInfo, hi, hz]

theorem args_cell {w : World} {A : Nat → Prop} {S : Nat → Nat → Value} {ts : List Tr} {p : Nat} {a : Option Addr} (h : ts = [] ∨ ∃ g off, a = some ⟨g, off, none⟩ ∧ A g ∧ TPs w A S g off ts p) {k : Nat} {t : Tr} (hk : ts[k]? = some t) : ∃ g off v, a = some ⟨g, off, none⟩ ∧ A g ∧ w.cell? ⟨g, off + k, none⟩ = some v ∧ TP w A S v t (p + sizes (ts.take k)) := by
  rcases h with rfl | ⟨g, off, h1, h2, h3⟩
  · simp at hk
  · obtain ⟨v, h4, h5⟩ := h3.get hk
    exact ⟨g, off, v, h1, h2, h4, h5⟩

theorem TPl.snoc {w : World} {A : Nat → Prop} {S : Nat → Nat → Value} : ∀ {vs : List Value} {ts : List Tr} {p : Nat} {v : Value} {t : Tr}, TPl w A S vs ts p → TP w A S v t (p + sizes ts) → TPl w A S (vs ++ [v]) (ts ++ [t]) p
  | [], [], p, v, t, _, h => by
    simp only [sizes, Nat.add_zero] at h
    exact ⟨h, trivial⟩
  | _ :: _, x :: ts, p, v, t, ⟨h1, h2⟩, h => by
    refine ⟨h1, TPl.snoc h2 ?_⟩
    simp only [sizes] at h
    rw [Nat.add_assoc]
    exact h
  | [], _ :: _, _, _, _, h, _ => h.elim
  | _ :: _, [], _, _, _, h, _ => h.elim

set_option maxRecDepth 100000 in
set_option maxHeartbeats 1600000 in
theorem argumentPairs_any (A : Nat → Prop) (b1 o1 c1 b2 o2 c2 q1 q2 : Nat) (x1 x2 : Int) (B1 : Nat) (ts1 : List Tr) (T2 : Tr) (v2 : Value) (w : World)
    (h1 : TP w A (cdS b1 o1 c1) (.iface 86 (.pointer (some ⟨B1, 0, none⟩))) (.app ts1) q1) (h2 : TP w A (cdS b2 o2 c2) v2 T2 q2) (hA : ∀ b, A b → b < w.heap.size)
    (hx1 : w.cell? ⟨b1, o1 + q1, none⟩ = some (.int .i64 x1)) (hx2 : w.cell? ⟨b2, o2 + q2, none⟩ = some (.int .i64 x2)) (hlen : ∀ ts2, T2 = .app ts2 → x1 = x2 → ts2.length = ts1.length) (hl : ts1.length * 32 ≤ 140737488351232) :
    Calls Tryd.prog 54 #[.pointer (some ⟨B1, 0, none⟩), v2] w fun e w' => ∃ v' xs ok, e = .returned (.tuple #[v', .bool ok]) ∧ OwP w' w.heap.size v' xs ∧ Below w.heap.size w w' ∧
      ((ok = false ∧ (T2 = .var ∨ x1 ≠ x2)) ∨ (ok = true ∧ ∃ ts2, T2 = .app ts2 ∧ x1 = x2 ∧ TPl w' A (cdS b1 o1 c1) (xs.map (·.1)) ts1 (q1 + 1) ∧ TPl w' A (cdS b2 o2 c2) (xs.map (·.2)) ts2 (q2 + 1))) := by
  unfold TP at h1
  obtain ⟨B, a1, cp1, e1, hB1, hc10, hc11, hl1, hm1, hargs1⟩ := h1
  simp only [Value.iface.injEq, Value.pointer.injEq, Option.some.injEq, Addr.mk.injEq, and_true, true_and] at e1
  subst e1
  unfold maxLen at hm1
  cases T2 with
  | var =>
    unfold TP at h2
    subst h2
    have has := as_notM
    clear hargs1
    go_enter Tryd.func54, Tryd.ntmps54
    go_wp2
    go_ret2
    exact ⟨_, [], false, rfl, World.ownsRow_nil _ _ _ _, Below.refl _ _, .inl ⟨rfl, .inl trivial⟩⟩
  | app ts2 =>
    unfold TP at h2
    obtain ⟨B2, a2, cp2, rfl, hB2, hc20, hc21, hl2, hm2, hargs2⟩ := h2
    unfold maxLen at hm2
    have has := as_appM (.pointer (some ⟨B2, 0, none⟩)) 55 true
    simp only [if_true] at has
    have HA := hid hA
    have HR1 := hid hargs1
    have HR2 := hid hargs2
    have HC10 := hid hc10
    have HC20 := hid hc20
    have HX1 := hid hx1
    have HX2 := hid hx2
    clear hA hargs1 hargs2 hx1 hx2 hc10 hc20
    go_enter Tryd.func54, Tryd.ntmps54
    go_wp2_with fail
    clear has
    refine (symbol_any B2 b2 o2 c2 q2 (sizes ts2) x2 w HC20.out HX2.out).mono ?_
    rintro e w9 ⟨rfl, hw9⟩
    have hw8 := hw9.symm
    subst hw8
    clear hw9
    go_wp2_with fail
    refine (symbol_any B1 b1 o1 c1 q1 (sizes ts1) x1 w HC10.out HX1.out).mono ?_
    rintro e w9 ⟨rfl, hw9⟩
    have hw8 := hw9.symm
    subst hw8
    clear hw9
    by_cases hxx : x1 = x2
    · have hne : (x2 != x1) = false := by simp [hxx]
      have HX := hid hxx
      have hln := hlen ts2 rfl hxx
      have HLn := hid hln
      clear hxx hlen hln
      go_wp2
      clear hne
      go_loopw [8, 30] (fun x iv wr => ∃ (k : Nat) (xs : List (Value × Value)), k ≤ ts1.length ∧ iv = .int .i64 k ∧ xs.length = k ∧ OwP wr w.heap.size x xs ∧ Below w.heap.size w wr ∧ TPl w A (cdS b1 o1 c1) (xs.map (·.1)) (ts1.take k) (q1 + 1) ∧ TPl w A (cdS b2 o2 c2) (xs.map (·.2)) (ts2.take k) (q2 + 1)) (fun _ iv _ => ts1.length - (intOf iv).toNat)
      case atStart => exact ⟨0, [], Nat.zero_le _, rfl, rfl, World.ownsRow_nil _ _ _ _, Below.refl _ _, trivial, trivial⟩
      case round =>
        obtain ⟨k, xs, hk, rfl, hxl, how, hbl, ht1, ht2⟩ := hrel
        have HO := hid how
        have HB := hid hbl
        have HT1 := hid ht1
        have HT2 := hid ht2
        have HXl := hid hxl
        clear how ht1 ht2 hxl
        by_cases hlt : k < ts1.length
        · obtain ⟨t1, htk1⟩ : ∃ t, ts1[k]? = some t := ⟨_, List.getElem?_eq_getElem hlt⟩
          obtain ⟨t2, htk2⟩ : ∃ t, ts2[k]? = some t := ⟨_, List.getElem?_eq_getElem (by have := HLn.out; omega)⟩
          obtain ⟨g1, f1, u1, rfl, hg1, hu1, hp1⟩ := args_cell HR1.out htk1
          obtain ⟨g2, f2, u2, rfl, hg2, hu2, hp2⟩ := args_cell HR2.out htk2
          have hu1r := (hbl.cell (p := ⟨g1, f1 + k, none⟩) (HA.out g1 hg1)).trans hu1
          have hu2r := (hbl.cell (p := ⟨g2, f2 + k, none⟩) (HA.out g2 hg2)).trans hu2
          have hc21r := (hbl.cell (p := ⟨B2, 1, none⟩) (HA.out B2 hB2)).trans hc21
          have HP1 : Hid (TPl w A (cdS b1 o1 c1) ((xs ++ [(u1, u2)]).map (·.1)) (ts1.take (k + 1)) (q1 + 1)) := by
            rw [List.map_append, take_get htk1]
            exact TPl.snoc HT1.out hp1
          have HP2 : Hid (TPl w A (cdS b2 o2 c2) ((xs ++ [(u1, u2)]).map (·.2)) (ts2.take (k + 1)) (q2 + 1)) := by
            rw [List.map_append, take_get htk2]
            exact TPl.snoc HT2.out hp2
          obtain ⟨v6, w6, hr6, ho6, hg6, _⟩ := join_pairs 77 (w := wr.alloc (.cells #[u1, u2] 76)) (base := w.heap.size) (x := u8) (xs := xs) (ys := [(u1, u2)]) (ao := some ⟨wr.heap.size, 0, none⟩) (cap := 1)
            (ownsRow_later HO.out (below_alloc _)) (.inr ⟨wr.heap.size, 0, rfl, fun j u hj => by
              rw [Nat.zero_add]
              exact cell_new (by simpa [prC] using hj)⟩) (fun u hu => by
              simp [prC] at hu
              rcases hu with rfl | rfl
              · exact hp1.ifv.one
              · exact hp2.ifv.one) (Nat.le_trans hbl.size (below_alloc _).size) (by rw [HXl.out]; simp; omega)
          have hb6 := (below_step hbl (below_alloc (.cells #[u1, u2] 76))).grown hg6 (Nat.le_trans hbl.size (below_alloc _).size) (fun j hj => own_blk HO.out hj)
          have HR6 := hid hr6
          have HO6 := hid ho6
          have HB6 := hid hb6
          have HXl2 : Hid ((xs ++ [(u1, u2)]).length = k + 1) := by show _ = _; rw [List.length_append, HXl.out]; rfl
          have hk2 : k < ts2.length := by have := HLn.out; omega
          obtain ⟨y1, z1, hy1⟩ := hp1.ifv
          obtain ⟨y2, z2, hy2⟩ := hp2.ifv
          subst hy1
          subst hy2
          clear hr6 ho6 hg6 hb6 hu1 hu2 hp1 hp2 htk1 htk2 hbl
          go_wp2_with (first
            | (at_builtin; refine wpList_append_run rfl _ _ _ rfl _ _ rfl rfl HR6.out ?_))
          go_roundw
          case rel => exact ⟨k + 1, _, by omega, by go_num, HXl2.out, HO6.out, HB6.out, HP1.out, HP2.out⟩
          case measure => simp [intOf]; omega
        · have hke : k = ts1.length := by omega
          subst hke
          have hT1 := HT1.out
          have hT2 := HT2.out
          rw [List.take_length] at hT1
          rw [← HLn.out, List.take_length] at hT2
          have HF1 := hid (hT1.keep (A' := A) (fun b o x hb hx => (Kp.of_below hbl).cell _ _ hx) (fun b hb => hb))
          have HF2 := hid (hT2.keep (A' := A) (fun b o x hb hx => (Kp.of_below hbl).cell _ _ hx) (fun b hb => hb))
          clear hT1 hT2
          go_wp2
          go_ret2
          exact ⟨_, xs, true, rfl, HO.out, HB.out, .inr ⟨rfl, ts2, rfl, HX.out, HF1.out, HF2.out⟩⟩
    · have hne : (x2 != x1) = true := by rw [bne_iff_ne]; exact fun e => hxx e.symm
      have HX := hid hxx
      clear hxx hlen
      go_wp2
      go_ret2
      exact ⟨_, [], false, rfl, World.ownsRow_nil _ _ _ _, Below.refl _ _, .inl ⟨rfl, .inr HX.out⟩⟩

end Go.Proofs.YtcijfaijjpkdoaaDoor

/- The document's End and place walked. -/
namespace Go.Proofs.YtcijfaijjpkdoaaDoor
open Go.RowKit Go.Maps Go.BigFrame

theorem codeD_neg {sig : List Sy} {c e : Int} (h : codeD sig c = some e) (hc : c < 0) : e = -1 := by
  unfold codeD at h
  split at h
  · cases h
  · first
    | (rw [if_pos hc] at h; cases h; rfl)
    | (cases h; rfl)

theorem codeD_get {sig : List Sy} {c : Nat} {e : Int} (h : codeD sig (c : Int) = some e) : ∃ s, sig[c]? = some s ∧ e = s.2 - 1 := by
  unfold codeD at h
  rw [if_neg (by omega), if_neg (by omega), Int.toNat_natCast] at h
  cases hs : sig[c]? with
  | none => rw [hs] at h; cases h
  | some s =>
    rw [hs] at h
    cases h
    exact ⟨s, rfl, rfl⟩

set_option maxRecDepth 100000 in
set_option maxHeartbeats 1600000 in
theorem refEnd_any (sv v : Value) (sig : List Sy) (t : List Int) (k n : Nat) (w : World) (hs : Sg w sv sig) (h : Is w v t) (ha : ArOk sig) (hb : t.length * 8 ≤ 140737488351232) (hn : firstT sig 1 0 (t.drop k) = ((n : Int), 0)) :
    Calls Tryd.prog 21 #[sv, v, .int .i64 k] w fun e w' => e = .returned (.int .i64 ((k + n : Nat) : Int)) ∧ w' = w := by
  obtain ⟨so, sc, rfl, hso, hsc, _⟩ := Row.flat hs
  obtain ⟨ao, cap, rfl, hao, hca, q0⟩ := Row.flat h
  unfold maxLen at hca hsc
  have HS := hid hs
  have HT := hid h
  have HA := hid ha
  have HN := hid hn
  have hkl : k < t.length := by
    by_cases hk : k < t.length
    · exact hk
    · rw [List.drop_of_length_le (by omega)] at hn
      simp [firstT] at hn
  clear hs h q0 ha hn
  go_enter Tryd.func21, Tryd.ntmps21
  go_wp2
  go_loopw [2, 7] (fun a x wr => ∃ (j : Nat) (m : Int), a = .int .i64 ((k + j : Nat) : Int) ∧ x = .int .i64 m ∧ k + j ≤ t.length ∧ ((0 < m ∧ firstT sig m j (t.drop (k + j)) = ((n : Int), 0)) ∨ (m = 0 ∧ j = n)) ∧ m ≤ 1 + 1000 * (j : Int) ∧ wr = w) (fun a _ _ => t.length + 1 - (intOf a).toNat)
  case atStart => exact ⟨0, 1, rfl, rfl, by omega, .inl ⟨by omega, HN.out⟩, by omega, rfl⟩
  case round =>
    obtain ⟨j, m, rfl, rfl, hkj, hft, hm2, hw⟩ := hrel
    have hw8 := hw.symm
    subst hw8
    clear hw HN
    rcases hft with ⟨hm0, hft⟩ | ⟨rfl, rfl⟩
    · have hlt : k + j < t.length := by
        by_cases hk : k + j < t.length
        · exact hk
        · rw [List.drop_of_length_le (by omega)] at hft
          simp [firstT] at hft
      obtain ⟨g, off, c, rfl, hx1, hx2, hx3, hx4⟩ := HT.out.at hlt
      rw [drop_get hx1, firstT_cons] at hft
      cases hcd : codeD sig c with
      | none => rw [hcd] at hft; simp at hft
      | some e =>
        have hge := codeD_ge HA.out hcd
        have HD : Hid ((0 < m + e ∧ firstT sig (m + e) (j + 1) (t.drop (k + (j + 1))) = ((n : Int), 0)) ∨ (m + e = 0 ∧ j + 1 = n)) := by
          rw [hcd] at hft
          simp only at hft
          by_cases h0 : m + e = 0
          · rw [if_pos h0] at hft
            have := congrArg Prod.fst hft
            simp only at this
            exact .inr ⟨h0, by omega⟩
          · rw [if_neg h0] at hft
            exact .inl ⟨by omega, hft⟩
        clear hft
        have hwk : IntKind.i64.wrap ((k : Int) + (j : Int) + 1) = ((k + (j + 1) : Nat) : Int) := by rw [IntWalk.i64_in _ ⟨by omega, by omega⟩]; omega
        by_cases hc0 : c < 0
        · have he := codeD_neg hcd hc0
          subst he
          have hcn : ¬ 0 ≤ c := by omega
          have hwm : IntKind.i64.wrap (m - 1) = m + -1 := by rw [IntWalk.i64_in _ ⟨by omega, by omega⟩]; omega
          clear hcd hx1
          go_wp2
          go_roundw
          case rel => exact ⟨j + 1, m + -1, by go_num, rfl, by omega, HD.out, by omega, trivial⟩
          case measure => simp [intOf]; omega
        · obtain ⟨cn, rfl⟩ : ∃ cn : Nat, c = cn := ⟨c.toNat, by omega⟩
          have hcn : (0 : Int) ≤ (cn : Int) := by omega
          obtain ⟨s, hsg, he⟩ := codeD_get hcd
          have hcl := (List.getElem?_eq_some_iff.1 hsg).1
          obtain ⟨g2, off2, nm, ar, rfl, hs1, hs2, hs3, hs4, hs5, hs6⟩ := HS.out.at (k := cn) hcl
          rw [hsg] at hs1
          cases hs1
          have har := HA.out _ (List.mem_of_getElem? hsg)
          simp only at har he
          subst he
          have hwm1 : IntKind.i64.wrap (m - 1) = m - 1 := IntWalk.i64_in _ ⟨by omega, by omega⟩
          have hwm : IntKind.i64.wrap (m - 1 + ar) = m + (ar - 1) := by rw [IntWalk.i64_in _ ⟨by omega, by omega⟩]; omega
          clear hsg hx1 hcd
          go_wp2
          go_roundw
          case rel => exact ⟨j + 1, m + (ar - 1), by go_num, rfl, by omega, HD.out, by omega, trivial⟩
          case measure => simp [intOf]; omega
    · go_wp2
      go_ret
      exact ⟨rfl, rfl⟩

/-- What is wrong with a place. -/
theorem place_eq {sig : List Sy} {t : List Int} {p : Int} (h : termE sig t = 0) : placeE sig t p = if p < 0 ∨ (t.length : Int) ≤ p then 33 else 0 := by
  unfold placeE
  rw [if_pos h]
  unfold endP
  by_cases hp : p < 0 ∨ (t.length : Int) ≤ p
  · rw [if_pos hp, if_pos hp]
  · rw [if_neg hp, if_neg hp]
    obtain ⟨k, rfl⟩ : ∃ k : Nat, p = k := ⟨p.toNat, by omega⟩
    have hk : k < t.length := by omega
    obtain ⟨h1, h2⟩ := term_parts h
    obtain ⟨_, _, h3, _⟩ := at_place (sigE_ok h1) h2 hk
    rw [Int.toNat_natCast, h3]

theorem place_in {sig : List Sy} {t : List Int} {k : Nat} (h : termE sig t = 0) (hk : k < t.length) : placeE sig t k = 0 := by
  rw [place_eq h, if_neg (by omega)]

theorem place_end {sig : List Sy} {t : List Int} {k : Nat} (h : termE sig t = 0) (hk : k < t.length) : endP sig t k = (((k + nodes sig t k : Nat) : Int), 0) := by
  obtain ⟨h1, h2⟩ := term_parts h
  obtain ⟨_, _, h3, _⟩ := at_place (sigE_ok h1) h2 hk
  unfold endP
  rw [if_neg (by omega), Int.toNat_natCast, h3]
  simp only [Prod.mk.injEq, and_true]
  omega

theorem sub_eq {sig : List Sy} {t : List Int} {k : Nat} (h : termE sig t = 0) (hk : k < t.length) : subL sig t k = (t.drop k).take (nodes sig t k) := by
  unfold subL
  rw [if_pos (place_in h hk), place_end h hk, Int.toNat_natCast, Int.toNat_natCast, show k + nodes sig t k - k = nodes sig t k by omega]

end Go.Proofs.YtcijfaijjpkdoaaDoor

/- The document's Kids, Sub, Above, Vars walked. -/
namespace Go.Proofs.YtcijfaijjpkdoaaDoor
open Go.RowKit Go.Maps Go.BigFrame

/-- A symbol's arguments, where they stand. -/
theorem kids_parts {sig : List Sy} {t : List Int} {k : Nat} {c : Int} (h : placeE sig t k = 0) (hc : t[k]? = some c) (h0 : ¬ c < 0) :
    ∃ (us : List (List Int)) (q : List Int), us.length = arN sig c ∧ t.drop (k + 1) = us.flatten ++ q ∧ (∀ u ∈ us, rowE sig u = 0) ∧ kidsL sig t k = places (k + 1) (us.map List.length) := by
  obtain ⟨ha, hr, k', m, hk, hkl, hm1, hend, hkm, hsub, hrow⟩ := placeE_ok h
  obtain rfl : k = k' := by omega
  have hd := drop_get hc
  obtain ⟨m', rfl⟩ : ∃ m', m = m' + 1 := ⟨m - 1, by omega⟩
  rw [hd, List.take_succ_cons] at hsub hrow
  obtain ⟨us, u1, u2, u3, u4⟩ := kids_tree ha hrow h0
  refine ⟨us, (t.drop (k + 1)).drop m', u1, by rw [← u2, List.take_append_drop], u3, ?_⟩
  unfold kidsL
  rw [hsub, Int.toNat_natCast, u4]
  show kidsGo (k + 1) (us.flatMap (growR sig)) = _
  rw [kids_places, ← grow_map ha us u3, grow_flat ha us u3]

theorem kids_var {sig : List Sy} {t : List Int} {k : Nat} {c : Int} (h : placeE sig t k = 0) (hc : t[k]? = some c) (h0 : c < 0) : kidsL sig t k = [] := by
  rw [kids_eq h hc, if_pos h0]

theorem drop_next {us : List (List Int)} {i : Nat} {u : List Int} (h : us[i]? = some u) (q : List Int) : (us.drop i).flatten ++ q = u ++ ((us.drop (i + 1)).flatten ++ q) := by
  rw [drop_get h, List.flatten_cons, List.append_assoc]

theorem first_right {sig : List Sy} {u : List Int} (h : rowE sig u = 0) (q : List Int) : firstT sig 1 0 (u ++ q) = ((u.length : Int), 0) := first_more q u 1 0 _ (by rw [row_first.1 h])

theorem place_term {sig : List Sy} {t : List Int} {p : Int} (h : placeE sig t p = 0) : termE sig t = 0 := by
  unfold placeE at h
  by_cases ht : termE sig t = 0
  · exact ht
  · rw [if_neg ht] at h; exact h

/-- The places above a place, as they are told. -/
def aboveL (sig : List Sy) (t : List Int) (p : Int) : List Int := if placeE sig t p = 0 then (abD sig t p.toNat).map fun i : Nat => (i : Int) else []

end Go.Proofs.YtcijfaijjpkdoaaDoor

/- When binds make a pattern a term, plainly. -/
namespace Go.Proofs.YtcijfaijjpkdoaaDoor
open Go.RowKit Go.Maps

/-- Binds whose rows are right terms. -/
def Rt (sig : List Sy) (f : Int → Option (List Int)) : Prop := ∀ n u, f n = some u → rowE sig u = 0

/-- The binds make the one row the other one, and have all its variables. -/
def Sm (f : Int → Option (List Int)) (p t : List Int) : Prop := (∀ c ∈ p, c < 0 → f (-1 - c) ≠ none) ∧ laidL f p = t

theorem laidL_app (f : Int → Option (List Int)) (a b : List Int) : laidL f (a ++ b) = laidL f a ++ laidL f b := by
  unfold laidL
  rw [List.flatMap_append]

theorem laidL_cons (f : Int → Option (List Int)) (c : Int) (b : List Int) : laidL f (c :: b) = piece f c ++ laidL f b := by
  unfold laidL
  rw [List.flatMap_cons]

theorem sm_var {f : Int → Option (List Int)} {c : Int} {t : List Int} (hc : c < 0) : Sm f [c] t ↔ f (-1 - c) = some t := by
  unfold Sm
  rw [laidL_cons]
  have hp : piece f c = (f (-1 - c)).getD [c] := by unfold piece; rw [if_pos hc]
  rw [hp]
  constructor
  · rintro ⟨h1, h2⟩
    have h3 := h1 c (by simp) hc
    cases hf : f (-1 - c) with
    | none => exact absurd hf h3
    | some u =>
      rw [hf] at h2
      simp [laidL] at h2
      rw [h2]
  · intro h
    rw [h]
    refine ⟨fun d hd _ => ?_, by simp [laidL]⟩
    simp at hd
    subst hd
    rw [h]
    simp

theorem sm_head {f : Int → Option (List Int)} {c d : Int} {r s : List Int} (hc : ¬ c < 0) : Sm f (c :: r) (d :: s) ↔ c = d ∧ Sm f r s := by
  unfold Sm
  rw [laidL_cons]
  have hp : piece f c = [c] := by unfold piece; rw [if_neg hc]
  rw [hp]
  constructor
  · rintro ⟨h1, h2⟩
    simp only [List.singleton_append, List.cons.injEq] at h2
    exact ⟨h2.1, fun x hx h0 => h1 x (by simp [hx]) h0, h2.2⟩
  · rintro ⟨rfl, h1, h2⟩
    refine ⟨fun x hx h0 => ?_, by rw [h2]; rfl⟩
    rcases List.mem_cons.1 hx with rfl | hx
    · omega
    · exact h1 x hx h0

theorem sm_split {f : Int → Option (List Int)} {a b s u : List Int} (hl : (laidL f a).length = s.length) : Sm f (a ++ b) (s ++ u) ↔ Sm f a s ∧ Sm f b u := by
  unfold Sm
  rw [laidL_app]
  constructor
  · rintro ⟨h1, h2⟩
    obtain ⟨h3, h4⟩ := List.append_inj h2 hl
    exact ⟨⟨fun c hc => h1 c (by simp [hc]), h3⟩, ⟨fun c hc => h1 c (by simp [hc]), h4⟩⟩
  · rintro ⟨⟨h1, h2⟩, h3, h4⟩
    refine ⟨fun c hc h0 => ?_, by rw [h2, h4]⟩
    rcases List.mem_append.1 hc with hc | hc
    · exact h1 c hc h0
    · exact h3 c hc h0

/-- Arguments one by one. -/
theorem sm_list {sig : List Sy} (ha : ArOk sig) {f : Int → Option (List Int)} (hf : Rt sig f) : ∀ (us vs : List (List Int)), us.length = vs.length → (∀ u ∈ us, rowE sig u = 0) → (∀ v ∈ vs, rowE sig v = 0) → (Sm f us.flatten vs.flatten ↔ ∀ (k : Nat) (u v : List Int), us[k]? = some u → vs[k]? = some v → Sm f u v)
  | [], [], _, _, _ => by
    refine ⟨fun _ k u v hu => by simp at hu, fun _ => ⟨fun c hc => by simp at hc, rfl⟩⟩
  | u :: us, v :: vs, hl, hu, hv => by
    have ih := sm_list ha hf us vs (by simpa using hl) (fun x hx => hu x (by simp [hx])) (fun x hx => hv x (by simp [hx]))
    rw [List.flatten_cons, List.flatten_cons]
    have hlu := row_laid ha hf (hu u (by simp))
    constructor
    · intro h
      have h2 := h.2
      rw [laidL_app] at h2
      have h3 := first_right hlu (laidL f us.flatten)
      rw [h2, first_right (hv v (by simp))] at h3
      have h4 : v.length = (laidL f u).length := by
        have := congrArg Prod.fst h3
        simp only at this
        omega
      obtain ⟨h5, h6⟩ := (sm_split h4.symm).1 h
      intro k a b ha1 hb1
      cases k with
      | zero =>
        simp only [List.getElem?_cons_zero, Option.some.injEq] at ha1 hb1
        subst ha1
        subst hb1
        exact h5
      | succ k =>
        rw [List.getElem?_cons_succ] at ha1 hb1
        exact ih.1 h6 k a b ha1 hb1
    · intro h
      have h5 := h 0 u v rfl rfl
      refine (sm_split (by rw [h5.2])).2 ⟨h5, ih.2 fun k a b ha1 hb1 => h (k + 1) a b (by simpa using ha1) (by simpa using hb1)⟩
  | [], _ :: _, hl, _, _ => by simp at hl
  | _ :: _, [], hl, _, _ => by simp at hl

/-- A pair of places: a pattern's tree and a term's. -/
structure Pr where
  P : Tr
  q1 : Nat
  T : Tr
  q2 : Nat

def Pr.pr (p : List Int) (d : Pr) : List Int := (p.drop d.q1).take d.P.size
def Pr.tr (t : List Int) (d : Pr) : List Int := (t.drop d.q2).take d.T.size
def Pr.ok (sig : List Sy) (p t : List Int) (d : Pr) : Prop := Wf sig p d.P d.q1 ∧ Wf sig t d.T d.q2

theorem take_head {r : List Int} {q : Nat} {c : Int} (h : r[q]? = some c) (n : Nat) : (r.drop q).take (n + 1) = c :: (r.drop (q + 1)).take n := by
  rw [drop_get h, List.take_succ_cons]

/-- A pattern's variable. -/
theorem pr_var {sig : List Sy} {p t : List Int} {d : Pr} (h : d.ok sig p t) (hP : d.P = .var) : ∃ c, p[d.q1]? = some c ∧ c < 0 ∧ ∀ f, Sm f (d.pr p) (d.tr t) ↔ f (-1 - c) = some (d.tr t) := by
  have h1 := h.1
  rw [hP] at h1
  obtain ⟨c, hc, h0⟩ := h1.var
  refine ⟨c, hc, h0, fun f => ?_⟩
  have : d.pr p = [c] := by
    unfold Pr.pr
    rw [hP]
    simp only [Tr.size]
    rw [take_head hc 0]
    rfl
  rw [this]
  exact sm_var h0

theorem first_of {r : List Int} {q n : Nat} (h : q + (1 + n) ≤ r.length) : ∃ c, r[q]? = some c := ⟨_, List.getElem?_eq_getElem (by omega)⟩

/-- The places of arguments. -/
def argPr (_p _t : List Int) (ts1 ts2 : List Tr) (q1 q2 : Nat) : List Pr := (List.range ts1.length).map fun k => ⟨(ts1[k]?).getD .var, q1 + 1 + sizes (ts1.take k), (ts2[k]?).getD .var, q2 + 1 + sizes (ts2.take k)⟩

theorem sizes_cut {ts : List Tr} {k : Nat} {t : Tr} (h : ts[k]? = some t) : sizes (ts.take (k + 1)) = sizes (ts.take k) + t.size := by
  rw [take_get h, sizes_app]
  simp [sizes]

/-- A row of arguments is what its trees say. -/
theorem args_flat (r : List Int) : ∀ (ts : List Tr) (o : Nat), (r.drop o).take (sizes ts) = ((List.range ts.length).map fun k => (r.drop (o + sizes (ts.take k))).take ((ts[k]?).getD .var).size).flatten
  | [], o => by simp [sizes]
  | t :: ts, o => by
    rw [List.length_cons, List.range_succ_eq_map, List.map_cons, List.flatten_cons, List.map_map]
    have ih := args_flat r ts (o + t.size)
    simp only [sizes, List.take_zero, Nat.add_zero, List.getElem?_cons_zero, Option.getD_some]
    rw [List.take_add, List.drop_drop, ih]
    congr 2
    refine List.map_congr_left fun k _ => ?_
    simp only [Function.comp, List.take_succ_cons, sizes, List.getElem?_cons_succ]
    rw [Nat.add_assoc]

/-- A pattern's symbol. -/
theorem pr_app {sig : List Sy} (ha : ArOk sig) {p t : List Int} {d : Pr} (h : d.ok sig p t) {ts1 : List Tr} (hP : d.P = .app ts1) {c x : Int} (hc : p[d.q1]? = some c) (hx : t[d.q2]? = some x) :
    (d.T = .var ∨ c ≠ x → ∀ f, ¬ Sm f (d.pr p) (d.tr t)) ∧ (∀ ts2, d.T = .app ts2 → c = x → ts2.length = ts1.length ∧ (∀ e ∈ argPr p t ts1 ts2 d.q1 d.q2, e.ok sig p t) ∧ ∀ f, Rt sig f → (Sm f (d.pr p) (d.tr t) ↔ ∀ e ∈ argPr p t ts1 ts2 d.q1 d.q2, Sm f (e.pr p) (e.tr t))) := by
  have h1 := h.1
  rw [hP] at h1
  obtain ⟨c', hc', hc0, hl1, hk1⟩ := h1.app ha
  rw [hc] at hc'
  cases hc'
  have hpr : d.pr p = c :: (p.drop (d.q1 + 1)).take (sizes ts1) := by
    unfold Pr.pr
    rw [hP]
    simp only [Tr.size]
    rw [Nat.add_comm, take_head hc]
  constructor
  · rintro hh f hs
    have htr : ∃ s, d.tr t = x :: s := by
      unfold Pr.tr
      obtain ⟨n, hn⟩ : ∃ n, d.T.size = n + 1 := ⟨d.T.size - 1, by have := d.T.pos; omega⟩
      rw [hn, take_head hx]
      exact ⟨_, rfl⟩
    obtain ⟨s, htr⟩ := htr
    rw [hpr, htr] at hs
    have := (sm_head hc0).1 hs
    rcases hh with hh | hh
    · have h2 := h.2
      rw [hh] at h2
      obtain ⟨x', hx', h0⟩ := h2.var
      rw [hx] at hx'
      cases hx'
      omega
    · exact hh this.1
  · intro ts2 hT hcx
    have h2 := h.2
    rw [hT] at h2
    obtain ⟨x', hx', hx0, hl2, hk2⟩ := h2.app ha
    rw [hx] at hx'
    cases hx'
    have hll : ts2.length = ts1.length := by rw [hl1, hl2, hcx]
    have hok : ∀ e ∈ argPr p t ts1 ts2 d.q1 d.q2, e.ok sig p t := by
      intro e he
      obtain ⟨k, hk, rfl⟩ := List.mem_map.1 he
      have hk := List.mem_range.1 hk
      have e1 : ts1[k]? = some ts1[k] := List.getElem?_eq_getElem hk
      have e2 : ts2[k]? = some (ts2[k]'(by omega)) := List.getElem?_eq_getElem (by omega)
      unfold Pr.ok
      simp only [e1, e2, Option.getD_some]
      exact ⟨hk1 k _ e1, hk2 k _ e2⟩
    refine ⟨hll, hok, fun f hf => ?_⟩
    have htr : d.tr t = x :: (t.drop (d.q2 + 1)).take (sizes ts2) := by
      unfold Pr.tr
      rw [hT]
      simp only [Tr.size]
      rw [Nat.add_comm, take_head hx]
    rw [hpr, htr, sm_head hc0, args_flat p ts1 (d.q1 + 1), args_flat t ts2 (d.q2 + 1)]
    have hlist := sm_list ha hf ((List.range ts1.length).map fun k => (p.drop (d.q1 + 1 + sizes (ts1.take k))).take ((ts1[k]?).getD .var).size) ((List.range ts2.length).map fun k => (t.drop (d.q2 + 1 + sizes (ts2.take k))).take ((ts2[k]?).getD .var).size) (by simp [hll])
      (fun u hu => by
        obtain ⟨k, hk, rfl⟩ := List.mem_map.1 hu
        have hk := List.mem_range.1 hk
        have e1 : ts1[k]? = some ts1[k] := List.getElem?_eq_getElem hk
        rw [e1, Option.getD_some]
        exact (hk1 k _ e1).row.1)
      (fun u hu => by
        obtain ⟨k, hk, rfl⟩ := List.mem_map.1 hu
        have hk := List.mem_range.1 hk
        have e1 : ts2[k]? = some ts2[k] := List.getElem?_eq_getElem hk
        rw [e1, Option.getD_some]
        exact (hk2 k _ e1).row.1)
    rw [hlist]
    constructor
    · rintro ⟨_, hh⟩ e he
      obtain ⟨k, hk, rfl⟩ := List.mem_map.1 he
      have hk := List.mem_range.1 hk
      exact hh k _ _ (by rw [List.getElem?_map, List.getElem?_range hk]; rfl) (by rw [List.getElem?_map, List.getElem?_range (by omega)]; rfl)
    · intro hh
      refine ⟨hcx, fun k u v hu hv => ?_⟩
      have hk : k < ts1.length := by
        have := (List.getElem?_eq_some_iff.1 hu).1
        simpa using this
      rw [List.getElem?_map, List.getElem?_range hk] at hu
      rw [List.getElem?_map, List.getElem?_range (by omega)] at hv
      simp only [Option.map_some, Option.some.injEq] at hu hv
      subst hu
      subst hv
      exact hh _ (List.mem_map.2 ⟨k, List.mem_range.2 hk, rfl⟩)

end Go.Proofs.YtcijfaijjpkdoaaDoor

/- boundRows: what its round reads. -/
namespace Go.Proofs.YtcijfaijjpkdoaaDoor
open Go.RowKit Go.Maps Go.BigFrame

theorem zero_varM : (Tryd.prog.info? 79).map (·.zero) = some (some (.agg #[.slice none 0 0])) := by kernel_rfl

theorem as_varM (v : Value) (xT : TypeId) (w : World) : (Instr.typeAssert (.iface 79 v) xT 79 true).run Tryd.prog w = .ok (.tuple #[v, .bool true]) w := by
  simp [Instr.typeAssert, run_underlying Tryd.underlying79, go_sem, Result.andThen]

theorem as_varnotM (v : Value) (xT : TypeId) (w : World) : (Instr.typeAssert (.iface 86 v) xT 79 true).run Tryd.prog w = .ok (.tuple #[.agg #[.slice none 0 0], .bool false]) w := by
  obtain ⟨i, hi, hz⟩ : ∃ i, Tryd.prog.info? 79 = some i ∧ i.zero = some (.agg #[.slice none 0 0]) := by
    have h := zero_varM
    cases hi : Tryd.prog.info? 79 with
    | none => rw [hi] at h; cases h
    | some i => rw [hi] at h; exact ⟨i, rfl, by simpa using h⟩
  simp [Instr.typeAssert, run_underlying Tryd.underlying79, go_sem, Result.andThen, zeroValue, typeInfo, hi, hz]

/-- The beginning of a row of pairs. -/
theorem own_cutP {w : World} {base : Nat} {ao : Option Addr} {cap k : Nat} {xs : List (Value × Value)} (h : OwP w base (.slice ao xs.length cap) xs) (hk : k ≤ xs.length) : OwP w base (.slice ao k cap) (xs.take k) := by
  have h1 := h.1
  have hl : (xs.take k).length = k := by rw [List.length_take]; omega
  unfold OwP
  rw [hl]
  refine ⟨by rw [prC_len, hl], ?_⟩
  rcases h.2 with ⟨hv, hn⟩ | ⟨g, cp, cur, hv, hb, hg, hc, hm, hs, ht⟩
  · simp only [Value.slice.injEq] at hv
    obtain ⟨rfl, _, rfl⟩ := hv
    obtain rfl : k = 0 := by omega
    exact .inl ⟨rfl, rfl⟩
  · simp only [Value.slice.injEq] at hv
    obtain ⟨rfl, _, rfl⟩ := hv
    refine .inr ⟨g, cap, cur, rfl, hb, hg, by omega, hm, hs, ?_⟩
    have e1 : prC (xs.take k) = (prC xs).take (k * 2) := by
      have e2 : prC xs = prC (xs.take k) ++ prC (xs.drop k) := by rw [← prC_app, List.take_append_drop]
      have e3 : (prC (xs.take k)).length = k * 2 := by rw [prC_len, hl]
      rw [e2, ← e3, List.take_left]
    rw [e1, ← ht, List.take_take, Nat.min_eq_left (by omega)]

/-- The last one of a row of pairs. -/
theorem own_lastP {w : World} {base : Nat} {v : Value} {xs : List (Value × Value)} {k : Nat} {p : Value × Value} (h : OwP w base v xs) (hk : xs[k]? = some p) : ∃ g cap, v = .slice (some ⟨g, 0, none⟩) xs.length cap ∧ base ≤ g ∧ xs.length ≤ cap ∧ cap ≤ 9223372036854775807 ∧ w.cell? ⟨g, k * 2, none⟩ = some p.1 ∧ w.cell? ⟨g, k * 2 + 1, none⟩ = some p.2 := by
  have hkl := (List.getElem?_eq_some_iff.1 hk).1
  obtain ⟨c1, c2⟩ := prC_at xs k p hk
  have hlen := prC_len xs
  rcases h.2 with ⟨_, hn⟩ | ⟨g, cp, cur, hv, hb, hg, hc, hm, hs, ht⟩
  · omega
  · subst hv
    unfold maxLen at hm
    refine ⟨g, cp, rfl, hb, hc, by omega, ?_, ?_⟩
    · rw [World.ownsRow.cellAt h (k * 2) (by omega)]
      exact c1
    · rw [World.ownsRow.cellAt h (k * 2 + 1) (by omega)]
      exact c2

/-- What the pairs are. -/
def PrV (w : World) (A : Nat → Prop) (S1 S2 : Nat → Nat → Value) : List (Value × Value) → List Pr → Prop
  | [], [] => True
  | x :: xs, d :: ds => (TP w A S1 x.1 d.P d.q1 ∧ TP w A S2 x.2 d.T d.q2) ∧ PrV w A S1 S2 xs ds
  | _, _ => False

theorem PrV.len {w : World} {A : Nat → Prop} {S1 S2 : Nat → Nat → Value} : ∀ {xs : List (Value × Value)} {ds : List Pr}, PrV w A S1 S2 xs ds → xs.length = ds.length
  | [], [], _ => rfl
  | _ :: _, _ :: _, ⟨_, h⟩ => congrArg (· + 1) (PrV.len h)
  | [], _ :: _, h => h.elim
  | _ :: _, [], h => h.elim

theorem PrV.app {w : World} {A : Nat → Prop} {S1 S2 : Nat → Nat → Value} : ∀ {xs ys : List (Value × Value)} {ds es : List Pr}, PrV w A S1 S2 xs ds → PrV w A S1 S2 ys es → PrV w A S1 S2 (xs ++ ys) (ds ++ es)
  | [], _, [], _, _, h => h
  | _ :: _, _, _ :: _, _, ⟨h1, h2⟩, h => ⟨h1, PrV.app h2 h⟩
  | [], _, _ :: _, _, h, _ => h.elim
  | _ :: _, _, [], _, h, _ => h.elim

/-- The last pair taken off. -/
theorem PrV.pop {w : World} {A : Nat → Prop} {S1 S2 : Nat → Nat → Value} {xs : List (Value × Value)} {ds : List Pr} {x : Value × Value} (h : PrV w A S1 S2 (xs ++ [x]) ds) : ∃ es d, ds = es ++ [d] ∧ PrV w A S1 S2 xs es ∧ TP w A S1 x.1 d.P d.q1 ∧ TP w A S2 x.2 d.T d.q2 := by
  induction xs generalizing ds with
  | nil =>
    match ds, h with
    | [d], ⟨h1, _⟩ => exact ⟨[], d, rfl, trivial, h1.1, h1.2⟩
  | cons y xs ih =>
    match ds, h with
    | d :: ds, ⟨h1, h2⟩ =>
      obtain ⟨es, e, rfl, i1, i2, i3⟩ := ih h2
      exact ⟨d :: es, e, rfl, ⟨h1, i1⟩, i2, i3⟩

/-- Pairs of arguments. -/
theorem PrV.args {w : World} {A : Nat → Prop} {S1 S2 : Nat → Nat → Value} (p t : List Int) {q1 q2 : Nat} {xs : List (Value × Value)} {ts1 ts2 : List Tr} (hl : ts2.length = ts1.length) (h1 : TPl w A S1 (xs.map (·.1)) ts1 (q1 + 1)) (h2 : TPl w A S2 (xs.map (·.2)) ts2 (q2 + 1)) : PrV w A S1 S2 xs (argPr p t ts1 ts2 q1 q2) := by
  have hx : xs.length = ts1.length := by have := h1.len; rwa [List.length_map] at this
  have key : ∀ (n : Nat) (ys : List (Value × Value)) (o : Nat), ys.length = n → (∀ (k : Nat) (y : Value × Value), ys[k]? = some y → xs[o + k]? = some y) → o + n ≤ ts1.length → PrV w A S1 S2 ys ((List.range n).map fun k => (⟨(ts1[o + k]?).getD .var, q1 + 1 + sizes (ts1.take (o + k)), (ts2[o + k]?).getD .var, q2 + 1 + sizes (ts2.take (o + k))⟩ : Pr)) := by
    intro n
    induction n with
    | zero =>
      intro ys o hy _ _
      obtain rfl := List.eq_nil_of_length_eq_zero hy
      trivial
    | succ n ih =>
      intro ys o hy hg ho
      match ys, hy with
      | y :: ys, hy =>
        rw [List.range_succ_eq_map, List.map_cons, List.map_map]
        have e0 := hg 0 y rfl
        rw [Nat.add_zero] at e0
        have f1 : ts1[o]? = some (ts1[o]'(by omega)) := List.getElem?_eq_getElem (by omega)
        have f2 : ts2[o]? = some (ts2[o]'(by omega)) := List.getElem?_eq_getElem (by omega)
        refine ⟨⟨?_, ?_⟩, ?_⟩
        · simp only [Nat.add_zero, f1, Option.getD_some]
          exact h1.get (by rw [List.getElem?_map, e0]; rfl) f1
        · simp only [Nat.add_zero, f2, Option.getD_some]
          exact h2.get (by rw [List.getElem?_map, e0]; rfl) f2
        · have := ih ys (o + 1) (by simpa using hy) (fun k z hz => by
            have := hg (k + 1) z (by simpa using hz)
            rw [show o + 1 + k = o + (k + 1) by omega]
            exact this) (by omega)
          have e9 : ((fun k => (⟨(ts1[o + k]?).getD .var, q1 + 1 + sizes (ts1.take (o + k)), (ts2[o + k]?).getD .var, q2 + 1 + sizes (ts2.take (o + k))⟩ : Pr)) ∘ Nat.succ) = fun k => (⟨(ts1[o + 1 + k]?).getD .var, q1 + 1 + sizes (ts1.take (o + 1 + k)), (ts2[o + 1 + k]?).getD .var, q2 + 1 + sizes (ts2.take (o + 1 + k))⟩ : Pr) := by
            funext k
            simp only [Function.comp, Nat.succ_eq_add_one]
            rw [show o + (k + 1) = o + 1 + k by omega]
          rw [e9]
          exact this
  have := key ts1.length xs 0 hx (fun k y hy => by rwa [Nat.zero_add]) (by omega)
  simp only [Nat.zero_add] at this
  exact this

/-- How many nodes wait. -/
def wait (ds : List Pr) : Nat := (ds.map fun d => d.P.size).sum

theorem wait_app (a b : List Pr) : wait (a ++ b) = wait a + wait b := by simp [wait, List.sum_append]

theorem wait_args (p t : List Int) (ts1 ts2 : List Tr) (q1 q2 : Nat) : wait (argPr p t ts1 ts2 q1 q2) = sizes ts1 := by
  unfold wait argPr
  rw [List.map_map]
  have : ∀ (ts : List Tr), ((List.range ts.length).map fun k => ((ts[k]?).getD .var).size).sum = sizes ts := by
    intro ts
    induction ts with
    | nil => rfl
    | cons t ts ih =>
      rw [List.length_cons, List.range_succ_eq_map, List.map_cons, List.map_map, List.sum_cons]
      simp only [List.getElem?_cons_zero, Option.getD_some, sizes]
      have e9 : ((fun k => (((t :: ts)[k]?).getD .var).size) ∘ Nat.succ) = fun k => ((ts[k]?).getD .var).size := by
        funext k
        simp
      rw [e9, ih]
  exact this ts1

end Go.Proofs.YtcijfaijjpkdoaaDoor
