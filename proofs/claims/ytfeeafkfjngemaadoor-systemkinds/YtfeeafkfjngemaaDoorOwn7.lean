/- Texts of the proof, one behind the other. -/
import Derived.Test.YtfeeafkfjngemaaDoorOwn6
import Derived.Test.YtfeeafkfjngemaaDoorOwn4
import Derived.Test.YtfeeafkfjngemaaDoorOwn5
import Derived.Deep.LoopGhost
import Derived.Test.YtfeeafkfjngemaaDoorOwn2
/- The places of a term, plainly: what is above a place, where the arguments stand. -/
namespace Go.Proofs.YtfeeafkfjngemaaDoor
open Go.RowKit Go.Maps

mutual
/-- The places above a place, of a tree that stands at a place. -/
def abv : Tr → Nat → Nat → List Int
  | .var, _, _ => []
  | .app ts, p, q => if p = q then [] else (p : Int) :: abvs ts (p + 1) q
def abvs : List Tr → Nat → Nat → List Int
  | [], _, _ => []
  | t :: ts, p, q => if p + t.size ≤ q then abvs ts (p + t.size) q else abv t p q
end

/-- How many nodes the term at a place has. -/
def nodes (sig : List Sy) (t : List Int) (i : Nat) : Nat := (firstT sig 1 0 (t.drop i)).1.toNat

/-- The places above a place. -/
def abD (sig : List Sy) (t : List Int) (q : Nat) : List Nat := (List.range q).filter fun i => decide (q < i + nodes sig t i)

theorem first_more {sig : List Sy} (q : List Int) : ∀ (r : List Int) (m : Int) (i : Nat) (n : Int), firstT sig m i r = (n, 0) → firstT sig m i (r ++ q) = (n, 0)
  | [], m, i, n, h => by simp [firstT] at h
  | c :: r, m, i, n, h => by
    rw [List.cons_append, firstT_cons]
    rw [firstT_cons] at h
    cases hc : codeD sig c with
    | none => rw [hc] at h; simp at h
    | some e =>
      rw [hc] at h
      simp only at h ⊢
      by_cases h0 : m + e = 0
      · rw [if_pos h0] at h ⊢; exact h
      · rw [if_neg h0] at h ⊢; exact first_more q r (m + e) (i + 1) n h

theorem first_at {sig : List Sy} (ha : ArOk sig) : ∀ (v : List Int) (m : Int) (j i : Nat), 1 ≤ m → firstT sig m j v = ((j : Int) + v.length, 0) → i < v.length → ∃ m' : Int, 1 ≤ m' ∧ firstT sig m' (j + i) (v.drop i) = ((j : Int) + v.length, 0)
  | v, m, j, 0, hm, h, _ => ⟨m, hm, h⟩
  | [], m, j, i + 1, _, _, hi => by simp at hi
  | c :: v, m, j, i + 1, hm, h, hi => by
    rw [firstT_cons] at h
    cases hc : codeD sig c with
    | none => rw [hc] at h; simp at h
    | some e =>
      have he := codeD_ge ha hc
      rw [hc] at h
      simp only at h
      by_cases h0 : m + e = 0
      · rw [if_pos h0] at h
        have := congrArg Prod.fst h
        simp only [List.length_cons] at this hi
        omega
      · rw [if_neg h0] at h
        obtain ⟨m', h1, h2⟩ := first_at ha v (m + e) (j + 1) i (by omega) (by rw [h]; simp only [List.length_cons, Prod.mk.injEq, and_true]; omega) (by simpa using hi)
        refine ⟨m', h1, ?_⟩
        rw [List.drop_succ_cons, show j + (i + 1) = j + 1 + i by omega, h2]
        simp only [List.length_cons, Prod.mk.injEq, and_true]
        omega

/-- The term at a place of a right term. -/
theorem at_place {sig : List Sy} (ha : ArOk sig) {v : List Int} (h : rowE sig v = 0) {i : Nat} (hi : i < v.length) :
    1 ≤ nodes sig v i ∧ i + nodes sig v i ≤ v.length ∧ firstT sig 1 0 (v.drop i) = ((nodes sig v i : Int), 0) ∧ rowE sig ((v.drop i).take (nodes sig v i)) = 0 := by
  obtain ⟨m', h1, h2⟩ := first_at ha v 1 0 i (by omega) (by rw [row_first.1 h]; simp) hi
  obtain ⟨k, k1, k2, k3, _, _⟩ := first_part ha (v.drop i) 1 m' 0 (0 + i) (by omega) h1 (by rw [h2, List.length_drop]; simp only [Prod.mk.injEq, and_true]; omega)
  have hn : nodes sig v i = k := by unfold nodes; rw [k3]; simp
  rw [hn]
  rw [List.length_drop] at k2
  have k3' : firstT sig 1 0 (v.drop i) = ((k : Int), 0) := by rw [k3]; simp
  refine ⟨k1, by omega, k3', ?_⟩
  obtain ⟨k', e1, _, _, e4⟩ := first_take (v.drop i) 1 0 _ k3'
  have : k' = k := by omega
  subst this
  rw [row_first, e4, List.length_take, List.length_drop]
  simp only [Prod.mk.injEq, and_true]
  omega

theorem nodes_app {sig : List Sy} (ha : ArOk sig) {v : List Int} (h : rowE sig v = 0) {i : Nat} (hi : i < v.length) (q : List Int) : nodes sig (v ++ q) i = nodes sig v i := by
  obtain ⟨_, _, h3, _⟩ := at_place ha h hi
  have h4 := first_more q _ _ _ _ h3
  rw [← List.drop_append_of_le_length (by omega)] at h4
  have h5 : nodes sig (v ++ q) i = ((nodes sig v i : Int)).toNat := by
    show (firstT sig 1 0 ((v ++ q).drop i)).1.toNat = _
    rw [h4]
  rw [h5, Int.toNat_natCast]

theorem nodes_behind {sig : List Sy} (v q : List Int) (i : Nat) : nodes sig (v ++ q) (v.length + i) = nodes sig q i := by
  unfold nodes
  rw [List.drop_length_add_append]

theorem nodes_drop {sig : List Sy} (t : List Int) (j i : Nat) : nodes sig (t.drop j) i = nodes sig t (j + i) := by
  unfold nodes
  rw [List.drop_drop]

theorem nodes_root {sig : List Sy} {v : List Int} (h : rowE sig v = 0) : nodes sig v 0 = v.length := by
  unfold nodes
  rw [List.drop_zero, row_first.1 h]
  simp

/-- Terms lie in one another, or apart. -/
theorem lam {sig : List Sy} (ha : ArOk sig) {t : List Int} (h : rowE sig t = 0) {i j : Nat} (hj : j < t.length) (h1 : j ≤ i) (h2 : i < j + nodes sig t j) : i + nodes sig t i ≤ j + nodes sig t j := by
  obtain ⟨_, k2, k3, k4⟩ := at_place ha h hj
  have hl : ((t.drop j).take (nodes sig t j)).length = nodes sig t j := by rw [List.length_take, List.length_drop]; omega
  have h3 := at_place ha k4 (i := i - j) (by rw [hl]; omega)
  have h4 := nodes_app ha k4 (i := i - j) (by rw [hl]; omega) ((t.drop j).drop (nodes sig t j))
  rw [List.take_append_drop, nodes_drop, show j + (i - j) = i by omega] at h4
  rw [← h4, hl] at h3
  omega

theorem grow_map {sig : List Sy} (ha : ArOk sig) : ∀ us : List (List Int), (∀ u ∈ us, rowE sig u = 0) → (growR sig us.flatten).reverse = us.flatMap (growR sig)
  | [], _ => by simp [growR]
  | u :: us, h => by
    obtain ⟨T, h1, _⟩ := grow_one ha (h u (by simp))
    have h3 := grow_behind ha us.flatten u [] (by rw [List.nil_append]; exact row_first.1 (h u (by simp)))
    rw [List.flatten_cons, h3, h1, List.reverse_append, grow_map ha us (fun x hx => h x (by simp [hx])), List.flatMap_cons, h1]
    rfl

/-- A symbol's arguments, as a tree. -/
theorem kids_tree {sig : List Sy} (ha : ArOk sig) {c : Int} {r : List Int} (h : rowE sig (c :: r) = 0) (hc : ¬ c < 0) :
    ∃ us : List (List Int), us.length = arN sig c ∧ r = us.flatten ∧ (∀ u ∈ us, rowE sig u = 0) ∧ growR sig (c :: r) = [.app (us.flatMap (growR sig))] := by
  have h1 := row_first.1 h
  rw [firstT_cons] at h1
  cases hd : codeD sig c with
  | none => rw [hd] at h1; simp at h1
  | some e =>
    rw [hd] at h1
    simp only at h1
    obtain ⟨k1, _⟩ := codeD_ar ha hd hc
    obtain ⟨us, u1, u2, u3⟩ : ∃ us : List (List Int), us.length = arN sig c ∧ r = us.flatten ∧ ∀ u ∈ us, rowE sig u = 0 := by
      by_cases h0 : 1 + e = 0
      · rw [if_pos h0] at h1
        have hl : r.length = 0 := by
          have := congrArg Prod.fst h1
          simp at this
          omega
        exact ⟨[], by simp; omega, by rw [List.eq_nil_of_length_eq_zero hl]; rfl, fun u hu => by cases hu⟩
      · rw [if_neg h0, show (1 : Int) + e = (arN sig c : Int) by omega] at h1
        exact split_first ha _ r (0 + 1) (by omega) (by rw [h1]; simp only [List.length_cons, Prod.mk.injEq, and_true]; omega)
    have hl : (growR sig r).length = arN sig c := by
      have := congrArg List.length (grow_flat ha us u3)
      rw [List.length_map, List.length_map, List.length_reverse, ← u2] at this
      omega
    refine ⟨us, u1, u2, u3, ?_⟩
    show growStep sig (growR sig r) c = _
    unfold growStep
    rw [if_neg hc, hl, Nat.sub_self, List.take_zero, List.drop_zero, List.nil_append, u2, grow_map ha us u3]

theorem abD_far {sig : List Sy} (ha : ArOk sig) {v : List Int} (h : rowE sig v = 0) (r : List Int) {q : Nat} (hq : v.length ≤ q) : abD sig (v ++ r) q = (abD sig r (q - v.length)).map (v.length + ·) := by
  obtain ⟨d, rfl⟩ : ∃ d, q = v.length + d := ⟨q - v.length, by omega⟩
  rw [Nat.add_sub_cancel_left]
  unfold abD
  rw [List.range_add, List.filter_append, List.filter_map]
  have h1 : (List.range v.length).filter (fun i => decide (v.length + d < i + nodes sig (v ++ r) i)) = [] := by
    rw [List.filter_eq_nil_iff]
    intro i hi
    have hi := List.mem_range.1 hi
    have h2 := at_place ha h hi
    rw [nodes_app ha h hi]
    simp
    omega
  rw [h1, List.nil_append]
  congr 1
  refine List.filter_congr fun i _ => ?_
  simp only [Function.comp]
  rw [nodes_behind]
  simp
  omega

theorem abD_in {sig : List Sy} (ha : ArOk sig) {v : List Int} (h : rowE sig v = 0) (r : List Int) {q : Nat} (hq : q < v.length) : abD sig (v ++ r) q = abD sig v q := by
  unfold abD
  refine List.filter_congr fun i hi => ?_
  rw [nodes_app ha h (by have := List.mem_range.1 hi; omega)]

theorem abD_cons {sig : List Sy} {c : Int} {r : List Int} (h : rowE sig (c :: r) = 0) {q : Nat} (hq : q < r.length) : abD sig (c :: r) (q + 1) = 0 :: (abD sig r q).map (1 + ·) := by
  unfold abD
  rw [Nat.add_comm q 1, List.range_add, List.filter_append, List.filter_map]
  have h1 : (List.range 1).filter (fun i => decide (1 + q < i + nodes sig (c :: r) i)) = [0] := by
    have : List.range 1 = [0] := rfl
    rw [this, List.filter_cons_of_pos (by rw [nodes_root h]; simp; omega)]
    rfl
  rw [h1, List.singleton_append]
  congr 2
  refine List.filter_congr fun i _ => ?_
  simp only [Function.comp]
  have := nodes_behind (sig := sig) [c] r i
  simp only [List.singleton_append, List.length_singleton] at this
  rw [this]
  simp
  omega

/-- What is found above a place by going down the tree. -/
theorem abv_eq {sig : List Sy} (ha : ArOk sig) : ∀ (N : Nat) (u : List Int), u.length ≤ N → rowE sig u = 0 → ∀ (T : Tr) (p q : Nat), growR sig u = [T] → q < u.length → abv T p (p + q) = (abD sig u q).map (fun i => ((p + i : Nat) : Int))
  | 0, u, hN, h, T, p, q, _, hq => by omega
  | N + 1, [], hN, h, T, p, q, _, hq => by simp at hq
  | N + 1, c :: r, hN, h, T, p, q, hT, hq => by
    by_cases hc : c < 0
    · have h1 := row_first.1 h
      have hr : r = [] := by
        rw [firstT_cons] at h1
        cases hd : codeD sig c with
        | none => rw [hd] at h1; simp at h1
        | some e =>
          rw [hd] at h1
          unfold codeD at hd
          split at hd
          · cases hd
          · cases hd
            simp at h1
            exact List.eq_nil_of_length_eq_zero (by omega)
      subst hr
      obtain rfl : q = 0 := by simp at hq; omega
      have : T = .var := by
        have h2 : growStep sig [] c = [T] := hT
        unfold growStep at h2
        rw [if_pos hc] at h2
        simp at h2
        exact h2.symm
      subst this
      simp [abv, abD]
    · obtain ⟨us, _, hr, hus, hg⟩ := kids_tree ha h hc
      rw [hg] at hT
      simp only [List.cons.injEq, and_true] at hT
      subst hT
      have hlen : ∀ u ∈ us, u.length ≤ N := fun u hu => by
        have h1 : u.length ≤ us.flatten.length := List.Sublist.length_le (List.sublist_flatten_of_mem hu)
        rw [← hr] at h1
        simp at hN
        omega
      -- the arguments, one behind the other
      have key : ∀ (vs : List (List Int)), (∀ u ∈ vs, rowE sig u = 0) → (∀ u ∈ vs, u.length ≤ N) → ∀ p q : Nat, q < vs.flatten.length → abvs (vs.flatMap (growR sig)) p (p + q) = (abD sig vs.flatten q).map (fun i => ((p + i : Nat) : Int)) := by
        intro vs
        induction vs with
        | nil => intro _ _ p q hq; simp at hq
        | cons v vs ih =>
          intro hv hl p q hq
          obtain ⟨T, h1, h2⟩ := grow_one ha (hv v (by simp))
          rw [List.flatMap_cons, h1, List.flatten_cons]
          show abvs (T :: vs.flatMap (growR sig)) p (p + q) = _
          unfold abvs
          rw [h2]
          by_cases hqv : v.length ≤ q
          · rw [if_pos (by omega), abD_far ha (hv v (by simp)) _ hqv, show p + q = p + v.length + (q - v.length) by omega,
              ih (fun u hu => hv u (by simp [hu])) (fun u hu => hl u (by simp [hu])) (p + v.length) (q - v.length) (by rw [List.flatten_cons, List.length_append] at hq; omega), List.map_map]
            refine List.map_congr_left fun i _ => ?_
            simp only [Function.comp]
            rw [Nat.add_assoc]
          · rw [if_neg (by omega), abD_in ha (hv v (by simp)) _ (by omega)]
            exact abv_eq ha N v (hl v (by simp)) (hv v (by simp)) T p q h1 (by omega)
      unfold abv
      cases q with
      | zero => simp [abD]
      | succ q =>
        have hq2 : q < us.flatten.length := by rw [← hr]; simpa using hq
        rw [if_neg (by omega), abD_cons h (by simpa using hq), show p + (q + 1) = p + 1 + q by omega, key us hus hlen (p + 1) q hq2, hr, List.map_cons, List.map_map]
        congr 1
        refine List.map_congr_left fun i _ => ?_
        simp only [Function.comp]
        rw [Nat.add_assoc]

/-- The arguments' places, found one by one. -/
def kidsD (sig : List Sy) (t : List Int) : Nat → Nat → List Int
  | 0, _ => []
  | n + 1, k => (k : Int) :: kidsD sig t n (k + nodes sig t k)

theorem kidsD_places {sig : List Sy} (t : List Int) : ∀ (us : List (List Int)) (k : Nat) (q : List Int), (∀ u ∈ us, rowE sig u = 0) → t.drop k = us.flatten ++ q → kidsD sig t us.length k = places k (us.map List.length)
  | [], _, _, _, _ => rfl
  | u :: us, k, q, h, ht => by
    have h0 := h u (by simp)
    have h1 : nodes sig t k = u.length := by
      unfold nodes
      rw [ht, List.flatten_cons, List.append_assoc, first_more _ u 1 0 (u.length : Int) (by rw [row_first.1 h0])]
      simp
    show (k : Int) :: kidsD sig t us.length (k + nodes sig t k) = (k : Int) :: places (k + u.length) (us.map List.length)
    rw [h1, kidsD_places t us (k + u.length) q (fun x hx => h x (by simp [hx]))]
    rw [← List.drop_drop, ht, List.flatten_cons, List.append_assoc, List.drop_left]

/-- Kids, found one by one. -/
theorem kids_eq {sig : List Sy} {t : List Int} {k : Nat} {c : Int} (h : placeE sig t k = 0) (hc : t[k]? = some c) : kidsL sig t k = if c < 0 then [] else kidsD sig t (arN sig c) (k + 1) := by
  obtain ⟨ha, hr, k', m, hk, hkl, hm1, hend, hkm, hsub, hrow⟩ := placeE_ok h
  obtain rfl : k = k' := by omega
  have hd := drop_get hc
  obtain ⟨m', rfl⟩ : ∃ m', m = m' + 1 := ⟨m - 1, by omega⟩
  rw [hd, List.take_succ_cons] at hsub hrow
  unfold kidsL
  rw [hsub, Int.toNat_natCast]
  by_cases h0 : c < 0
  · rw [if_pos h0]
    obtain ⟨T, hT, _⟩ := grow_one ha hrow
    rw [hT]
    have hT2 : growStep sig (growR sig ((t.drop (k + 1)).take m')) c = [T] := hT
    unfold growStep at hT2
    rw [if_pos h0] at hT2
    have h2 := congrArg List.length hT2
    rw [List.length_append] at h2
    simp only [List.length_cons, List.length_nil] at h2
    have h3 : growR sig ((t.drop (k + 1)).take m') = [] := List.eq_nil_of_length_eq_zero (by omega)
    rw [h3] at hT2
    simp only [List.nil_append, List.cons.injEq, and_true] at hT2
    subst hT2
    rfl
  · rw [if_neg h0]
    obtain ⟨us, u1, u2, u3, u4⟩ := kids_tree ha hrow h0
    rw [u4]
    show kidsGo (k + 1) (us.flatMap (growR sig)) = _
    rw [kids_places, ← grow_map ha us u3, grow_flat ha us u3, ← u1]
    refine (kidsD_places t us (k + 1) ((t.drop (k + 1)).drop m') u3 ?_).symm
    rw [← u2, List.take_append_drop]

end Go.Proofs.YtfeeafkfjngemaaDoor

/- argumentPairs walked. -/
namespace Go.Proofs.YtfeeafkfjngemaaDoor
open Go.RowKit Go.Maps Go.BigFrame

/-- The tree is that of the term at a place of a row. -/
def Wf (sig : List Sy) (r : List Int) (T : Tr) (q : Nat) : Prop := ∃ u rest, r.drop q = u ++ rest ∧ rowE sig u = 0 ∧ growR sig u = [T]

theorem Wf.size {sig : List Sy} {r : List Int} {T : Tr} {q : Nat} (h : Wf sig r T q) : q + T.size ≤ r.length := by
  obtain ⟨u, rest, h1, h2, h3⟩ := h
  have h4 := growR_sizes sig u
  rw [h3] at h4
  have h5 := congrArg List.length h1
  have h6 := T.pos
  simp only [List.length_drop, List.length_append, sizes] at h4 h5
  omega

theorem Wf.row {sig : List Sy} {r : List Int} {T : Tr} {q : Nat} (h : Wf sig r T q) : rowE sig ((r.drop q).take T.size) = 0 ∧ growR sig ((r.drop q).take T.size) = [T] := by
  obtain ⟨u, rest, h1, h2, h3⟩ := h
  have h4 := growR_sizes sig u
  rw [h3] at h4
  simp only [sizes] at h4
  have h5 : (r.drop q).take T.size = u := by rw [h1, show T.size = u.length by omega, List.take_left]
  rw [h5]
  exact ⟨h2, h3⟩

theorem drop_head {r : List Int} {q : Nat} {c : Int} {l : List Int} (h : r.drop q = c :: l) : r[q]? = some c ∧ r.drop (q + 1) = l := by
  constructor
  · have := congrArg (·[0]?) h
    simpa [List.getElem?_drop] using this
  · rw [← List.drop_drop, h]
    rfl

theorem Wf.var {sig : List Sy} {r : List Int} {q : Nat} (h : Wf sig r .var q) : ∃ c, r[q]? = some c ∧ c < 0 := by
  obtain ⟨u, rest, h1, h2, h3⟩ := h
  cases u with
  | nil => simp [rowE, firstT] at h2
  | cons c u =>
    rw [List.cons_append] at h1
    refine ⟨c, (drop_head h1).1, ?_⟩
    by_cases hc : c < 0
    · exact hc
    · have h4 : growStep sig (growR sig u) c = [.var] := h3
      unfold growStep at h4
      rw [if_neg hc] at h4
      have h5 := congrArg List.getLast? h4
      simp at h5

theorem Wf.app {sig : List Sy} (ha : ArOk sig) {r : List Int} {ts : List Tr} {q : Nat} (h : Wf sig r (.app ts) q) : ∃ c, r[q]? = some c ∧ ¬ c < 0 ∧ ts.length = arN sig c ∧ ∀ (k : Nat) (t : Tr), ts[k]? = some t → Wf sig r t (q + 1 + sizes (ts.take k)) := by
  obtain ⟨u, rest, h1, h2, h3⟩ := h
  cases u with
  | nil => simp [rowE, firstT] at h2
  | cons c u =>
    rw [List.cons_append] at h1
    obtain ⟨h4, h5⟩ := drop_head h1
    have hc : ¬ c < 0 := fun hc => by
      have h6 : growStep sig (growR sig u) c = [.app ts] := h3
      unfold growStep at h6
      rw [if_pos hc] at h6
      have h7 := congrArg List.getLast? h6
      simp at h7
    obtain ⟨us, u1, u2, u3, u4⟩ := kids_tree ha h2 hc
    rw [h3] at u4
    simp only [List.cons.injEq, Tr.app.injEq, and_true] at u4
    have key : ∀ (vs : List (List Int)) (o : Nat) (q2 : List Int), (∀ u ∈ vs, rowE sig u = 0) → r.drop o = vs.flatten ++ q2 → (vs.flatMap (growR sig)).length = vs.length ∧ ∀ (k : Nat) (t : Tr), (vs.flatMap (growR sig))[k]? = some t → Wf sig r t (o + sizes ((vs.flatMap (growR sig)).take k)) := by
      intro vs
      induction vs with
      | nil => intro o q2 _ _; exact ⟨rfl, fun k t hk => by simp at hk⟩
      | cons v vs ih =>
        intro o q2 hv hd
        obtain ⟨T, e1, e2⟩ := grow_one ha (hv v (by simp))
        rw [List.flatten_cons, List.append_assoc] at hd
        have hd2 : r.drop (o + v.length) = vs.flatten ++ q2 := by rw [← List.drop_drop, hd, List.drop_left]
        obtain ⟨i1, i2⟩ := ih (o + v.length) q2 (fun u hu => hv u (by simp [hu])) hd2
        rw [List.flatMap_cons, e1]
        refine ⟨by simp [i1], fun k t hk => ?_⟩
        cases k with
        | zero =>
          simp only [List.singleton_append, List.getElem?_cons_zero, Option.some.injEq] at hk
          subst hk
          simp only [List.take_zero, sizes, Nat.add_zero]
          exact ⟨v, _, hd, hv v (by simp), e1⟩
        | succ k =>
          rw [List.singleton_append, List.getElem?_cons_succ] at hk
          have := i2 k t hk
          rw [List.singleton_append, List.take_succ_cons]
          simp only [sizes]
          rw [e2, ← Nat.add_assoc]
          exact this
    obtain ⟨k1, k2⟩ := key us (q + 1) rest u3 (by rw [h5, u2])
    rw [← u4] at k1 k2
    exact ⟨c, h4, hc, by rw [k1, u1], k2⟩

end Go.Proofs.YtfeeafkfjngemaaDoor

/- The document's End and place walked. -/
namespace Go.Proofs.YtfeeafkfjngemaaDoor
open Go.RowKit Go.Maps Go.BigFrame

theorem codeD_neg {sig : List Sy} {c e : Int} (h : codeD sig c = some e) (hc : c < 0) : e = -1 := by
  unfold codeD at h
  split at h
  · cases h
  · first
    | (rw [if_pos hc] at h; cases h; rfl)
    | (cases h; rfl)

theorem codeD_get {sig : List Sy} {c : Nat} {e : Int} (h : codeD sig (c : Int) = some e) : ∃ s, sig[c]? = some s ∧ e = s.2 - 1 := by
  unfold codeD at h
  rw [if_neg (by omega), if_neg (by omega), Int.toNat_natCast] at h
  cases hs : sig[c]? with
  | none => rw [hs] at h; cases h
  | some s =>
    rw [hs] at h
    cases h
    exact ⟨s, rfl, rfl⟩

/-- What is wrong with a place. -/
theorem place_eq {sig : List Sy} {t : List Int} {p : Int} (h : termE sig t = 0) : placeE sig t p = if p < 0 ∨ (t.length : Int) ≤ p then 33 else 0 := by
  unfold placeE
  rw [if_pos h]
  unfold endP
  by_cases hp : p < 0 ∨ (t.length : Int) ≤ p
  · rw [if_pos hp, if_pos hp]
  · rw [if_neg hp, if_neg hp]
    obtain ⟨k, rfl⟩ : ∃ k : Nat, p = k := ⟨p.toNat, by omega⟩
    have hk : k < t.length := by omega
    obtain ⟨h1, h2⟩ := term_parts h
    obtain ⟨_, _, h3, _⟩ := at_place (sigE_ok h1) h2 hk
    rw [Int.toNat_natCast, h3]

theorem place_in {sig : List Sy} {t : List Int} {k : Nat} (h : termE sig t = 0) (hk : k < t.length) : placeE sig t k = 0 := by
  rw [place_eq h, if_neg (by omega)]

theorem place_end {sig : List Sy} {t : List Int} {k : Nat} (h : termE sig t = 0) (hk : k < t.length) : endP sig t k = (((k + nodes sig t k : Nat) : Int), 0) := by
  obtain ⟨h1, h2⟩ := term_parts h
  obtain ⟨_, _, h3, _⟩ := at_place (sigE_ok h1) h2 hk
  unfold endP
  rw [if_neg (by omega), Int.toNat_natCast, h3]
  simp only [Prod.mk.injEq, and_true]
  omega

theorem sub_eq {sig : List Sy} {t : List Int} {k : Nat} (h : termE sig t = 0) (hk : k < t.length) : subL sig t k = (t.drop k).take (nodes sig t k) := by
  unfold subL
  rw [if_pos (place_in h hk), place_end h hk, Int.toNat_natCast, Int.toNat_natCast, show k + nodes sig t k - k = nodes sig t k by omega]

end Go.Proofs.YtfeeafkfjngemaaDoor

/- The document's Kids, Sub, Above, Vars walked. -/
namespace Go.Proofs.YtfeeafkfjngemaaDoor
open Go.RowKit Go.Maps Go.BigFrame

/-- A symbol's arguments, where they stand. -/
theorem kids_parts {sig : List Sy} {t : List Int} {k : Nat} {c : Int} (h : placeE sig t k = 0) (hc : t[k]? = some c) (h0 : ¬ c < 0) :
    ∃ (us : List (List Int)) (q : List Int), us.length = arN sig c ∧ t.drop (k + 1) = us.flatten ++ q ∧ (∀ u ∈ us, rowE sig u = 0) ∧ kidsL sig t k = places (k + 1) (us.map List.length) := by
  obtain ⟨ha, hr, k', m, hk, hkl, hm1, hend, hkm, hsub, hrow⟩ := placeE_ok h
  obtain rfl : k = k' := by omega
  have hd := drop_get hc
  obtain ⟨m', rfl⟩ : ∃ m', m = m' + 1 := ⟨m - 1, by omega⟩
  rw [hd, List.take_succ_cons] at hsub hrow
  obtain ⟨us, u1, u2, u3, u4⟩ := kids_tree ha hrow h0
  refine ⟨us, (t.drop (k + 1)).drop m', u1, by rw [← u2, List.take_append_drop], u3, ?_⟩
  unfold kidsL
  rw [hsub, Int.toNat_natCast, u4]
  show kidsGo (k + 1) (us.flatMap (growR sig)) = _
  rw [kids_places, ← grow_map ha us u3, grow_flat ha us u3]

theorem kids_var {sig : List Sy} {t : List Int} {k : Nat} {c : Int} (h : placeE sig t k = 0) (hc : t[k]? = some c) (h0 : c < 0) : kidsL sig t k = [] := by
  rw [kids_eq h hc, if_pos h0]

theorem drop_next {us : List (List Int)} {i : Nat} {u : List Int} (h : us[i]? = some u) (q : List Int) : (us.drop i).flatten ++ q = u ++ ((us.drop (i + 1)).flatten ++ q) := by
  rw [drop_get h, List.flatten_cons, List.append_assoc]

theorem first_right {sig : List Sy} {u : List Int} (h : rowE sig u = 0) (q : List Int) : firstT sig 1 0 (u ++ q) = ((u.length : Int), 0) := first_more q u 1 0 _ (by rw [row_first.1 h])

theorem place_term {sig : List Sy} {t : List Int} {p : Int} (h : placeE sig t p = 0) : termE sig t = 0 := by
  unfold placeE at h
  by_cases ht : termE sig t = 0
  · exact ht
  · rw [if_neg ht] at h; exact h

/-- The places above a place, as they are told. -/
def aboveL (sig : List Sy) (t : List Int) (p : Int) : List Int := if placeE sig t p = 0 then (abD sig t p.toNat).map fun i : Nat => (i : Int) else []

end Go.Proofs.YtfeeafkfjngemaaDoor

/- When binds make a pattern a term, plainly. -/
namespace Go.Proofs.YtfeeafkfjngemaaDoor
open Go.RowKit Go.Maps

/-- Binds whose rows are right terms. -/
def Rt (sig : List Sy) (f : Int → Option (List Int)) : Prop := ∀ n u, f n = some u → rowE sig u = 0

/-- The binds make the one row the other one, and have all its variables. -/
def Sm (f : Int → Option (List Int)) (p t : List Int) : Prop := (∀ c ∈ p, c < 0 → f (-1 - c) ≠ none) ∧ laidL f p = t

theorem laidL_app (f : Int → Option (List Int)) (a b : List Int) : laidL f (a ++ b) = laidL f a ++ laidL f b := by
  unfold laidL
  rw [List.flatMap_append]

theorem laidL_cons (f : Int → Option (List Int)) (c : Int) (b : List Int) : laidL f (c :: b) = piece f c ++ laidL f b := by
  unfold laidL
  rw [List.flatMap_cons]

theorem sm_var {f : Int → Option (List Int)} {c : Int} {t : List Int} (hc : c < 0) : Sm f [c] t ↔ f (-1 - c) = some t := by
  unfold Sm
  rw [laidL_cons]
  have hp : piece f c = (f (-1 - c)).getD [c] := by unfold piece; rw [if_pos hc]
  rw [hp]
  constructor
  · rintro ⟨h1, h2⟩
    have h3 := h1 c (by simp) hc
    cases hf : f (-1 - c) with
    | none => exact absurd hf h3
    | some u =>
      rw [hf] at h2
      simp [laidL] at h2
      rw [h2]
  · intro h
    rw [h]
    refine ⟨fun d hd _ => ?_, by simp [laidL]⟩
    simp at hd
    subst hd
    rw [h]
    simp

theorem sm_head {f : Int → Option (List Int)} {c d : Int} {r s : List Int} (hc : ¬ c < 0) : Sm f (c :: r) (d :: s) ↔ c = d ∧ Sm f r s := by
  unfold Sm
  rw [laidL_cons]
  have hp : piece f c = [c] := by unfold piece; rw [if_neg hc]
  rw [hp]
  constructor
  · rintro ⟨h1, h2⟩
    simp only [List.singleton_append, List.cons.injEq] at h2
    exact ⟨h2.1, fun x hx h0 => h1 x (by simp [hx]) h0, h2.2⟩
  · rintro ⟨rfl, h1, h2⟩
    refine ⟨fun x hx h0 => ?_, by rw [h2]; rfl⟩
    rcases List.mem_cons.1 hx with rfl | hx
    · omega
    · exact h1 x hx h0

theorem sm_split {f : Int → Option (List Int)} {a b s u : List Int} (hl : (laidL f a).length = s.length) : Sm f (a ++ b) (s ++ u) ↔ Sm f a s ∧ Sm f b u := by
  unfold Sm
  rw [laidL_app]
  constructor
  · rintro ⟨h1, h2⟩
    obtain ⟨h3, h4⟩ := List.append_inj h2 hl
    exact ⟨⟨fun c hc => h1 c (by simp [hc]), h3⟩, ⟨fun c hc => h1 c (by simp [hc]), h4⟩⟩
  · rintro ⟨⟨h1, h2⟩, h3, h4⟩
    refine ⟨fun c hc h0 => ?_, by rw [h2, h4]⟩
    rcases List.mem_append.1 hc with hc | hc
    · exact h1 c hc h0
    · exact h3 c hc h0

/-- Arguments one by one. -/
theorem sm_list {sig : List Sy} (ha : ArOk sig) {f : Int → Option (List Int)} (hf : Rt sig f) : ∀ (us vs : List (List Int)), us.length = vs.length → (∀ u ∈ us, rowE sig u = 0) → (∀ v ∈ vs, rowE sig v = 0) → (Sm f us.flatten vs.flatten ↔ ∀ (k : Nat) (u v : List Int), us[k]? = some u → vs[k]? = some v → Sm f u v)
  | [], [], _, _, _ => by
    refine ⟨fun _ k u v hu => by simp at hu, fun _ => ⟨fun c hc => by simp at hc, rfl⟩⟩
  | u :: us, v :: vs, hl, hu, hv => by
    have ih := sm_list ha hf us vs (by simpa using hl) (fun x hx => hu x (by simp [hx])) (fun x hx => hv x (by simp [hx]))
    rw [List.flatten_cons, List.flatten_cons]
    have hlu := row_laid ha hf (hu u (by simp))
    constructor
    · intro h
      have h2 := h.2
      rw [laidL_app] at h2
      have h3 := first_right hlu (laidL f us.flatten)
      rw [h2, first_right (hv v (by simp))] at h3
      have h4 : v.length = (laidL f u).length := by
        have := congrArg Prod.fst h3
        simp only at this
        omega
      obtain ⟨h5, h6⟩ := (sm_split h4.symm).1 h
      intro k a b ha1 hb1
      cases k with
      | zero =>
        simp only [List.getElem?_cons_zero, Option.some.injEq] at ha1 hb1
        subst ha1
        subst hb1
        exact h5
      | succ k =>
        rw [List.getElem?_cons_succ] at ha1 hb1
        exact ih.1 h6 k a b ha1 hb1
    · intro h
      have h5 := h 0 u v rfl rfl
      refine (sm_split (by rw [h5.2])).2 ⟨h5, ih.2 fun k a b ha1 hb1 => h (k + 1) a b (by simpa using ha1) (by simpa using hb1)⟩
  | [], _ :: _, hl, _, _ => by simp at hl
  | _ :: _, [], hl, _, _ => by simp at hl

/-- A pair of places: a pattern's tree and a term's. -/
structure Pr where
  P : Tr
  q1 : Nat
  T : Tr
  q2 : Nat

def Pr.pr (p : List Int) (d : Pr) : List Int := (p.drop d.q1).take d.P.size
def Pr.tr (t : List Int) (d : Pr) : List Int := (t.drop d.q2).take d.T.size
def Pr.ok (sig : List Sy) (p t : List Int) (d : Pr) : Prop := Wf sig p d.P d.q1 ∧ Wf sig t d.T d.q2

theorem take_head {r : List Int} {q : Nat} {c : Int} (h : r[q]? = some c) (n : Nat) : (r.drop q).take (n + 1) = c :: (r.drop (q + 1)).take n := by
  rw [drop_get h, List.take_succ_cons]

/-- A pattern's variable. -/
theorem pr_var {sig : List Sy} {p t : List Int} {d : Pr} (h : d.ok sig p t) (hP : d.P = .var) : ∃ c, p[d.q1]? = some c ∧ c < 0 ∧ ∀ f, Sm f (d.pr p) (d.tr t) ↔ f (-1 - c) = some (d.tr t) := by
  have h1 := h.1
  rw [hP] at h1
  obtain ⟨c, hc, h0⟩ := h1.var
  refine ⟨c, hc, h0, fun f => ?_⟩
  have : d.pr p = [c] := by
    unfold Pr.pr
    rw [hP]
    simp only [Tr.size]
    rw [take_head hc 0]
    rfl
  rw [this]
  exact sm_var h0

theorem first_of {r : List Int} {q n : Nat} (h : q + (1 + n) ≤ r.length) : ∃ c, r[q]? = some c := ⟨_, List.getElem?_eq_getElem (by omega)⟩

/-- The places of arguments. -/
def argPr (_p _t : List Int) (ts1 ts2 : List Tr) (q1 q2 : Nat) : List Pr := (List.range ts1.length).map fun k => ⟨(ts1[k]?).getD .var, q1 + 1 + sizes (ts1.take k), (ts2[k]?).getD .var, q2 + 1 + sizes (ts2.take k)⟩

theorem sizes_cut {ts : List Tr} {k : Nat} {t : Tr} (h : ts[k]? = some t) : sizes (ts.take (k + 1)) = sizes (ts.take k) + t.size := by
  rw [take_get h, sizes_app]
  simp [sizes]

/-- A row of arguments is what its trees say. -/
theorem args_flat (r : List Int) : ∀ (ts : List Tr) (o : Nat), (r.drop o).take (sizes ts) = ((List.range ts.length).map fun k => (r.drop (o + sizes (ts.take k))).take ((ts[k]?).getD .var).size).flatten
  | [], o => by simp [sizes]
  | t :: ts, o => by
    rw [List.length_cons, List.range_succ_eq_map, List.map_cons, List.flatten_cons, List.map_map]
    have ih := args_flat r ts (o + t.size)
    simp only [sizes, List.take_zero, Nat.add_zero, List.getElem?_cons_zero, Option.getD_some]
    rw [List.take_add, List.drop_drop, ih]
    congr 2
    refine List.map_congr_left fun k _ => ?_
    simp only [Function.comp, List.take_succ_cons, sizes, List.getElem?_cons_succ]
    rw [Nat.add_assoc]

/-- A pattern's symbol. -/
theorem pr_app {sig : List Sy} (ha : ArOk sig) {p t : List Int} {d : Pr} (h : d.ok sig p t) {ts1 : List Tr} (hP : d.P = .app ts1) {c x : Int} (hc : p[d.q1]? = some c) (hx : t[d.q2]? = some x) :
    (d.T = .var ∨ c ≠ x → ∀ f, ¬ Sm f (d.pr p) (d.tr t)) ∧ (∀ ts2, d.T = .app ts2 → c = x → ts2.length = ts1.length ∧ (∀ e ∈ argPr p t ts1 ts2 d.q1 d.q2, e.ok sig p t) ∧ ∀ f, Rt sig f → (Sm f (d.pr p) (d.tr t) ↔ ∀ e ∈ argPr p t ts1 ts2 d.q1 d.q2, Sm f (e.pr p) (e.tr t))) := by
  have h1 := h.1
  rw [hP] at h1
  obtain ⟨c', hc', hc0, hl1, hk1⟩ := h1.app ha
  rw [hc] at hc'
  cases hc'
  have hpr : d.pr p = c :: (p.drop (d.q1 + 1)).take (sizes ts1) := by
    unfold Pr.pr
    rw [hP]
    simp only [Tr.size]
    rw [Nat.add_comm, take_head hc]
  constructor
  · rintro hh f hs
    have htr : ∃ s, d.tr t = x :: s := by
      unfold Pr.tr
      obtain ⟨n, hn⟩ : ∃ n, d.T.size = n + 1 := ⟨d.T.size - 1, by have := d.T.pos; omega⟩
      rw [hn, take_head hx]
      exact ⟨_, rfl⟩
    obtain ⟨s, htr⟩ := htr
    rw [hpr, htr] at hs
    have := (sm_head hc0).1 hs
    rcases hh with hh | hh
    · have h2 := h.2
      rw [hh] at h2
      obtain ⟨x', hx', h0⟩ := h2.var
      rw [hx] at hx'
      cases hx'
      omega
    · exact hh this.1
  · intro ts2 hT hcx
    have h2 := h.2
    rw [hT] at h2
    obtain ⟨x', hx', hx0, hl2, hk2⟩ := h2.app ha
    rw [hx] at hx'
    cases hx'
    have hll : ts2.length = ts1.length := by rw [hl1, hl2, hcx]
    have hok : ∀ e ∈ argPr p t ts1 ts2 d.q1 d.q2, e.ok sig p t := by
      intro e he
      obtain ⟨k, hk, rfl⟩ := List.mem_map.1 he
      have hk := List.mem_range.1 hk
      have e1 : ts1[k]? = some ts1[k] := List.getElem?_eq_getElem hk
      have e2 : ts2[k]? = some (ts2[k]'(by omega)) := List.getElem?_eq_getElem (by omega)
      unfold Pr.ok
      simp only [e1, e2, Option.getD_some]
      exact ⟨hk1 k _ e1, hk2 k _ e2⟩
    refine ⟨hll, hok, fun f hf => ?_⟩
    have htr : d.tr t = x :: (t.drop (d.q2 + 1)).take (sizes ts2) := by
      unfold Pr.tr
      rw [hT]
      simp only [Tr.size]
      rw [Nat.add_comm, take_head hx]
    rw [hpr, htr, sm_head hc0, args_flat p ts1 (d.q1 + 1), args_flat t ts2 (d.q2 + 1)]
    have hlist := sm_list ha hf ((List.range ts1.length).map fun k => (p.drop (d.q1 + 1 + sizes (ts1.take k))).take ((ts1[k]?).getD .var).size) ((List.range ts2.length).map fun k => (t.drop (d.q2 + 1 + sizes (ts2.take k))).take ((ts2[k]?).getD .var).size) (by simp [hll])
      (fun u hu => by
        obtain ⟨k, hk, rfl⟩ := List.mem_map.1 hu
        have hk := List.mem_range.1 hk
        have e1 : ts1[k]? = some ts1[k] := List.getElem?_eq_getElem hk
        rw [e1, Option.getD_some]
        exact (hk1 k _ e1).row.1)
      (fun u hu => by
        obtain ⟨k, hk, rfl⟩ := List.mem_map.1 hu
        have hk := List.mem_range.1 hk
        have e1 : ts2[k]? = some ts2[k] := List.getElem?_eq_getElem hk
        rw [e1, Option.getD_some]
        exact (hk2 k _ e1).row.1)
    rw [hlist]
    constructor
    · rintro ⟨_, hh⟩ e he
      obtain ⟨k, hk, rfl⟩ := List.mem_map.1 he
      have hk := List.mem_range.1 hk
      exact hh k _ _ (by rw [List.getElem?_map, List.getElem?_range hk]; rfl) (by rw [List.getElem?_map, List.getElem?_range (by omega)]; rfl)
    · intro hh
      refine ⟨hcx, fun k u v hu hv => ?_⟩
      have hk : k < ts1.length := by
        have := (List.getElem?_eq_some_iff.1 hu).1
        simpa using this
      rw [List.getElem?_map, List.getElem?_range hk] at hu
      rw [List.getElem?_map, List.getElem?_range (by omega)] at hv
      simp only [Option.map_some, Option.some.injEq] at hu hv
      subst hu
      subst hv
      exact hh _ (List.mem_map.2 ⟨k, List.mem_range.2 hk, rfl⟩)

end Go.Proofs.YtfeeafkfjngemaaDoor

/- boundRows: what its round reads. -/
namespace Go.Proofs.YtfeeafkfjngemaaDoor
open Go.RowKit Go.Maps Go.BigFrame

/-- How many nodes wait. -/
def wait (ds : List Pr) : Nat := (ds.map fun d => d.P.size).sum

theorem wait_app (a b : List Pr) : wait (a ++ b) = wait a + wait b := by simp [wait, List.sum_append]

theorem wait_args (p t : List Int) (ts1 ts2 : List Tr) (q1 q2 : Nat) : wait (argPr p t ts1 ts2 q1 q2) = sizes ts1 := by
  unfold wait argPr
  rw [List.map_map]
  have : ∀ (ts : List Tr), ((List.range ts.length).map fun k => ((ts[k]?).getD .var).size).sum = sizes ts := by
    intro ts
    induction ts with
    | nil => rfl
    | cons t ts ih =>
      rw [List.length_cons, List.range_succ_eq_map, List.map_cons, List.map_map, List.sum_cons]
      simp only [List.getElem?_cons_zero, Option.getD_some, sizes]
      have e9 : ((fun k => (((t :: ts)[k]?).getD .var).size) ∘ Nat.succ) = fun k => ((ts[k]?).getD .var).size := by
        funext k
        simp
      rw [e9, ih]
  exact this ts1

end Go.Proofs.YtfeeafkfjngemaaDoor

/- boundRows walked. -/
namespace Go.Proofs.YtfeeafkfjngemaaDoor
open Go.RowKit Go.Maps Go.BigFrame

theorem snoc_cases {α : Type} (l : List α) : l = [] ∨ ∃ xs x, l = xs ++ [x] := by
  rcases List.eq_nil_or_concat l with h | ⟨xs, x, h⟩
  · exact .inl h
  · exact .inr ⟨xs, x, by rw [h, List.concat_eq_append]⟩

/-- The map's rows. -/
def Lr (w : World) (L : List (Int × Value)) (R : List (Int × List Int)) : Prop := ∀ n, (∀ v, L.lookup n = some v → ∃ u, R.lookup n = some u ∧ Is w v u) ∧ (L.lookup n = none → R.lookup n = none)

theorem Lr.cons {w : World} {L : List (Int × Value)} {R : List (Int × List Int)} (h : Lr w L R) {n : Int} {s : Value} {u : List Int} (hs : Is w s u) : Lr w ((n, s) :: L) ((n, u) :: R) := fun m => by
  rw [List.lookup_cons, List.lookup_cons]
  by_cases e : m = n
  · subst e
    simp only [beq_self_eq_true]
    exact ⟨fun v hv => by cases hv; exact ⟨u, rfl, hs⟩, fun hv => by cases hv⟩
  · rw [show (m == n) = false by simpa using e]
    exact h m

theorem Is.inj {w : World} {v : Value} {xs ys : List Int} (h : Is w v xs) (k : Is w v ys) : xs = ys := by
  obtain ⟨ao, cap, rfl, _, _, hx⟩ := h.flatI
  have hl : xs.length = ys.length := Row.len k
  refine List.ext_getElem? fun j => ?_
  by_cases hj : j < xs.length
  · obtain ⟨g, off, x, e, h1, h2⟩ := hx j hj
    obtain ⟨g', off', y, e', h1', h2', _⟩ := k.at (k := j) (by omega)
    rw [e] at e'
    simp only [Option.some.injEq, Addr.mk.injEq, and_true] at e'
    obtain ⟨rfl, rfl⟩ := e'
    rw [h2] at h2'
    cases h2'
    rw [h1, h1']
  · rw [List.getElem?_eq_none (by omega), List.getElem?_eq_none (by omega)]

/-- What is known of a pattern's variables: right rows, of variables that it has. -/
def Ky (sig : List Sy) (p : List Int) (R : List (Int × List Int)) : Prop := ∀ n u, R.lookup n = some u → rowE sig u = 0 ∧ ∃ c ∈ p, c < 0 ∧ n = -1 - c

theorem Ky.cons {sig : List Sy} {p : List Int} {R : List (Int × List Int)} (h : Ky sig p R) {c : Int} {u : List Int} (hu : rowE sig u = 0) (hc : c ∈ p) (h0 : c < 0) : Ky sig p ((-1 - c, u) :: R) := fun n v hv => by
  rw [List.lookup_cons] at hv
  by_cases e : n = -1 - c
  · subst e
    simp only [beq_self_eq_true, Option.some.injEq] at hv
    subst hv
    exact ⟨hu, c, hc, h0, rfl⟩
  · rw [show (n == -1 - c) = false by simpa using e] at hv
    exact h n v hv

theorem len_wait : ∀ ds : List Pr, ds.length ≤ wait ds
  | [] => Nat.zero_le _
  | d :: ds => by
    have h1 := len_wait ds
    have h2 := d.P.pos
    have h3 : wait (d :: ds) = d.P.size + wait ds := by simp [wait]
    rw [List.length_cons, h3]
    omega

/-- What binds must do: those that are known, and the pairs that wait. -/
def Eqv (sig : List Sy) (p t : List Int) (R : List (Int × List Int)) (ds : List Pr) : Prop := ∀ f, Rt sig f → (Sm f p t ↔ (∀ n u, R.lookup n = some u → f n = some u) ∧ ∀ d ∈ ds, Sm f (d.pr p) (d.tr t))

theorem Eqv.bind {sig : List Sy} {p t : List Int} {R : List (Int × List Int)} {es : List Pr} {d : Pr} {n : Int} (h : Eqv sig p t R (es ++ [d])) (hd : ∀ f, Sm f (d.pr p) (d.tr t) ↔ f n = some (d.tr t)) (hn : R.lookup n = none) : Eqv sig p t ((n, d.tr t) :: R) es := fun f hf => by
  rw [h f hf]
  constructor
  · rintro ⟨h1, h2⟩
    refine ⟨fun m u hm => ?_, fun e he => h2 e (by simp [he])⟩
    rw [List.lookup_cons] at hm
    by_cases e : m = n
    · subst e
      simp only [beq_self_eq_true, Option.some.injEq] at hm
      rw [← hm]
      exact (hd f).1 (h2 d (by simp))
    · rw [show (m == n) = false by simpa using e] at hm
      exact h1 m u hm
  · rintro ⟨h1, h2⟩
    have hnn : f n = some (d.tr t) := h1 n _ (by rw [List.lookup_cons]; simp)
    refine ⟨fun m u hm => h1 m u ?_, fun e he => ?_⟩
    · rw [List.lookup_cons]
      by_cases e : m = n
      · subst e
        rw [hn] at hm
        cases hm
      · rw [show (m == n) = false by simpa using e]
        exact hm
    · rcases List.mem_append.1 he with he | he
      · exact h2 e he
      · rw [List.mem_singleton] at he
        subst he
        exact (hd f).2 hnn

theorem Eqv.known {sig : List Sy} {p t : List Int} {R : List (Int × List Int)} {es : List Pr} {d : Pr} {n : Int} (h : Eqv sig p t R (es ++ [d])) (hd : ∀ f, Sm f (d.pr p) (d.tr t) ↔ f n = some (d.tr t)) (hn : R.lookup n = some (d.tr t)) : Eqv sig p t R es := fun f hf => by
  rw [h f hf]
  constructor
  · rintro ⟨h1, h2⟩
    exact ⟨h1, fun e he => h2 e (by simp [he])⟩
  · rintro ⟨h1, h2⟩
    refine ⟨h1, fun e he => ?_⟩
    rcases List.mem_append.1 he with he | he
    · exact h2 e he
    · rw [List.mem_singleton] at he
      subst he
      exact (hd f).2 (h1 n _ hn)

theorem Eqv.clash {sig : List Sy} {p t : List Int} {R : List (Int × List Int)} {es : List Pr} {d : Pr} {n : Int} {u : List Int} (h : Eqv sig p t R (es ++ [d])) (hd : ∀ f, Sm f (d.pr p) (d.tr t) ↔ f n = some (d.tr t)) (hn : R.lookup n = some u) (hu : u ≠ d.tr t) : ∀ f, Rt sig f → ¬ Sm f p t := fun f hf hs => by
  obtain ⟨h1, h2⟩ := (h f hf).1 hs
  have h3 := h1 n u hn
  have h4 := (hd f).1 (h2 d (by simp))
  rw [h3] at h4
  cases h4
  exact hu rfl

theorem Eqv.none {sig : List Sy} {p t : List Int} {R : List (Int × List Int)} {es : List Pr} {d : Pr} (h : Eqv sig p t R (es ++ [d])) (hd : ∀ f, ¬ Sm f (d.pr p) (d.tr t)) : ∀ f, Rt sig f → ¬ Sm f p t := fun f hf hs => hd f (((h f hf).1 hs).2 d (by simp))

theorem Eqv.open {sig : List Sy} {p t : List Int} {R : List (Int × List Int)} {es gs : List Pr} {d : Pr} (h : Eqv sig p t R (es ++ [d])) (hd : ∀ f, Rt sig f → (Sm f (d.pr p) (d.tr t) ↔ ∀ e ∈ gs, Sm f (e.pr p) (e.tr t))) : Eqv sig p t R (es ++ gs) := fun f hf => by
  rw [h f hf]
  constructor
  · rintro ⟨h1, h2⟩
    refine ⟨h1, fun e he => ?_⟩
    rcases List.mem_append.1 he with he | he
    · exact h2 e (by simp [he])
    · exact (hd f hf).1 (h2 d (by simp)) e he
  · rintro ⟨h1, h2⟩
    refine ⟨h1, fun e he => ?_⟩
    rcases List.mem_append.1 he with he | he
    · exact h2 e (by simp [he])
    · rw [List.mem_singleton] at he
      subst he
      exact (hd f hf).2 fun e he => h2 e (by simp [he])

end Go.Proofs.YtfeeafkfjngemaaDoor

/- Match of package match walked. -/
namespace Go.Proofs.YtfeeafkfjngemaaDoor
open Go.RowKit Go.Maps

theorem piece_le {f : Int → Option (List Int)} {p : List Int} {c : Int} (h : c ∈ p) : (piece f c).length ≤ (laidL f p).length := by
  obtain ⟨a, b, rfl⟩ := List.append_of_mem h
  rw [laidL_app, laidL_cons, List.length_append, List.length_append]
  omega

theorem metM_len : ∀ (t m : List Int), (metA m t).length ≤ m.length + t.length
  | [], m => by simp [metA]
  | c :: t, m => by
    unfold metA
    split
    · have := metM_len t m
      simp only [List.length_cons]
      omega
    · have := metM_len t (m ++ [c])
      simp only [List.length_append, List.length_cons, List.length_nil] at this ⊢
      omega

theorem varsM_len (t : List Int) : (varsL t).length ≤ t.length := by
  unfold varsL
  rw [List.length_map]
  have := metM_len t []
  simpa using this

theorem wf_whole {sig : List Sy} {p : List Int} {P : Tr} (hr : rowE sig p = 0) (hg : growR sig p = [P]) : Wf sig p P 0 ∧ P.size = p.length := by
  refine ⟨⟨p, [], by simp, hr, hg⟩, ?_⟩
  have h := growR_sizes sig p
  rw [hg] at h
  simpa [sizes] using h

theorem row_ne {sig : List Sy} {p : List Int} (hr : rowE sig p = 0) : 0 < p.length := by
  cases p with
  | nil => simp [rowE, firstT] at hr
  | cons c p => simp

/-- The binds that a match tells. -/
def bindsL (f : Int → Option (List Int)) (p : List Int) : List Bd := (sortI (varsL p)).map fun n => (n, (f n).getD [])

theorem rs_two {w : World} {pv tv : Value} {p t : List Int} (hp : Is w pv p) (ht : Is w tv t) (h1 : p.length * 8 ≤ 140737488351232) (h2 : t.length * 8 ≤ 140737488351232) : Rs (w.alloc (.cells #[pv, tv] 30)) (.slice (some ⟨w.heap.size, 0, none⟩) 2 2) [p, t] := by
  have hk := Kp.of_below (below_alloc (w := w) (.cells #[pv, tv] 30))
  refine ⟨_, 2, rfl, Nat.le_refl _, by simp [maxLen], fun _ => ⟨w.heap.size, 0, rfl, by simp, fun k x hx => ?_⟩⟩
  match k, hx with
  | 0, hx =>
    simp at hx
    subst hx
    exact ⟨h1, pv, cell_new rfl, hp.kp hk⟩
  | 1, hx =>
    simp at hx
    subst hx
    exact ⟨h2, tv, cell_new rfl, ht.kp hk⟩
  | k + 2, hx => simp at hx

/-- What the walk wants of the binds that were found. -/
theorem found {sig : List Sy} {p t : List Int} {w : World} {L : List (Int × Value)} {R : List (Int × List Int)} (hlr : Lr w L R) (hky : Ky sig p R) (hs : Sm (fun n => R.lookup n) p t) (ht : t.length * 8 ≤ 140737488351232) : ∀ x ∈ varsL p, ∃ v u, L.lookup x = some v ∧ R.lookup x = some u ∧ Is w v u ∧ 0 < u.length ∧ u.length * 8 ≤ 140737488351232 := fun x hx => by
  obtain ⟨c, hc, h0, rfl⟩ := mem_varsL.1 hx
  have hne := hs.1 c hc h0
  cases hl : L.lookup (-1 - c) with
  | none => exact absurd ((hlr _).2 hl) hne
  | some v =>
    obtain ⟨u, hu, hi⟩ := (hlr _).1 v hl
    refine ⟨v, u, rfl, hu, hi, row_ne (hky _ _ hu).1, ?_⟩
    have h9 := piece_le (f := fun n => R.lookup n) hc
    rw [hs.2] at h9
    have e9 : piece (fun n => R.lookup n) c = u := by unfold piece; rw [if_pos h0]; show (R.lookup (-1 - c)).getD [c] = u; rw [hu]; rfl
    rw [e9] at h9
    omega

end Go.Proofs.YtfeeafkfjngemaaDoor
