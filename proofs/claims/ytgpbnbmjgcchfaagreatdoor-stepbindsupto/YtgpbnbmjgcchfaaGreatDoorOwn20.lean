/- Texts of the proof, one behind the other. -/
import Derived.Test.YtgpbnbmjgcchfaaGreatDoorOwn19
import Derived.Test.YtgpbnbmjgcchfaaGreatDoorOwn18
import Derived.Test.YtgpbnbmjgcchfaaGreatDoorOwn4
import Derived.Test.YtgpbnbmjgcchfaaGreatDoorOwn3
/- Redexes part by part and the steps at them, plainly. -/
namespace Go.Proofs.YtgpbnbmjgcchfaaGreatDoor
open Go.RowKit Go.Maps Go.BigFrame

/-- A redex moved. -/
def mvX (o : Nat) (x : Rx) : Rx := (x.1 + (o : Int), x.2)

theorem red_move {sig : List Sy} {part : List Int} (x o : Nat) : ∀ (rs : List Rl) (k : Nat), redL sig part (o + x) k rs = (redL sig part x k rs).map (mvX o)
  | [], _ => rfl
  | r :: rs, k => by
    unfold redL
    rw [List.map_append, red_move x o rs (k + 1)]
    congr 1
    split
    · simp only [List.map_cons, List.map_nil, mvX, List.cons.injEq, Prod.mk.injEq, and_true]
      omega
    · rfl

theorem sub_in {sig : List Sy} {t p u q : List Int} (ht : termE sig t = 0) (hu : rowE sig u = 0) (he : t = p ++ (u ++ q)) {x : Nat} (hx : x < u.length) :
    ∃ y, VOk sig u (x, y) ∧ VOk sig t (p.length + x, p.length + y) ∧ subL sig t ((p.length + x : Nat) : Int) = subL sig u (x : Int) := by
  have hut := term_of ht hu
  obtain ⟨y, hv⟩ := place_end8 hut hx
  have h1 := hv.1
  have h2 := hv.2.1
  simp only at h1 h2
  have e : (t.drop (p.length + x)).take (p.length + y - (p.length + x)) = (u.drop x).take (y - x) := by
    rw [he, ← List.drop_drop, List.drop_left, List.drop_append_of_le_length (by omega), List.take_append_of_le_length (by rw [List.length_drop]; omega), show p.length + y - (p.length + x) = y - x by omega]
  have hv3 : VOk sig t (p.length + x, p.length + y) := by
    refine ⟨by simp only; omega, ?_, ?_⟩
    · simp only
      rw [he, List.length_append, List.length_append]
      omega
    · simp only
      rw [e]
      exact hv.2.2
  refine ⟨y, hv, hv3, ?_⟩
  have a := part_sub hut hv
  have b := part_sub ht hv3
  simp only at a b
  rw [← a, ← b]
  exact e

/-- The redexes of parts that stand side by side from a place on. -/
noncomputable def allP (sig : List Sy) (rs : List Rl) : Nat → List (List Int) → List Rx
  | _, [] => []
  | b, u :: us => (allL sig rs u).map (mvX b) ++ allP sig rs (b + u.length) us

theorem all_in {sig : List Sy} {rs : List Rl} {t p u q : List Int} (ht : termE sig t = 0) (hu : rowE sig u = 0) (he : t = p ++ (u ++ q)) :
    ((List.range' p.length u.length).flatMap fun (x : Nat) => redL sig (subL sig t (x : Int)) x 0 rs) = (allL sig rs u).map (mvX p.length) := by
  unfold allL
  rw [List.map_flatMap, List.range'_eq_map_range, List.flatMap_map]
  refine flat_congr fun x hx => ?_
  obtain ⟨y, _, _, h3⟩ := sub_in ht hu he (List.mem_range.1 hx)
  rw [h3, red_move]

theorem all_parts {sig : List Sy} {rs : List Rl} {t : List Int} (ht : termE sig t = 0) : ∀ (us : List (List Int)) (p q : List Int), (∀ u ∈ us, rowE sig u = 0) → t = p ++ (us.flatten ++ q) →
    ((List.range' p.length us.flatten.length).flatMap fun (x : Nat) => redL sig (subL sig t (x : Int)) x 0 rs) = allP sig rs p.length us
  | [], p, q, _, _ => by simp [allP]
  | u :: us, p, q, h, he => by
    have h1 := all_in (rs := rs) ht (h u (by simp)) (p := p) (q := us.flatten ++ q) (by rw [he]; simp)
    have h2 := all_parts (rs := rs) ht us (p ++ u) q (fun v hv => h v (by simp [hv])) (by rw [he]; simp)
    rw [List.length_append] at h2
    rw [List.flatten_cons, List.length_append, ← List.range'_append_1, List.flatMap_append, h1, h2]
    rfl

theorem all_root {sig : List Sy} {rs : List Rl} {c : Int} {us : List (List Int)} (ht : termE sig (c :: us.flatten) = 0) (hu : ∀ u ∈ us, rowE sig u = 0) :
    allL sig rs (c :: us.flatten) = redL sig (c :: us.flatten) 0 0 rs ++ allP sig rs 1 us := by
  have h1 := all_parts (rs := rs) ht us [c] [] hu (by simp)
  have h2 : subL sig (c :: us.flatten) ((0 : Nat) : Int) = c :: us.flatten := (sub_at (p := []) (q := []) ht (term_parts ht).2 (by simp)).2
  unfold allL
  rw [List.length_cons, List.range_eq_range', List.range'_succ, List.flatMap_cons, h2]
  congr 1

theorem allP_app (sig : List Sy) (rs : List Rl) : ∀ (us vs : List (List Int)) (b : Nat), allP sig rs b (us ++ vs) = allP sig rs b us ++ allP sig rs (b + us.flatten.length) vs
  | [], vs, b => by simp [allP]
  | u :: us, vs, b => by
    rw [List.cons_append, allP, allP, allP_app sig rs us vs, List.append_assoc, List.flatten_cons, List.length_append, Nat.add_assoc]

theorem allP_at {sig : List Sy} {rs : List Rl} {us : List (List Int)} {i : Nat} {u : List Int} (b : Nat) (h : us[i]? = some u) :
    allP sig rs b us = allP sig rs b (us.take i) ++ ((allL sig rs u).map (mvX (b + (us.take i).flatten.length)) ++ allP sig rs (b + (us.take i).flatten.length + u.length) (us.drop (i + 1))) ∧ allP sig rs b (us.take (i + 1)) = allP sig rs b (us.take i) ++ (allL sig rs u).map (mvX (b + (us.take i).flatten.length)) := by
  have hi := (List.getElem?_eq_some_iff.1 h).1
  have hu := (List.getElem?_eq_some_iff.1 h).2
  constructor
  · have e : us = us.take i ++ u :: us.drop (i + 1) := by
      rw [← hu, List.getElem_cons_drop, List.take_append_drop]
    conv => lhs; rw [e]
    rw [allP_app]
    rfl
  · rw [List.take_add_one, h, Option.toList_some, allP_app, allP, allP, List.append_nil]

theorem redL_at {sig : List Sy} {part : List Int} {x : Nat} : ∀ (rs : List Rl) (k : Nat) {y : Rx}, y ∈ redL sig part x k rs → ∃ (j : Nat) (r : Rl), rs[j]? = some r ∧ y = ((x : Int), ((k + j : Nat) : Int)) ∧ hitB sig r.1 part = true
  | [], _, y, h => by simp [redL] at h
  | r :: rs, k, y, h => by
    unfold redL at h
    rcases List.mem_append.1 h with h | h
    · split at h
      · rename_i h9
        rw [List.mem_singleton] at h
        exact ⟨0, r, rfl, by rw [h]; rfl, h9⟩
      · cases h
    · obtain ⟨j, r', h1, h2, h3⟩ := redL_at rs (k + 1) h
      exact ⟨j + 1, r', by simpa using h1, by rw [h2]; simp only [Prod.mk.injEq, true_and]; omega, h3⟩

theorem redL_has {sig : List Sy} {part : List Int} {x : Nat} : ∀ (rs : List Rl) (k : Nat) {j : Nat} {r : Rl}, rs[j]? = some r → hitB sig r.1 part = true → ((x : Int), ((k + j : Nat) : Int)) ∈ redL sig part x k rs
  | [], _, j, r, h, _ => by simp at h
  | a :: rs, k, 0, r, h, h2 => by
    simp only [List.getElem?_cons_zero, Option.some.injEq] at h
    subst h
    unfold redL
    rw [if_pos h2]
    simp
  | a :: rs, k, j + 1, r, h, h2 => by
    have h9 := redL_has (x := x) rs (k + 1) (j := j) (r := r) (by simpa using h) h2
    unfold redL
    rw [show k + (j + 1) = k + 1 + j by omega]
    exact List.mem_append_right _ h9

theorem all_mem {sig : List Sy} {rs : List Rl} {t : List Int} {y : Rx} (h : y ∈ allL sig rs t) : ∃ (x j : Nat) (r : Rl), x < t.length ∧ rs[j]? = some r ∧ y = ((x : Int), (j : Int)) ∧ hitB sig r.1 (subL sig t (x : Int)) = true := by
  unfold allL at h
  obtain ⟨x, hx, hy⟩ := List.mem_flatMap.1 h
  obtain ⟨j, r, h1, h2, h3⟩ := redL_at rs 0 hy
  exact ⟨x, j, r, List.mem_range.1 hx, h1, by rw [h2, Nat.zero_add], h3⟩

theorem all_has {sig : List Sy} {rs : List Rl} {t : List Int} {x j : Nat} {r : Rl} (hx : x < t.length) (hr : rs[j]? = some r) (h : hitB sig r.1 (subL sig t (x : Int)) = true) : ((x : Int), (j : Int)) ∈ allL sig rs t := by
  unfold allL
  refine List.mem_flatMap.2 ⟨x, List.mem_range.2 hx, ?_⟩
  have h9 := redL_has (x := x) rs 0 hr h
  rw [Nat.zero_add] at h9
  exact h9

theorem hit_of {sig : List Sy} {l t : List Int} (h : hitB sig l t = true) : Hit sig l t := @of_decide_eq_true _ (Classical.propDecidable _) h

/-- A rule of a right system. -/
theorem rule_of {sig : List Sy} {rs : List Rl} {t : List Int} {j : Nat} {r : Rl} (he : stepE sig rs t = 0) (hr : rs[j]? = some r) : termE sig r.1 = 0 ∧ termE sig r.2 = 0 ∧ r.1.length ≤ 512 ∧ r.2.length ≤ 512 ∧ (0 : Int) ≤ (r.1[0]?).getD 0 ∧ freeB r.1 r.2 = false :=
  rule_parts ((sys_right (stepE_zero he).1).2 r (List.mem_of_getElem? hr))

theorem stepE_of {sig : List Sy} {rs : List Rl} {t u : List Int} (he : stepE sig rs t = 0) (hu : rowE sig u = 0) : stepE sig rs u = 0 := by
  obtain ⟨h1, h2⟩ := stepE_zero he
  unfold stepE
  rw [if_pos (by simpa [sysB] using h1)]
  exact term_of h2 hu

/-- What Do makes of a redex. -/
theorem do_hit {sig : List Sy} {rs : List Rl} {t : List Int} {x y j : Nat} {r : Rl} {f : Int → Option (List Int)} (he : stepE sig rs t = 0) (hv : VOk sig t (x, y)) (hr : rs[j]? = some r) (hf : Rt sig f) (hs : Sm f r.1 (subL sig t (x : Int))) :
    doR sig rs t (x : Int) (j : Int) = if 512 < x + (laidL (bnd (bindsL f r.1)) r.2).length + (t.length - y) then ([], 2) else (t.take x ++ (laidL (bnd (bindsL f r.1)) r.2 ++ t.drop y), 0) := by
  have ht := (stepE_zero he).2
  have hx : x < t.length := by
    have h1 := hv.1
    have h2 := hv.2.1
    simp only at h1 h2
    omega
  obtain ⟨hl, hr2, _⟩ := rule_of he hr
  unfold doR
  rw [if_pos he, if_pos (place_in ht hx), if_neg (by omega), Int.toNat_natCast, hr]
  exact doK_doc ht hv hl hr2 hf hs

theorem cut_term {t : List Int} {x y : Nat} (h1 : x < y) : t = t.take x ++ ((t.drop x).take (y - x) ++ t.drop y) := by
  have e1 : (t.drop x).take (y - x) ++ t.drop y = t.drop x := by
    have := List.take_append_drop (y - x) (t.drop x)
    rw [List.drop_drop, show x + (y - x) = y by omega] at this
    exact this
  rw [e1, List.take_append_drop]

/-- A term with another part is one. -/
theorem cut_right {sig : List Sy} {t u : List Int} {x y : Nat} (ht : termE sig t = 0) (hv : VOk sig t (x, y)) (hu : rowE sig u = 0) : rowE sig (t.take x ++ (u ++ t.drop y)) = 0 := by
  have h1 := hv.1
  simp only at h1
  have h9 := (term_parts ht).2
  rw [cut_term (t := t) h1] at h9
  exact right_mid (sig_arOk (term_parts ht).1) h9 hv.2.2 hu

/-- A step within a part. -/
theorem do_part {sig : List Sy} {rs : List Rl} {t p u q : List Int} (he : stepE sig rs t = 0) (hu : rowE sig u = 0) (e : t = p ++ (u ++ q)) {z : Rx} (hz : z ∈ allL sig rs u) :
    ((doR sig rs u z.1 z.2).2 = 0 ∧ doR sig rs t (z.1 + (p.length : Int)) z.2 = (replL sig t p.length (doR sig rs u z.1 z.2).1, replE sig t p.length (doR sig rs u z.1 z.2).1)) ∨ ((doR sig rs u z.1 z.2).2 = 2 ∧ (doR sig rs t (z.1 + (p.length : Int)) z.2).2 = 2) := by
  obtain ⟨x, j, r, hx, hr, rfl, hh⟩ := all_mem hz
  obtain ⟨f, hf, hs⟩ := hit_of hh
  have ht := (stepE_zero he).2
  obtain ⟨y, hv1, hv2, hsub⟩ := sub_in ht hu e hx
  have heu := stepE_of he hu
  have d1 := do_hit heu hv1 hr hf hs
  have d2 := do_hit he hv2 hr hf (by rw [hsub]; exact hs)
  obtain ⟨hl, hr2, _⟩ := rule_of he hr
  have hrow := laid_row8 (sig_arOk (term_parts ht).1) hr2 hf hs
  obtain ⟨Q, hQ⟩ : ∃ Q, Q = laidL (bnd (bindsL f r.1)) r.2 := ⟨_, rfl⟩
  rw [← hQ] at d1 d2 hrow
  simp only
  rw [show ((x : Int) + (p.length : Int)) = ((p.length + x : Nat) : Int) by omega, d1, d2]
  have h1 := hv1.1
  have h2 := hv1.2.1
  simp only at h1 h2
  have htl : t.length = p.length + (u.length + q.length) := by rw [e, List.length_append, List.length_append]
  have hwl : (u.take x ++ (Q ++ u.drop y)).length = x + Q.length + (u.length - y) := by
    rw [List.length_append, List.length_append, List.length_take, List.length_drop]
    omega
  by_cases c1 : 512 < x + Q.length + (u.length - y)
  · right
    rw [if_pos c1, if_pos (by omega)]
    exact ⟨rfl, rfl⟩
  · left
    rw [if_neg c1]
    refine ⟨rfl, ?_⟩
    simp only
    have hrr := cut_right (term_of ht hu) hv1 hrow
    have htt := ht
    rw [e] at htt
    obtain ⟨m1, m2⟩ := repl_mid htt hu hrr
    rw [← e] at m1 m2
    rw [m1, m2, hwl]
    by_cases c2 : 512 < p.length + x + Q.length + (t.length - (p.length + y))
    · rw [if_pos c2, if_pos (by omega), if_pos (by omega)]
    · rw [if_neg c2, if_neg (by omega), if_neg (by omega)]
      have a1 : t.take (p.length + x) = p ++ u.take x := by
        rw [e, List.take_append, List.take_of_length_le (by omega), show p.length + x - p.length = x by omega, List.take_append_of_le_length (by omega)]
      have a2 : t.drop (p.length + y) = u.drop y ++ q := by
        rw [e, ← List.drop_drop, List.drop_left, List.drop_append_of_le_length (by omega)]
      rw [a1, a2]
      simp

/-- Binds as a match has them. -/
theorem bnd_binds {f : Int → Option (List Int)} {l : List Int} {c : Int} (hc : c ∈ l) (h0 : c < 0) : bnd (bindsL f l) (-1 - c) = some ((f (-1 - c)).getD []) := by
  unfold bnd
  rw [← look_rise (binds_rise f l)]
  unfold bindsL
  exact binds_look (by rw [sortI_mem, mem_varsL]; exact ⟨c, hc, h0, rfl⟩)

theorem binds_laid {f : Int → Option (List Int)} {l r : List Int} (hl : ∀ c ∈ l, c < 0 → f (-1 - c) ≠ none) (hr : ∀ c ∈ r, c < 0 → c ∈ l) : laidL (bnd (bindsL f l)) r = laidL f r := by
  refine laid_congr fun c hc => ?_
  unfold piece
  by_cases h0 : c < 0
  · rw [if_pos h0, if_pos h0, bnd_binds (hr c hc h0) h0]
    obtain ⟨u, hu⟩ := Option.ne_none_iff_exists'.1 (hl c (hr c hc h0) h0)
    rw [hu]
    rfl
  · rw [if_neg h0, if_neg h0]

/-- Binds one behind the other. -/
def thenF (f g : Int → Option (List Int)) (n : Int) : Option (List Int) := match f n with | some u => some (laidL g u) | none => g n

/-- What matches goes on to match where binds are laid, with binds laid. -/
theorem hit_then {sig : List Sy} (ha : ArOk sig) {l t : List Int} {f g : Int → Option (List Int)} (hf : Rt sig f) (hg : Rt sig g) (hs : Sm f l t) : Rt sig (thenF f g) ∧ Sm (thenF f g) l (laidL g t) ∧ ∀ r : List Int, (∀ c ∈ r, c < 0 → c ∈ l) → laidL (bnd (bindsL (thenF f g) l)) r = laidL g (laidL (bnd (bindsL f l)) r) := by
  have h1 : Rt sig (thenF f g) := fun n u hu => by
    unfold thenF at hu
    cases hfn : f n with
    | none => rw [hfn] at hu; exact hg n u hu
    | some v =>
      rw [hfn] at hu
      simp only [Option.some.injEq] at hu
      rw [← hu]
      exact row_laid ha hg (hf n v hfn)
  have hl : ∀ c ∈ l, c < 0 → thenF f g (-1 - c) ≠ none := fun c hc h0 => by
    unfold thenF
    obtain ⟨u, hu⟩ := Option.ne_none_iff_exists'.1 (hs.1 c hc h0)
    rw [hu]
    simp
  have ha2 := laid_after f g (thenF f g) (fun n => rfl)
  refine ⟨h1, ⟨hl, by rw [ha2, hs.2]⟩, fun r hr => ?_⟩
  rw [binds_laid hl hr, binds_laid hs.1 hr, ha2]

theorem free_vars {l r : List Int} (h : freeB l r = false) : ∀ c ∈ r, c < 0 → c ∈ l := fun c hc h0 => by
  unfold freeB at h
  rw [List.any_eq_false] at h
  have h9 := h (-1 - c) (mem_varsL.2 ⟨c, hc, h0, rfl⟩)
  simp only [Bool.not_eq_true', decide_eq_false_iff_not, Decidable.not_not] at h9
  obtain ⟨d, hd, hd0, he⟩ := mem_varsL.1 h9
  rw [show c = d by omega]
  exact hd

theorem bnd_rightX {sig : List Sy} {b : List Bd} (hb : bindE sig b = 0) : Rt sig (bnd b) := fun n u hu => by
  unfold bindE at hb
  by_cases hs : sigE sig = 0
  · rw [if_pos hs] at hb
    unfold bnd at hu
    have hm := List.mem_reverse.1 (lookup_mem hu)
    exact (term_parts (bind_all sig b none hb _ hm).2).2
  · rw [if_neg hs] at hb
    exact absurd hb hs

theorem whole_ok {sig : List Sy} {t : List Int} (ht : termE sig t = 0) : VOk sig t (0, t.length) := by
  have h1 := right_len (term_parts ht).2
  refine ⟨h1, Nat.le_refl _, ?_⟩
  simp only [List.drop_zero, Nat.sub_zero, List.take_length]
  exact (term_parts ht).2

theorem sub_whole {sig : List Sy} {t : List Int} (ht : termE sig t = 0) : subL sig t ((0 : Nat) : Int) = t := (sub_at (p := []) (q := []) ht (term_parts ht).2 (by simp)).2

/-- A rule that matches at the root, and binds laid. -/
theorem root_binds {sig : List Sy} {rs : List Rl} {t : List Int} {b : List Bd} (he : stepE sig rs t = 0) (ha : applyE sig b t = 0) {z : Rx} (hz : z ∈ allL sig rs t) (h0 : z.1 = 0) :
    stepE sig rs (applyL sig b t) = 0 ∧ z ∈ allL sig rs (applyL sig b t) ∧ ((doR sig rs t z.1 z.2).2 = 0 → (doR sig rs (applyL sig b t) z.1 z.2).2 = 0 → applyE sig b (doR sig rs t z.1 z.2).1 = 0 ∧ applyL sig b (doR sig rs t z.1 z.2).1 = (doR sig rs (applyL sig b t) z.1 z.2).1) := by
  have ht := (stepE_zero he).2
  have hao := sig_arOk (term_parts ht).1
  obtain ⟨hb, _, hl, e⟩ := apply_ok ha
  have hg := bnd_rightX hb
  have hrow : rowE sig (laidL (bnd b) t) = 0 := row_laid hao hg (term_parts ht).2
  rw [e]
  have hes := stepE_of he hrow
  have htu := (stepE_zero hes).2
  obtain ⟨x, j, r, hx, hr, rfl, hh⟩ := all_mem hz
  simp only at h0 ⊢
  obtain rfl : x = 0 := by omega
  obtain ⟨f, hf, hs⟩ := hit_of hh
  have hs0 := hs
  rw [sub_whole ht] at hs0
  obtain ⟨hf1, hs1, hlay⟩ := hit_then hao hf hg hs0
  have hs2 : Sm (thenF f (bnd b)) r.1 (subL sig (laidL (bnd b) t) ((0 : Nat) : Int)) := by rw [sub_whole htu]; exact hs1
  refine ⟨hes, all_has (right_len hrow) hr (hitB_true ⟨_, hf1, hs2⟩), ?_⟩
  have d1 := do_hit he (whole_ok ht) hr hf hs
  have d2 := do_hit hes (whole_ok htu) hr hf1 hs2
  obtain ⟨hl1, hr2, _, _, _, hfree⟩ := rule_of he hr
  have hrw := laid_row8 hao hr2 hf hs0
  have h9 := hlay r.2 (free_vars hfree)
  rw [h9] at d2
  rw [d1, d2]
  obtain ⟨Q, hQ⟩ : ∃ Q, Q = laidL (bnd (bindsL f r.1)) r.2 := ⟨_, rfl⟩
  rw [← hQ] at hrw ⊢
  rw [Nat.sub_self, Nat.sub_self, Nat.zero_add, Nat.zero_add, Nat.add_zero, Nat.add_zero, List.take_zero, List.take_zero, List.drop_length, List.drop_length, List.nil_append, List.nil_append, List.append_nil, List.append_nil]
  by_cases c1 : 512 < Q.length
  · rw [if_pos c1]
    intro h; simp at h
  · rw [if_neg c1]
    by_cases c2 : 512 < (laidL (bnd b) Q).length
    · rw [if_pos c2]
      intro _ h; simp at h
    · rw [if_neg c2]
      intro _ _
      have hQt := term_of ht hrw
      simp only
      unfold applyE applyL
      rw [if_pos hb, if_pos hb, if_pos hQt, if_pos hQt, (lay_eq _ Q).1, (lay_eq _ Q).2, if_neg c2, if_neg c2]
      exact ⟨rfl, rfl⟩

end Go.Proofs.YtgpbnbmjgcchfaaGreatDoor

/- A row of redexes that is read at a place; members of All's row. -/
namespace Go.Proofs.YtgpbnbmjgcchfaaGreatDoor
open Go.RowKit Go.Maps Go.BigFrame

theorem Xs.at {w : World} {ao : Option Addr} {n c k : Nat} {d : List Rx} (h : Xs w (.slice ao n c) d) (hk : k < d.length) : ∃ (g off : Nat) (x1 x2 : Int), ao = some ⟨g, off, none⟩ ∧ d[k]? = some (x1, x2) ∧ w.cell? ⟨g, off + k * 2, none⟩ = some (.int .i64 x1) ∧ w.cell? ⟨g, off + k * 2 + 1, none⟩ = some (.int .i64 x2) := by
  obtain ⟨ao', cap, e, _, _, hh⟩ := h
  cases e
  obtain ⟨g, off, rfl, _, hE⟩ := hh (by omega)
  have hx : d[k]? = some d[k] := List.getElem?_eq_getElem hk
  obtain ⟨h1, h2⟩ := hE k _ hx
  exact ⟨g, off, d[k].1, d[k].2, rfl, hx, h1, h2⟩

theorem any_end {α : Type} [BEq α] [LawfulBEq α] {l : List α} {x : α} (h : x ∈ l) : l.any (· == x) = true := by
  rw [List.any_eq_true]
  exact ⟨x, h, by simp⟩

theorem any_take {α : Type} {l : List α} {p : α → Bool} {k : Nat} {x : α} (h : l[k]? = some x) : (l.take (k + 1)).any p = ((l.take k).any p || p x) := by
  rw [List.take_add_one, h, Option.toList_some, List.any_append]
  simp

/-- What the redexes of all are. -/
theorem allR_mem {sig : List Sy} {rs : List Rl} {t : List Int} {y : Rx} (h : y ∈ allR sig rs t) : stepE sig rs t = 0 ∧ y ∈ allL sig rs t := by
  unfold allR at h
  split at h
  · rename_i he
    exact ⟨he, h⟩
  · cases h

theorem allR_of {sig : List Sy} {rs : List Rl} {t : List Int} (h : stepE sig rs t = 0) : allR sig rs t = allL sig rs t := by
  unfold allR
  rw [if_pos h]

end Go.Proofs.YtgpbnbmjgcchfaaGreatDoor

/- What the document's Laid answers with another bound. -/
namespace Go.Proofs.YtgpbnbmjgcchfaaGreatDoor
open Go.RowKit Go.Maps Go.BigFrame

/-- Laid, as far as a bound. -/
def layM (m : Nat) (f : Int → Option (List Int)) : List Int → List Int → Option (List Int)
  | a, [] => some a
  | a, c :: r => if m < a.length + (piece f c).length then none else layM m f (a ++ piece f c) r

theorem layM_eq (m : Nat) (f : Int → Option (List Int)) : ∀ (t a : List Int), a.length ≤ m → layM m f a t = if m < (a ++ laidL f t).length then none else some (a ++ laidL f t)
  | [], a, ha => by
    have : laidL f [] = [] := rfl
    rw [this, List.append_nil, if_neg (by omega)]
    rfl
  | c :: t, a, ha => by
    have e : laidL f (c :: t) = piece f c ++ laidL f t := by
      unfold laidL
      rw [List.flatMap_cons]
    rw [layM, e]
    by_cases h : m < a.length + (piece f c).length
    · rw [if_pos h, if_pos (by simp; omega)]
    · rw [if_neg h, layM_eq m f t (a ++ piece f c) (by simp; omega), List.append_assoc]

end Go.Proofs.YtgpbnbmjgcchfaaGreatDoor

/- The document's Do of layer 8 walked. -/
namespace Go.Proofs.YtgpbnbmjgcchfaaGreatDoor
open Go.RowKit Go.Maps Go.BigFrame

theorem binds_look8 (f : Int → Option (List Int)) (l : List Int) (n : Int) : (bindsL f l).lookup n = bnd (bindsL f l) n := by
  unfold bnd
  refine look_rise ?_ n
  unfold bindsL
  exact List.Pairwise.map _ (fun a b h => h) (sortI_rise (vars_once l))

/-- The rest of a row, as a slice. -/
theorem is_tail {w : World} {g o y c : Nat} {t : List Int} (h : Is w (.slice (some ⟨g, o, none⟩) t.length c) t) (hy : y ≤ t.length) (hc : t.length ≤ c) : Is w (.slice (if c = y then some ⟨g, o, none⟩ else some ⟨g, o + y, none⟩) (t.length - y) (c - y)) (t.drop y) := by
  by_cases h1 : y < t.length
  · rw [if_neg (by omega)]
    have h9 := h.mid (k := y) (m := t.length - y) h1 (by omega)
    rw [List.take_of_length_le (by rw [List.length_drop]; exact Nat.le_refl _)] at h9
    exact h9
  · have e : t.drop y = [] := List.drop_of_length_le (by omega)
    rw [e, show t.length - y = 0 by omega]
    obtain ⟨_, _, hv, _, hm, _⟩ := h
    simp only [Value.slice.injEq] at hv
    exact Row.nil (by have := hv.2.2; omega)

theorem place_out {sig : List Sy} {t : List Int} {p : Int} (ht : termE sig t = 0) (h : p < 0 ∨ (t.length : Int) ≤ p) : placeE sig t p = 33 := by
  unfold placeE endP
  rw [if_pos ht, if_pos h]

end Go.Proofs.YtgpbnbmjgcchfaaGreatDoor

/- StepDoes walked. -/
namespace Go.Proofs.YtgpbnbmjgcchfaaGreatDoor
open Go.RowKit Go.Maps Go.BigFrame

theorem repl_few (sig : List Sy) (t u : List Int) (p : Int) : (replL sig t p u).length ≤ 512 := by
  unfold replL
  by_cases h : replE sig t p u = 0
  · rw [if_pos h]
    unfold replE at h
    split at h
    · split at h
      · split at h
        · split at h
          · omega
          · rename_i h9
            rw [List.length_append, List.length_append, List.length_take, List.length_drop]
            omega
        · contradiction
      · contradiction
    · contradiction
  · rw [if_neg h]
    simp

theorem doR_few (sig : List Sy) (rs : List Rl) (t : List Int) (p k : Int) : (doR sig rs t p k).1.length ≤ 512 := by
  unfold doR
  split
  · split
    · split
      · simp
      · split
        · simp
        · unfold doK
          split
          · split
            · exact repl_few _ _ _ _
            · simp
          · simp
    · simp
  · simp

end Go.Proofs.YtgpbnbmjgcchfaaGreatDoor

/- StepBinds walked. -/
namespace Go.Proofs.YtgpbnbmjgcchfaaGreatDoor
open Go.RowKit Go.Maps Go.BigFrame

set_option maxRecDepth 100000 in
set_option maxHeartbeats 6400000 in
theorem stepBinds_any (sv rv tv bv : Value) (s : List Sy) (a : List Rl) (t : List Int) (b : List Bd) (w : World) (hs : Sg w sv s) (ha : RU w rv a) (ht : Is w tv t) (hB : Bs w bv b) (hT : Tabs w) (htl : t.length ≤ 1048576) :
    Calls Tryz.prog 4 #[.agg #[sv, rv], tv, bv] w fun e w' => e = .returned (.bool true) ∧ Below w.heap.size w w' := by
  obtain ⟨so, sc, rfl, hso, hsc, _⟩ := Row.flat hs
  obtain ⟨ao, ac, rfl, hao, hac, _⟩ := Row.flat ha
  have HS := hid hs
  have HA := hid ha
  have HTt := hid ht
  have HT := hid hT
  have HBb := hid hB
  clear hs ha ht hT hB
  obtain ⟨wA, hwA⟩ : ∃ X, X = w.alloc (.cells #[.slice so s.length sc, .slice ao a.length ac] 25) := ⟨_, rfl⟩
  have CA : Hid (Below w.heap.size w wA) := by rw [hwA]; exact below_alloc _
  have HC : Hid (∀ W, Below wA.heap.size wA W → W.cell? ⟨w.heap.size, 0, none⟩ = some (.slice so s.length sc) ∧ W.cell? ⟨w.heap.size, 1, none⟩ = some (.slice ao a.length ac)) := fun W hW => by
    have hk := Kp.of_below hW
    rw [hwA] at hk
    exact ⟨hk.cell _ _ (cell_new rfl), hk.cell _ _ (cell_new rfl)⟩
  have HAll : Hid (∀ W (v : Value) (u : List Int), Below w.heap.size w W → Is W v u → u.length ≤ 1048576 → Calls Tryz.prog 9 #[.agg #[.slice so s.length sc, .slice ao a.length ac], v] W fun e w' => ∃ v', e = .returned v' ∧ OX w' W.heap.size v' (allR s a u) ∧ Below W.heap.size W w') := fun W v u hW hv hu =>
    all_any _ _ _ s a u W (HS.out.kp (Kp.of_below hW)) (HA.out.kp (Kp.of_below hW)) hv (HT.out.below hW) hu
  have HDo : Hid (∀ W (v : Value) (u : List Int) (p k : Int), Below w.heap.size w W → Is W v u → u.length ≤ 1048576 → ((-9223372036854775808 ≤ p ∧ p ≤ 9223372036854775807) ∧ -9223372036854775808 ≤ k ∧ k ≤ 9223372036854775807) → Calls Tryz.prog 12 #[.agg #[.slice so s.length sc, .slice ao a.length ac], v, .agg #[.int .i64 p, .int .i64 k]] W fun e w' => ∃ v', e = .returned (.tuple #[v', .int .i64 (doR s a u p k).2]) ∧ OwI w' W.heap.size v' (doR s a u p k).1 ∧ Below W.heap.size W w') := fun W v u p k hW hv hu hb =>
    do_any _ _ _ s a u p k W (HS.out.kp (Kp.of_below hW)) (HA.out.kp (Kp.of_below hW)) hv (HT.out.below hW) hu hb.1.1 hb.1.2 hb.2.1 hb.2.2
  have HAp : Hid (∀ W (v : Value) (u : List Int), Below w.heap.size w W → Is W v u → u.length ≤ 1048576 → Calls Tryz.prog 15 #[.slice so s.length sc, bv, v] W fun e w' => ∃ v', e = .returned (.tuple #[v', .int .i64 (applyE s b u)]) ∧ OwI w' W.heap.size v' (applyL s b u) ∧ Below W.heap.size W w') := fun W v u hW hv hu =>
    apply_any _ _ _ s b u W (HS.out.kp (Kp.of_below hW)) (HBb.out.kp (Kp.of_below hW)) hv (HT.out.below hW) (by omega)
  go_enter Tryz.func4, Tryz.ntmps4
  go_wp2_with fail
  rw [← hwA]
  clear hwA
  refine (shown8_any wA (HT.out.below CA.out)).mono ?_
  rintro e w1 ⟨rfl, hb1⟩
  have D1 := hid hb1
  have C1 := hid (below_step CA.out hb1)
  clear hb1
  obtain ⟨x0, x1⟩ := HC.out w1 D1.out
  go_wp2_with fail
  refine (HAll.out w1 tv t C1.out (HTt.out.kp (Kp.of_below C1.out)) htl).mono ?_
  rintro e w2 ⟨v2, rfl, o2, hb2⟩
  obtain ⟨L, hL⟩ : ∃ L, L = allR s a t := ⟨_, rfl⟩
  rw [← hL] at o2
  have HLe := hid hL
  have HO2 := hid o2.xs
  have HOk := hid o2.1
  have D2 := hid (below_step D1.out hb2)
  have C2 := hid (below_step C1.out hb2)
  obtain ⟨lo, lc, hv2, hlc1, hlc2⟩ := o2.shape
  subst hv2
  unfold maxLen at hlc2
  clear hL o2 hb2 x0 x1
  obtain ⟨x0, x1⟩ := HC.out w2 D2.out
  go_wp2_with fail
  refine (HAp.out w2 tv t C2.out (HTt.out.kp (Kp.of_below C2.out)) htl).mono ?_
  rintro e w3 ⟨v3, rfl, o3, hb3⟩
  have HO3 := hid o3.is
  have D3 := hid (below_step D2.out hb3)
  have C3 := hid (below_step C2.out hb3)
  have J3 := hid hb3
  clear o3 hb3 x0 x1
  by_cases hE : applyE s b t = 0
  · rw [hE]
    obtain ⟨U, hU⟩ : ∃ U, U = applyL s b t := ⟨_, rfl⟩
    rw [← hU] at HO3
    have hUl : U.length ≤ 512 := by
      obtain ⟨_, _, h1, h2⟩ := apply_ok hE
      rw [hU, h2]
      exact h1
    have HU := hid hU
    have HE := hid hE
    clear hU hE
    obtain ⟨x0, x1⟩ := HC.out w3 D3.out
    go_wp2_with fail
    refine (HAll.out w3 v3 U C3.out HO3.out (by omega)).mono ?_
    rintro e w4 ⟨v4, rfl, o4, hb4⟩
    obtain ⟨M, hM⟩ : ∃ M, M = allR s a U := ⟨_, rfl⟩
    rw [← hM] at o4
    have HMe := hid hM
    have HO4 := hid o4.xs
    have D4 := hid (below_step D3.out hb4)
    have C4 := hid (below_step C3.out hb4)
    have J4 := hid hb4
    obtain ⟨mo, mc, hv4, hmc1, hmc2⟩ := o4.shape
    subst hv4
    unfold maxLen at hmc2
    clear hM o4 hb4 x0 x1
    have HL4 := hid (HO2.out.kp (Kp.of_below (below_step J3.out J4.out)))
    have HU4 := hid (HO3.out.kp (Kp.of_below J4.out))
    clear HO2 HO3
    obtain ⟨uo, uc, hv3, _⟩ := HU4.out.flatI
    subst hv3
    go_wp2
    go_loopw [12] (fun iv wr => ∃ i : Nat, i ≤ L.length ∧ iv = .int .i64 i ∧ Below w4.heap.size w4 wr) (fun iv _ => L.length - (intOf iv).toNat)
    case atStart => exact ⟨0, Nat.zero_le _, rfl, Below.refl _ _⟩
    case round =>
      obtain ⟨i, hi, rfl, hbr⟩ := hrel
      have HBr := hid hbr
      have Cr := hid (below_step C4.out hbr)
      have Dr := hid (below_step D4.out hbr)
      clear hbr
      by_cases hlt : i < L.length
      · have hd : decide ((i : Int) < (L.length : Int)) = true := by simpa using hlt
        obtain ⟨g, off, p, k, rfl, hx, hc0, hc1⟩ := (HL4.out.kp (Kp.of_below HBr.out)).at hlt
        have HX := hid hx
        clear hx
        by_cases h0 : p = 0
        · subst h0
          have hp0 : ((0 : Int) == 0) = true := rfl
          have hmem := List.mem_of_getElem? HX.out
          have HZ : Hid (stepE s a t = 0 ∧ (((0, k) : Rx) ∈ M) ∧ ((doR s a t 0 k).2 = 0 → (doR s a U 0 k).2 = 0 → applyE s b (doR s a t 0 k).1 = 0 ∧ applyL s b (doR s a t 0 k).1 = (doR s a U 0 k).1)) := by
            have h9 := hmem
            rw [HLe.out] at h9
            obtain ⟨e1, e2⟩ := allR_mem h9
            obtain ⟨e3, e4, e5⟩ := root_binds e1 HE.out e2 rfl
            rw [← HU.out] at e3 e4 e5
            exact ⟨e1, by rw [HMe.out, allR_of e3]; exact e4, e5⟩
          have hbk := HOk.out _ hmem
          have HBk := hid hbk
          clear hmem hbk
          go_wp2
          go_loopw [13, 14] (fun bv jv wx => ∃ j : Nat, j ≤ M.length ∧ jv = .int .i64 j ∧ bv = .bool ((M.take j).any (· == ((0, k) : Rx))) ∧ ∃ n, wx = wr.drewN n) (fun _ jv _ => M.length - (intOf jv).toNat)
          case atStart => exact ⟨0, Nat.zero_le _, rfl, rfl, 0, rfl⟩
          case round =>
            obtain ⟨j, hj, rfl, rfl, n, rfl⟩ := hrel
            obtain ⟨B, hBe⟩ : ∃ B, B = (M.take j).any (· == ((0, k) : Rx)) := ⟨_, rfl⟩
            rw [← hBe]
            have HBe := hid hBe
            clear hBe
            by_cases hlj : j < M.length
            · have hdj : decide ((j : Int) < (M.length : Int)) = true := by simpa using hlj
              obtain ⟨g', off', y1, y2, rfl, hy, hd0, hd1⟩ := (HO4.out.kp (Kp.of_below HBr.out)).at hlj
              have HY := hid hy
              clear hy
              cases B with
              | true =>
                go_wp2
                go_quiet (fail)
                go_wp2
                go_roundw
                case rel => exact ⟨j + 1, by omega, by go_num, by rw [any_take HY.out, ← HBe.out]; rfl, _, rfl⟩
                case measure => simp [intOf]; omega
              | false =>
                by_cases e1 : y1 = 0
                · subst e1
                  have f1 : ((0 : Int) == 0) = true := rfl
                  by_cases e2 : k = y2
                  · subst e2
                    have f2 : (k == k) = true := by simp
                    go_wp2
                    go_quiet (fail)
                    go_wp2
                    go_roundw
                    case rel => exact ⟨j + 1, by omega, by go_num, by rw [any_take HY.out, ← HBe.out]; simp, _, rfl⟩
                    case measure => simp [intOf]; omega
                  · have f2 : (y2 == k) = false := by rw [beq_eq_false_iff_ne]; exact fun h => e2 h.symm
                    have HF : Hid (((((0 : Int), y2) : Rx) == (0, k)) = false) := by show _ = _; rw [beq_eq_false_iff_ne]; intro h9; cases h9; exact e2 rfl
                    clear e2
                    go_wp2
                    go_quiet (fail)
                    go_wp2
                    go_roundw
                    case rel => exact ⟨j + 1, by omega, by go_num, by rw [any_take HY.out, ← HBe.out, HF.out]; rfl, _, rfl⟩
                    case measure => simp [intOf]; omega
                · have f1 : (y1 == 0) = false := by rw [beq_eq_false_iff_ne]; exact e1
                  have HF : Hid ((((y1, y2) : Rx) == (0, k)) = false) := by show _ = _; rw [beq_eq_false_iff_ne]; intro h9; cases h9; exact e1 rfl
                  clear e1
                  go_wp2
                  go_quiet (fail)
                  go_wp2
                  go_roundw
                  case rel => exact ⟨j + 1, by omega, by go_num, by rw [any_take HY.out, ← HBe.out, HF.out]; rfl, _, rfl⟩
                  case measure => simp [intOf]; omega
            · have hdj : decide ((j : Int) < (M.length : Int)) = false := by simpa using (show ¬ (j : Int) < (M.length : Int) by omega)
              have hBt : B = true := by rw [HBe.out, List.take_of_length_le (by omega)]; exact any_end HZ.out.2.1
              subst hBt
              have q0 := (Kp.of_below (drawn_below (w := wr) (n := n) rfl)).cell _ _ hc0
              have q1 := (Kp.of_below (drawn_below (w := wr) (n := n) rfl)).cell _ _ hc1
              have Cq := hid (below_step Cr.out (drawn_below (n := n) rfl))
              have Dq := hid (below_step Dr.out (drawn_below (n := n) rfl))
              have Bq := hid (below_step HBr.out (drawn_below (n := n) rfl))
              obtain ⟨wq, hwq⟩ : ∃ X, X = wr.drewN n := ⟨_, rfl⟩
              rw [← hwq] at q0 q1 Cq Dq Bq ⊢
              clear hwq hc0 hc1 HBe
              obtain ⟨x0, x1⟩ := HC.out wq Dq.out
              have HCl := hid (HDo.out wq.drew tv t 0 k (below_step Cq.out (drawn_below1 _)) (HTt.out.kp (Kp.of_below (below_step Cq.out (drawn_below1 _)))) htl HBk.out)
              go_upto_region 19 with fail
              go_cut [15, 16] from 75 to 84 (fun x y wx => y = .int .i64 (doR s a t 0 k).2 ∧ Is wx x (doR s a t 0 k).1 ∧ Below wq.heap.size wq wx)
              case first =>
                go_region_with (first
                  | (refine HCl.out.mono ?_; rintro e w5 ⟨v5, rfl, o5, hb5⟩; have HO5 := hid o5.is; have J5 := hid (below_step (Below.refl _ _).drew hb5); clear o5 hb5))
                all_goals (
                  simp only [Act.put, List.getElem_toArray, List.getElem_cons_succ, List.getElem_cons_zero, List.setIfInBounds_toArray, List.set_cons_succ, List.set_cons_zero]
                  go_wp2
                  go_meet
                  case rel => exact ⟨rfl, HO5.out, J5.out⟩)
              obtain ⟨rfl, ho5, hj5⟩ := hcut
              obtain ⟨w5, hw5⟩ : ∃ W, W = wc := ⟨_, rfl⟩
              rw [← hw5] at ho5 hj5 ⊢
              clear hw5 HCl x0 x1
              have HO5 := hid ho5
              have J5 := hid hj5
              have C5 := hid (below_step Cq.out hj5)
              have D5 := hid (below_step Dq.out hj5)
              have q0 := (Kp.of_below J5.out).cell _ _ q0
              have q1 := (Kp.of_below J5.out).cell _ _ q1
              clear ho5 hj5
              obtain ⟨x0, x1⟩ := HC.out w5 D5.out
              have HCl := hid (HDo.out w5.drew _ U 0 k (below_step C5.out (drawn_below1 _)) (HU4.out.kp (Kp.of_below (below_step (below_step Bq.out J5.out) (drawn_below1 _)))) (by omega) HBk.out)
              go_upto_region 20 with fail
              go_cut [17, 18] from 85 to 94 (fun x y wx => y = .int .i64 (doR s a U 0 k).2 ∧ Is wx x (doR s a U 0 k).1 ∧ Below w5.heap.size w5 wx)
              case first =>
                go_region_with (first
                  | (refine HCl.out.mono ?_; rintro e w6 ⟨v6, rfl, o6, hb6⟩; have HO6 := hid o6.is; have J6 := hid (below_step (Below.refl _ _).drew hb6); clear o6 hb6))
                all_goals (
                  simp only [Act.put, List.getElem_toArray, List.getElem_cons_succ, List.getElem_cons_zero, List.setIfInBounds_toArray, List.set_cons_succ, List.set_cons_zero]
                  go_wp2
                  go_meet
                  case rel => exact ⟨rfl, HO6.out, J6.out⟩)
              obtain ⟨rfl, ho6, hj6⟩ := hcut
              obtain ⟨w6, hw6⟩ : ∃ W, W = wc := ⟨_, rfl⟩
              rw [← hw6] at ho6 hj6 ⊢
              clear hw6 HCl x0 x1 q0 q1
              have HO6 := hid ho6
              have J6 := hid hj6
              have C6 := hid (below_step C5.out hj6)
              have D6 := hid (below_step D5.out hj6)
              have B6 := hid (below_step (below_step Bq.out J5.out) hj6)
              have HO56 := hid (HO5.out.kp (Kp.of_below J6.out))
              clear ho6 hj6
              obtain ⟨x0, x1⟩ := HC.out w6 D6.out
              by_cases hE1 : (doR s a t 0 k).2 = 0
              · rw [hE1]
                by_cases hE2 : (doR s a U 0 k).2 = 0
                · rw [hE2]
                  obtain ⟨z1, z2⟩ := HZ.out.2.2 hE1 hE2
                  have hlen := doR_few s a t 0 k
                  have HCl := hid (HAp.out w6 _ _ C6.out HO56.out (by omega))
                  rw [z1, z2] at HCl
                  clear hE1 hE2 z1 z2
                  go_wp2_with fail
                  refine HCl.out.mono ?_
                  rintro e w7 ⟨v7, rfl, o7, hb7⟩
                  have HO7 := hid o7.is
                  have B7 := hid (below_step B6.out hb7)
                  have J7 := hid hb7
                  clear o7 hb7 x0 x1 HCl
                  go_wp2_with fail
                  refine (sameRow8_any _ _ _ _ w7 (HO6.out.kp (Kp.of_below J7.out)) HO7.out).mono ?_
                  rintro e w8 ⟨rfl, n8, hw8⟩
                  have B8 := hid (below_step B7.out (drawn_below hw8))
                  clear hw8
                  rw [decide_eq_true rfl]
                  go_wp2
                  go_roundw
                  case rel => exact ⟨i + 1, by omega, by go_num, B8.out⟩
                  case measure => simp [intOf]; omega
                · have f2 : ((doR s a U 0 k).2 == 0) = false := by rw [beq_eq_false_iff_ne]; exact hE2
                  go_wp2
                  go_roundw
                  case rel => exact ⟨i + 1, by omega, by go_num, B6.out⟩
                  case measure => simp [intOf]; omega
              · have f1 : ((doR s a t 0 k).2 == 0) = false := by rw [beq_eq_false_iff_ne]; exact hE1
                go_wp2
                go_roundw
                case rel => exact ⟨i + 1, by omega, by go_num, B6.out⟩
                case measure => simp [intOf]; omega
        · have hp0 : (p == 0) = false := by rw [beq_eq_false_iff_ne]; exact h0
          go_wp2
          go_ret
          exact ⟨rfl, Cr.out⟩
      · have hd : decide ((i : Int) < (L.length : Int)) = false := by simpa using (show ¬ (i : Int) < (L.length : Int) by omega)
        go_wp2
        go_ret
        exact ⟨rfl, Cr.out⟩
  · have hne : (applyE s b t != 0) = true := by rw [bne_iff_ne]; exact hE
    go_wp2
    go_ret
    exact ⟨rfl, C3.out⟩

end Go.Proofs.YtgpbnbmjgcchfaaGreatDoor
