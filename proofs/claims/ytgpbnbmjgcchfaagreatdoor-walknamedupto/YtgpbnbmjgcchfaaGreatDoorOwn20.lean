/- Texts of the proof, one behind the other. -/
import Derived.Test.YtgpbnbmjgcchfaaGreatDoorOwn12
import Derived.Test.YtgpbnbmjgcchfaaGreatDoorOwn19
import Derived.Test.YtgpbnbmjgcchfaaGreatDoorOwn14
import Derived.Test.YtgpbnbmjgcchfaaGreatDoorOwn18
import Derived.Test.YtgpbnbmjgcchfaaGreatDoorOwn4
/- Rows whose variables are moved, plainly. -/
namespace Go.Proofs.YtgpbnbmjgcchfaaGreatDoor
open Go.RowKit Go.Maps Go.BigFrame

def movL (d : Int) (t : List Int) : List Int := t.map fun c => if c < 0 then c - d else c

theorem mov_ok {d : Int} {t : List Int} (h : okShift d t = true) : shiftE d t = 0 ∧ shiftL d t = movL d t := by
  unfold shiftE shiftL
  rw [if_pos h, if_pos h]
  exact ⟨rfl, rfl⟩

theorem mov_no {d : Int} {t : List Int} (h : ¬ okShift d t = true) : shiftE d t = 40 := by
  unfold shiftE
  rw [if_neg h]

theorem mov_code {sig : List Sy} {d c : Int} (h : c < 0 → isVarB (-1 - c + d) = true) (hc : codeD sig c ≠ none) : codeD sig (if c < 0 then c - d else c) = codeD sig c := by
  by_cases h0 : c < 0
  · rw [if_pos h0]
    have h1 := isVarB_iff.1 (h h0)
    have h2 : ¬ c < -1048576 := fun h2 => hc (codeD_none (.inr h2))
    unfold codeD
    rw [if_neg (by omega), if_pos (by omega), if_neg (by omega), if_pos (by omega)]
  · rw [if_neg h0]

theorem mov_first {sig : List Sy} {d : Int} : ∀ (t : List Int) (m : Int) (i : Nat), okShift d t = true → (∀ c ∈ t, codeD sig c ≠ none) → firstT sig m i (movL d t) = firstT sig m i t
  | [], _, _, _, _ => rfl
  | c :: t, m, i, ho, hc => by
    have h1 : (c < 0 → isVarB (-1 - c + d) = true) ∧ okShift d t = true := by
      unfold okShift at ho ⊢
      rw [List.all_cons, Bool.and_eq_true] at ho
      refine ⟨fun h0 => ?_, ho.2⟩
      have := ho.1
      simpa [h0] using this
    have e : movL d (c :: t) = (if c < 0 then c - d else c) :: movL d t := rfl
    rw [e]
    unfold firstT
    rw [mov_code h1.1 (hc c (by simp))]
    cases codeD sig c with
    | none => rfl
    | some x =>
      simp only
      rw [mov_first t _ _ h1.2 (fun y hy => hc y (by simp [hy]))]

theorem first_codes {sig : List Sy} : ∀ (t : List Int) (m : Int) (i : Nat), firstT sig m i t = ((i : Int) + t.length, 0) → ∀ c ∈ t, codeD sig c ≠ none
  | [], _, _, _, c, hc => by simp at hc
  | a :: t, m, i, h, c, hc => by
    unfold firstT at h
    cases ha : codeD sig a with
    | none => rw [ha] at h; simp at h
    | some x =>
      rw [ha] at h
      simp only at h
      by_cases h0 : m + x = 0
      · rw [if_pos h0] at h
        have h2 := congrArg Prod.fst h
        simp only [List.length_cons] at h2
        have h3 : t.length = 0 := by omega
        obtain rfl := List.eq_nil_of_length_eq_zero h3
        rw [List.mem_singleton] at hc
        subst hc
        rw [ha]
        simp
      · rw [if_neg h0] at h
        rcases List.mem_cons.1 hc with rfl | hc
        · rw [ha]; simp
        · refine first_codes t (m + x) (i + 1) ?_ c hc
          rw [h]
          simp only [List.length_cons]
          congr 1
          push_cast
          omega

theorem mov_row {sig : List Sy} {d : Int} {t : List Int} (ho : okShift d t = true) (h : rowE sig t = 0) : rowE sig (movL d t) = 0 := by
  have h1 := first_right h []
  rw [List.append_nil] at h1
  have h2 := mov_first (sig := sig) t 1 0 ho (first_codes t 1 0 (by rw [h1]; simp))
  unfold rowE at h ⊢
  rw [h2]
  have h3 : (movL d t).length = t.length := by unfold movL; simp
  rw [h3]
  exact h

theorem mov_term {sig : List Sy} {d : Int} {t : List Int} (ho : okShift d t = true) (h : termE sig t = 0) : termE sig (movL d t) = 0 := by
  unfold termE at h ⊢
  by_cases hs : sigE sig = 0
  · rw [if_pos hs] at h ⊢
    exact mov_row ho h
  · rw [if_neg hs] at h
    exact absurd h hs

theorem mov_can {d : Int} {p q : List Int} (h1 : okShift d p = true) (h2 : okShift d q = true) : canL [movL d p, movL d q] = canL [p, q] := by
  refine canL_shift d [p, q] fun t ht c hc h0 => ?_
  have ho : okShift d t = true := by
    simp only [List.mem_cons, List.not_mem_nil, or_false] at ht
    rcases ht with rfl | rfl
    · exact h1
    · exact h2
  have h3 := List.all_eq_true.1 ho c hc
  have h4 : isVarB (-1 - c + d) = true := by simpa [h0] using h3
  exact (isVarB_iff.1 h4).1

end Go.Proofs.YtgpbnbmjgcchfaaGreatDoor

/- Innermost paths, plainly. -/
namespace Go.Proofs.YtgpbnbmjgcchfaaGreatDoor
open Go.RowKit Go.Maps Go.BigFrame

theorem rows_one {sig : List Sy} : ∀ (us vs : List (List Int)), (∀ u ∈ us, rowE sig u = 0) → (∀ v ∈ vs, rowE sig v = 0) → us.length = vs.length → us.flatten = vs.flatten → us = vs
  | [], [], _, _, _, _ => rfl
  | [], v :: vs, _, _, h, _ => by simp at h
  | u :: us, [], _, _, h, _ => by simp at h
  | u :: us, v :: vs, hu, hv, hl, he => by
    rw [List.flatten_cons, List.flatten_cons] at he
    have h1 := first_right (hu u (by simp)) us.flatten
    have h2 := first_right (hv v (by simp)) vs.flatten
    rw [he, h2] at h1
    simp only [Prod.mk.injEq, and_true] at h1
    obtain ⟨e1, e2⟩ := List.append_inj he (by omega)
    rw [e1, rows_one us vs (fun x hx => hu x (by simp [hx])) (fun x hx => hv x (by simp [hx])) (by simpa using hl) e2]

theorem pv_inv {sig : List Sy} {u : List Int} {a : Nat} {vs : List (Nat × Nat)} (h : Pv sig u a vs) : ∃ (c : Int) (us : List (List Int)) (vss : List (List (Nat × Nat))), u = c :: us.flatten ∧ vs = vss.flatten ++ [(a, a + 1 + us.flatten.length)] ∧ (us.length : Int) = arC sig c ∧ vss.length = us.length ∧ rowE sig u = 0 ∧ ∀ (i : Nat) (u : List Int) (v : List (Nat × Nat)), us[i]? = some u → vss[i]? = some v → Pv sig u (a + 1 + (us.take i).flatten.length) v := by
  cases h with
  | mk c us a vss hc hn hv hr h => exact ⟨c, us, vss, rfl, rfl, hn, hv, hr, h⟩

theorem pv_right {sig : List Sy} {u : List Int} {a : Nat} {vs : List (Nat × Nat)} (h : Pv sig u a vs) : rowE sig u = 0 := by
  obtain ⟨_, _, _, _, _, _, _, hr, _⟩ := pv_inv h
  exact hr

/-- There is one way to go through a term. -/
theorem pv_one {sig : List Sy} {u : List Int} {a : Nat} {vs : List (Nat × Nat)} (h : Pv sig u a vs) : ∀ vs', Pv sig u a vs' → vs = vs' := by
  induction h with
  | mk c us a vss hc hn hv hr h ih =>
    intro vs' h'
    obtain ⟨c', us', vss', e, rfl, hn', hv', _, hh⟩ := pv_inv h'
    obtain ⟨rfl, e2⟩ := List.cons.inj e
    have hus : ∀ u ∈ us, rowE sig u = 0 := fun u hu => by
      obtain ⟨i, hi⟩ := List.getElem?_of_mem hu
      have hil := (List.getElem?_eq_some_iff.1 hi).1
      exact pv_right (h i u _ hi (List.getElem?_eq_getElem (by omega)))
    have hus' : ∀ u ∈ us', rowE sig u = 0 := fun u hu => by
      obtain ⟨i, hi⟩ := List.getElem?_of_mem hu
      have hil := (List.getElem?_eq_some_iff.1 hi).1
      exact pv_right (hh i u _ hi (List.getElem?_eq_getElem (by omega)))
    obtain rfl := rows_one us us' hus hus' (by omega) e2
    obtain rfl : vss = vss' := by
      apply List.ext_getElem (by omega)
      intro i h1 h2
      have hi : us[i]? = some us[i] := List.getElem?_eq_getElem (by omega)
      exact ih i _ _ hi (List.getElem?_eq_getElem h1) _ (hh i _ _ hi (List.getElem?_eq_getElem h2))
    rfl

/-- The first redex of a term. -/
noncomputable def fsO (sig : List Sy) (rs : List Rl) (t : List Int) : Option Rx :=
  @dite _ (∃ vs, Pv sig t 0 vs) (Classical.propDecidable _) (fun h => if (Classical.choose h).any (stopF sig rs t) = true then some (fstV sig rs t (upto (stopF sig rs t) (Classical.choose h))) else none) (fun _ => none)

theorem fsO_eq {sig : List Sy} {rs : List Rl} {t : List Int} {vs : List (Nat × Nat)} (h : Pv sig t 0 vs) : fsO sig rs t = if vs.any (stopF sig rs t) = true then some (fstV sig rs t (upto (stopF sig rs t) vs)) else none := by
  have h9 : ∃ vs, Pv sig t 0 vs := ⟨vs, h⟩
  unfold fsO
  rw [dif_pos h9, ← pv_one h _ (Classical.choose_spec h9)]

theorem upto_last {s : Nat × Nat → Bool} : ∀ {a : List (Nat × Nat)}, a.any s = true → ∃ (A : List (Nat × Nat)) (v : Nat × Nat), upto s a = A ++ [v] ∧ s v = true ∧ v ∈ a
  | [], h => by simp at h
  | v :: a, h => by
    cases hv : s v with
    | true => exact ⟨[], v, by rw [upto, hv]; rfl, hv, by simp⟩
    | false =>
      rw [List.any_cons, hv, Bool.false_or] at h
      obtain ⟨A, x, h1, h2, h3⟩ := upto_last h
      exact ⟨v :: A, x, by rw [upto, hv, h1]; rfl, h2, by simp [h3]⟩

theorem idx_hit {sig : List Sy} {part : List Int} : ∀ (rs : List Rl) (k : Nat), 0 ≤ idxL sig part k rs → ∃ (j : Nat) (r : Rl), idxL sig part k rs = ((k + j : Nat) : Int) ∧ rs[j]? = some r ∧ hitB sig r.1 part = true
  | [], k, h => by unfold idxL at h; omega
  | r :: rs, k, h => by
    unfold idxL at h ⊢
    by_cases hb : hitB sig r.1 part = true
    · rw [if_pos hb]
      exact ⟨0, r, rfl, rfl, hb⟩
    · rw [if_neg hb] at h ⊢
      obtain ⟨j, r', h1, h2, h3⟩ := idx_hit rs (k + 1) h
      exact ⟨j + 1, r', by rw [h1]; congr 1; omega, by simpa using h2, h3⟩

/-- What the first redex is. -/
theorem fsO_some {sig : List Sy} {rs : List Rl} {t : List Int} {z : Rx} (he : stepE sig rs t = 0) (h : fsO sig rs t = some z) : ∃ (x y j : Nat) (r : Rl) (f : Int → Option (List Int)), z = ((x : Int), (j : Int)) ∧ VOk sig t (x, y) ∧ rs[j]? = some r ∧ Rt sig f ∧ Sm f r.1 (subL sig t (x : Int)) := by
  have ht := (stepE_zero he).2
  obtain ⟨vs, hpv⟩ := pv_any (sig_arOk (term_parts ht).1) t.length t 0 (Nat.le_refl _) (term_parts ht).2
  rw [fsO_eq hpv] at h
  by_cases ha : vs.any (stopF sig rs t) = true
  · rw [if_pos ha] at h
    obtain ⟨A, v, h1, h2, h3⟩ := upto_last ha
    have hi : ¬ idxL sig (partV t v) 0 rs < 0 := by simpa [stopF] using h2
    rw [h1, fstV_snoc, if_neg hi] at h
    obtain ⟨j, r, h4, h5, h6⟩ := idx_hit (sig := sig) (part := partV t v) rs 0 (by omega)
    have hv := pv_ok hpv t [] [] (by simp) rfl v h3
    obtain ⟨f, hf, hs⟩ := hit_of h6
    rw [part_sub ht hv] at hs
    simp only [Option.some.injEq] at h
    exact ⟨v.1, v.2, j, r, f, by rw [← h, h4, Nat.zero_add], hv, h5, hf, hs⟩
  · rw [if_neg ha] at h
    cases h

/-- A step at the first redex. -/
theorem do_first {sig : List Sy} {rs : List Rl} {t : List Int} {z : Rx} (he : stepE sig rs t = 0) (h : fsO sig rs t = some z) : ((doR sig rs t z.1 z.2).2 = 0 ∧ stepE sig rs (doR sig rs t z.1 z.2).1 = 0 ∧ (doR sig rs t z.1 z.2).1.length ≤ 512) ∨ doR sig rs t z.1 z.2 = ([], 2) := by
  obtain ⟨x, y, j, r, f, rfl, hv, hr, hf, hs⟩ := fsO_some he h
  have d := do_hit he hv hr hf hs
  obtain ⟨_, hr2, _⟩ := rule_of he hr
  have ht := (stepE_zero he).2
  have hrow := laid_row8 (sig_arOk (term_parts ht).1) hr2 hf hs
  simp only
  by_cases c1 : 512 < x + (laidL (bnd (bindsL f r.1)) r.2).length + (t.length - y)
  · right
    rw [d, if_pos c1]
  · left
    rw [d, if_neg c1]
    refine ⟨rfl, stepE_of he (cut_right ht hv hrow), ?_⟩
    simp only [List.length_append, List.length_take, List.length_drop]
    omega

/-- The innermost path, at most so many steps: the redexes, the last term, whether that is a normal form; none: a term that is too big. -/
noncomputable def goW (sig : List Sy) (rs : List Rl) : Nat → List Int → Option (List Rx × List Int × Bool)
  | 0, t => some ([], t, (fsO sig rs t).isNone)
  | n + 1, t => match fsO sig rs t with
    | none => some ([], t, true)
    | some x => if (doR sig rs t x.1 x.2).2 = 0 then (goW sig rs n (doR sig rs t x.1 x.2).1).map fun r => (x :: r.1, r.2) else none

theorem go_none {sig : List Sy} {rs : List Rl} {t : List Int} (n : Nat) (h : fsO sig rs t = none) : goW sig rs n t = some ([], t, true) := by
  cases n with
  | zero => unfold goW; rw [h]; rfl
  | succ n => unfold goW; rw [h]

theorem go_step {sig : List Sy} {rs : List Rl} {t : List Int} {x : Rx} (n : Nat) (h : fsO sig rs t = some x) (h0 : (doR sig rs t x.1 x.2).2 = 0) : goW sig rs (n + 1) t = (goW sig rs n (doR sig rs t x.1 x.2).1).map fun r => (x :: r.1, r.2) := by
  rw [goW, h]
  simp only
  rw [if_pos h0]

theorem go_big {sig : List Sy} {rs : List Rl} {t : List Int} {x : Rx} (n : Nat) (h : fsO sig rs t = some x) (h0 : ¬ (doR sig rs t x.1 x.2).2 = 0) : goW sig rs (n + 1) t = none := by
  rw [goW, h]
  simp only
  rw [if_neg h0]

theorem go_some {sig : List Sy} {rs : List Rl} {t : List Int} {n : Nat} {S : List Rx} {E : List Int} {b : Bool} {x : Rx} (h : fsO sig rs t = some x) (hg : goW sig rs (n + 1) t = some (S, E, b)) : (doR sig rs t x.1 x.2).2 = 0 ∧ ∃ S', S = x :: S' ∧ goW sig rs n (doR sig rs t x.1 x.2).1 = some (S', E, b) := by
  by_cases h0 : (doR sig rs t x.1 x.2).2 = 0
  · rw [go_step n h h0] at hg
    cases hr : goW sig rs n (doR sig rs t x.1 x.2).1 with
    | none => rw [hr] at hg; cases hg
    | some r =>
      rw [hr] at hg
      simp only [Option.map_some, Option.some.injEq, Prod.mk.injEq] at hg
      exact ⟨h0, r.1, hg.1.symm, by rw [← hg.2]⟩
  · rw [go_big n h h0] at hg
    cases hg

/-- The end of a path. -/
theorem go_end {sig : List Sy} {rs : List Rl} : ∀ (n : Nat) (t : List Int) (S : List Rx) (E : List Int) (b : Bool), stepE sig rs t = 0 → t.length ≤ 512 → goW sig rs n t = some (S, E, b) → S.length ≤ n ∧ (b = false → S.length = n) ∧ b = (fsO sig rs E).isNone ∧ stepE sig rs E = 0 ∧ E.length ≤ 512
  | 0, t, S, E, b, he, hl, h => by
    unfold goW at h
    simp only [Option.some.injEq, Prod.mk.injEq] at h
    obtain ⟨rfl, rfl, rfl⟩ := h
    exact ⟨Nat.le_refl _, fun _ => rfl, rfl, he, hl⟩
  | n + 1, t, S, E, b, he, hl, h => by
    cases hf : fsO sig rs t with
    | none =>
      rw [go_none _ hf] at h
      simp only [Option.some.injEq, Prod.mk.injEq] at h
      obtain ⟨rfl, rfl, rfl⟩ := h
      exact ⟨Nat.zero_le _, fun h => (by cases h), by rw [hf]; rfl, he, hl⟩
    | some x =>
      obtain ⟨h0, S', rfl, h1⟩ := go_some hf h
      rcases do_first he hf with ⟨_, a1, a2⟩ | h9
      · obtain ⟨b1, b2, b3⟩ := go_end n _ S' E b a1 a2 h1
        exact ⟨by simp only [List.length_cons]; omega, fun hb => by rw [List.length_cons, b2 hb], b3⟩
      · rw [h9] at h0
        cases h0

/-- A shorter path is a beginning of a longer one, and from its end on it goes on. -/
theorem go_parts {sig : List Sy} {rs : List Rl} : ∀ (k n : Nat) (t : List Int) (S : List Rx) (E : List Int) (b : Bool), stepE sig rs t = 0 → t.length ≤ 512 → k ≤ n → goW sig rs n t = some (S, E, b) →
    ∃ (S1 S2 : List Rx) (E1 : List Int) (b1 : Bool), goW sig rs k t = some (S1, E1, b1) ∧ S = S1 ++ S2 ∧ goW sig rs (n - S1.length) E1 = some (S2, E, b) ∧ S1.length ≤ k ∧ (S2 ≠ [] → S1.length = k) ∧ stepE sig rs E1 = 0 ∧ E1.length ≤ 512
  | 0, n, t, S, E, b, he, hl, _, h => ⟨[], S, t, _, by unfold goW; rfl, rfl, h, Nat.le_refl _, fun _ => rfl, he, hl⟩
  | k + 1, 0, t, S, E, b, he, hl, hk, h => by omega
  | k + 1, n + 1, t, S, E, b, he, hl, hk, h => by
    cases hf : fsO sig rs t with
    | none =>
      have h9 := h
      rw [go_none _ hf] at h
      simp only [Option.some.injEq, Prod.mk.injEq] at h
      obtain ⟨rfl, rfl, rfl⟩ := h
      exact ⟨[], [], t, true, go_none _ hf, rfl, h9, Nat.zero_le _, fun h => absurd rfl h, he, hl⟩
    | some x =>
      obtain ⟨h0, S', rfl, h1⟩ := go_some hf h
      rcases do_first he hf with ⟨_, a1, a2⟩ | h9
      · obtain ⟨S1, S2, E1, b1, c1, rfl, c3, c4, c5, c6⟩ := go_parts k n _ S' E b a1 a2 (by omega) h1
        exact ⟨x :: S1, S2, E1, b1, by rw [go_step k hf h0, c1]; rfl, rfl, by rw [List.length_cons, Nat.add_sub_add_right]; exact c3, by rw [List.length_cons]; omega, fun h => by rw [List.length_cons, c5 h], c6⟩
      · rw [h9] at h0
        cases h0

/-- Steps that are told. -/
noncomputable def alongR (sig : List Sy) (rs : List Rl) : Nat → List Int → List Rx → List Int × Int × Int
  | _, t, [] => (t, 0, 0)
  | i, t, x :: l => if (doR sig rs t x.1 x.2).2 = 0 then alongR sig rs (i + 1) (doR sig rs t x.1 x.2).1 l else ([], (doR sig rs t x.1 x.2).2, (i : Int))

/-- A path's steps come to its end. -/
theorem go_along {sig : List Sy} {rs : List Rl} : ∀ (n : Nat) (t : List Int) (S : List Rx) (E : List Int) (b : Bool) (i : Nat), goW sig rs n t = some (S, E, b) → alongR sig rs i t S = (E, 0, 0)
  | 0, t, S, E, b, i, h => by
    unfold goW at h
    simp only [Option.some.injEq, Prod.mk.injEq] at h
    obtain ⟨rfl, rfl, rfl⟩ := h
    rfl
  | n + 1, t, S, E, b, i, h => by
    cases hf : fsO sig rs t with
    | none =>
      rw [go_none _ hf] at h
      simp only [Option.some.injEq, Prod.mk.injEq] at h
      obtain ⟨rfl, rfl, rfl⟩ := h
      rfl
    | some x =>
      obtain ⟨h0, S', rfl, h1⟩ := go_some hf h
      rw [alongR, if_pos h0]
      exact go_along n _ S' E b (i + 1) h1

/-- A path that is cut off at a step. -/
theorem go_more {sig : List Sy} {rs : List Rl} {n : Nat} {t u : List Int} {S : List Rx} {x : Rx} (h : goW sig rs (n + S.length + 1) t = (goW sig rs (n + 1) u).map fun r => (S ++ r.1, r.2)) (hf : fsO sig rs u = some x) (h0 : (doR sig rs u x.1 x.2).2 = 0) :
    goW sig rs (n + S.length + 1) t = (goW sig rs n (doR sig rs u x.1 x.2).1).map fun r => ((S ++ [x]) ++ r.1, r.2) := by
  rw [h, go_step n hf h0, Option.map_map]
  congr 1
  funext r
  simp

theorem okShift_iff {d : Int} {t : List Int} : okShift d t = true ↔ ∀ c ∈ t, c < 0 → isVarB (-1 - c + d) = true := by
  unfold okShift
  rw [List.all_eq_true]
  refine ⟨fun h c hc h0 => ?_, fun h c hc => ?_⟩
  · have h9 := h c hc
    simpa [h0] using h9
  · by_cases h0 : c < 0
    · simp [h c hc h0]
    · simp [h0]

/-- A variable moved, as binds. -/
def mvF (d : Int) (n : Int) : Option (List Int) := if isVarB (n + d) = true then some [-1 - (n + d)] else none

theorem mvF_right {sig : List Sy} (d : Int) : Rt sig (mvF d) := fun n u hu => by
  unfold mvF at hu
  by_cases h : isVarB (n + d) = true
  · rw [if_pos h] at hu
    simp only [Option.some.injEq] at hu
    obtain ⟨h1, h2⟩ := isVarB_iff.1 h
    rw [← hu]
    exact row_var (by omega) (by omega)
  · rw [if_neg h] at hu
    cases hu

theorem laid_mov {d : Int} : ∀ {t : List Int}, okShift d t = true → laidL (mvF d) t = movL d t
  | [], _ => rfl
  | c :: t, h => by
    rw [okShift_iff] at h
    have h1 := laid_mov (t := t) (okShift_iff.2 fun x hx => h x (by simp [hx]))
    rw [laidL_cons, h1]
    unfold movL
    rw [List.map_cons]
    have h2 : piece (mvF d) c = [if c < 0 then c - d else c] := by
      unfold piece
      by_cases h0 : c < 0
      · rw [if_pos h0, if_pos h0]
        unfold mvF
        rw [if_pos (h c (by simp) h0)]
        simp only [Option.getD_some, List.cons.injEq, and_true]
        omega
      · rw [if_neg h0, if_neg h0]
    rw [h2]
    rfl

theorem mov_back {sig : List Sy} {d : Int} {t : List Int} (h : okShift d t = true) (hr : rowE sig t = 0) : okShift (-d) (movL d t) = true ∧ movL (-d) (movL d t) = t := by
  rw [okShift_iff] at h
  constructor
  · rw [okShift_iff]
    intro c hc h0
    unfold movL at hc
    obtain ⟨x, hx, rfl⟩ := List.mem_map.1 hc
    by_cases hx0 : x < 0
    · rw [if_pos hx0] at h0 ⊢
      have h1 := codes_of hr hx
      exact isVarB_iff.2 ⟨by omega, by omega⟩
    · rw [if_neg hx0] at h0
      omega
  · unfold movL
    rw [List.map_map]
    have e : t.map id = t := List.map_id t
    conv => rhs; rw [← e]
    refine List.map_congr_left fun x hx => ?_
    simp only [Function.comp, id]
    by_cases hx0 : x < 0
    · have h1 := isVarB_iff.1 (h x hx hx0)
      rw [if_pos hx0, if_pos (by omega)]
      omega
    · rw [if_neg hx0, if_neg hx0]

theorem hit_mov {sig : List Sy} (ha : ArOk sig) {d : Int} {l t : List Int} (h : okShift d t = true) (hr : rowE sig t = 0) : hitB sig l (movL d t) = hitB sig l t := by
  have key : ∀ (d : Int) (t : List Int), okShift d t = true → Hit sig l t → Hit sig l (movL d t) := fun d t h ⟨f, hf, hs⟩ => by
    obtain ⟨h1, h2, _⟩ := hit_then ha hf (mvF_right d) hs
    rw [laid_mov h] at h2
    exact ⟨_, h1, h2⟩
  by_cases hh : Hit sig l t
  · rw [hitB_true hh, hitB_true (key d t h hh)]
  · rw [hitB_false hh, hitB_false fun h9 => hh ?_]
    obtain ⟨b1, b2⟩ := mov_back h hr
    have h8 := key (-d) _ b1 h9
    rw [b2] at h8
    exact h8

theorem idx_mov {sig : List Sy} (ha : ArOk sig) {d : Int} {t : List Int} (h : okShift d t = true) (hr : rowE sig t = 0) : ∀ (rs : List Rl) (k : Nat), idxL sig (movL d t) k rs = idxL sig t k rs
  | [], _ => rfl
  | r :: rs, k => by
    unfold idxL
    rw [hit_mov ha h hr, idx_mov ha h hr rs (k + 1)]

theorem part_mov (d : Int) (t : List Int) (v : Nat × Nat) : partV (movL d t) v = movL d (partV t v) := by
  unfold partV movL
  rw [← List.map_drop, ← List.map_take]

theorem ok_part {d : Int} {t : List Int} (h : okShift d t = true) {u : List Int} (hu : ∀ c ∈ u, c ∈ t) : okShift d u = true := okShift_iff.2 fun c hc h0 => okShift_iff.1 h c (hu c hc) h0

theorem mem_part {t : List Int} {v : Nat × Nat} : ∀ c ∈ partV t v, c ∈ t := fun c hc => by
  unfold partV at hc
  exact List.mem_of_mem_drop (List.mem_of_mem_take hc)

theorem mov_len (d : Int) (t : List Int) : (movL d t).length = t.length := by unfold movL; rw [List.length_map]

theorem mov_flat (d : Int) : ∀ us : List (List Int), movL d us.flatten = (us.map (movL d)).flatten
  | [] => rfl
  | u :: us => by
    rw [List.map_cons, List.flatten_cons, List.flatten_cons, ← mov_flat d us]
    unfold movL
    rw [List.map_append]

theorem pv_mov {sig : List Sy} {d : Int} {u : List Int} {a : Nat} {vs : List (Nat × Nat)} (h : Pv sig u a vs) : okShift d u = true → Pv sig (movL d u) a vs := by
  induction h with
  | mk c us a vss hc hn hv hr h ih =>
    intro ho
    have hrow := mov_row ho hr
    have e : movL d (c :: us.flatten) = (if c < 0 then c - d else c) :: (us.map (movL d)).flatten := by
      rw [← mov_flat]
      rfl
    have hlen : (us.map (movL d)).flatten.length = us.flatten.length := by rw [← mov_flat, mov_len]
    rw [e] at hrow ⊢
    have hc0 : c < 0 → c - d < 0 := fun h0 => by
      have := isVarB_iff.1 (okShift_iff.1 ho c (by simp) h0)
      omega
    rw [← hlen]
    refine Pv.mk _ (us.map (movL d)) a vss ?_ ?_ (by rw [List.length_map]; exact hv) hrow (fun i u v hu hv => ?_)
    · split
      · rename_i h0
        have := hc0 h0
        omega
      · exact hc
    · rw [List.length_map, hn]
      unfold arC
      by_cases h0 : c < 0
      · rw [if_pos h0, if_pos h0, if_pos (hc0 h0)]
      · rw [if_neg h0, if_neg h0, if_neg h0]
    · rw [List.getElem?_map] at hu
      cases hui : us[i]? with
      | none => rw [hui] at hu; cases hu
      | some x =>
        rw [hui] at hu
        simp only [Option.map_some, Option.some.injEq] at hu
        subst hu
        rw [← List.map_take, ← mov_flat, mov_len]
        exact ih i x v hui hv (ok_part ho fun c hc => List.mem_cons_of_mem _ (List.mem_flatten.2 ⟨x, List.mem_of_getElem? hui, hc⟩))

theorem stop_mov {sig : List Sy} {rs : List Rl} (ha : ArOk sig) {d : Int} {t : List Int} (h : okShift d t = true) {v : Nat × Nat} (hv : VOk sig t v) : stopF sig rs (movL d t) v = stopF sig rs t v ∧ idxL sig (partV (movL d t) v) 0 rs = idxL sig (partV t v) 0 rs := by
  have h9 := idx_mov ha (ok_part h (u := partV t v) mem_part) hv.2.2 rs 0
  unfold stopF
  rw [part_mov, h9]
  exact ⟨rfl, rfl⟩

theorem upto_congr {s s' : Nat × Nat → Bool} : ∀ {a : List (Nat × Nat)}, (∀ v ∈ a, s v = s' v) → upto s a = upto s' a
  | [], _ => rfl
  | v :: a, h => by
    rw [upto, upto, h v (by simp), upto_congr fun x hx => h x (by simp [hx])]

theorem upto_sub {s : Nat × Nat → Bool} : ∀ {a : List (Nat × Nat)}, ∀ v ∈ upto s a, v ∈ a
  | [], v, h => by cases h
  | x :: a, v, h => by
    rw [upto] at h
    rcases List.mem_cons.1 h with h | h
    · rw [h]; simp
    · split at h
      · cases h
      · exact List.mem_cons_of_mem _ (upto_sub v h)

theorem fst_congr {sig : List Sy} {rs : List Rl} {t u : List Int} {vs : List (Nat × Nat)} (h : ∀ v ∈ vs, idxL sig (partV u v) 0 rs = idxL sig (partV t v) 0 rs) : fstV sig rs u vs = fstV sig rs t vs := by
  unfold fstV
  generalize ((0, 0) : Rx) = a
  induction vs generalizing a with
  | nil => rfl
  | cons v vs ih =>
    rw [List.foldl_cons, List.foldl_cons, h v (by simp)]
    exact ih (fun x hx => h x (by simp [hx])) _

theorem any_congr2 {α : Type} {l : List α} {p q : α → Bool} (h : ∀ a ∈ l, p a = q a) : l.any p = l.any q := by
  induction l with
  | nil => rfl
  | cons a l ih => rw [List.any_cons, List.any_cons, h a (by simp), ih fun x hx => h x (by simp [hx])]

theorem fsO_mov {sig : List Sy} {rs : List Rl} {d : Int} {t : List Int} (he : stepE sig rs t = 0) (h : okShift d t = true) : fsO sig rs (movL d t) = fsO sig rs t := by
  have ht := (stepE_zero he).2
  have ha := sig_arOk (term_parts ht).1
  obtain ⟨vs, hpv⟩ := pv_any ha t.length t 0 (Nat.le_refl _) (term_parts ht).2
  have hv := pv_ok hpv t [] [] (by simp) rfl
  rw [fsO_eq hpv, fsO_eq (pv_mov hpv h), any_congr2 fun v hm => (stop_mov (rs := rs) ha h (hv v hm)).1, upto_congr fun v hm => (stop_mov (rs := rs) ha h (hv v hm)).1, fst_congr fun v hm => (stop_mov ha h (hv v (upto_sub v hm))).2]

theorem laid_mem {f : Int → Option (List Int)} {l r : List Int} (hr : ∀ c ∈ r, c < 0 → c ∈ l) {c : Int} (hc : c ∈ laidL f r) (h0 : c < 0) : c ∈ laidL f l := by
  unfold laidL at hc ⊢
  obtain ⟨x, hx, hcx⟩ := List.mem_flatMap.1 hc
  by_cases hx0 : x < 0
  · exact List.mem_flatMap.2 ⟨x, hr x hx hx0, hcx⟩
  · unfold piece at hcx
    rw [if_neg hx0, List.mem_singleton] at hcx
    omega

/-- A step of a term with its variables moved. -/
theorem do_mov {sig : List Sy} {rs : List Rl} {d : Int} {t : List Int} {z : Rx} (he : stepE sig rs t = 0) (h : okShift d t = true) (hz : fsO sig rs t = some z) : doR sig rs (movL d t) z.1 z.2 = (movL d (doR sig rs t z.1 z.2).1, (doR sig rs t z.1 z.2).2) ∧ okShift d (doR sig rs t z.1 z.2).1 = true := by
  obtain ⟨x, y, j, r, f, rfl, hv, hr, hf, hs⟩ := fsO_some he hz
  have ht := (stepE_zero he).2
  have ha := sig_arOk (term_parts ht).1
  have hem := stepE_of he (mov_row h (term_parts ht).2)
  have htm := (stepE_zero hem).2
  have hvm : VOk sig (movL d t) (x, y) := ⟨hv.1, by rw [mov_len]; exact hv.2.1, by
    have h9 := mov_row (ok_part h (u := partV t (x, y)) mem_part) hv.2.2
    rw [← part_mov] at h9
    exact h9⟩
  have hsub := part_sub ht hv
  have hsubm := part_sub htm hvm
  simp only at hsub hsubm
  have hsm : Sm (thenF f (mvF d)) r.1 (subL sig (movL d t) (x : Int)) := by
    have h9 := (hit_then ha hf (mvF_right d) hs).2.1
    rw [← hsubm, part_mov, ← laid_mov (ok_part h (u := partV t (x, y)) mem_part), hsub]
    exact h9
  obtain ⟨_, hr2, _, _, _, hfree⟩ := rule_of he hr
  have hfv := free_vars hfree
  have d1 := do_hit he hv hr hf hs
  have d2 := do_hit hem hvm hr (hit_then ha hf (mvF_right d) hs).1 hsm
  rw [(hit_then ha hf (mvF_right d) hs).2.2 r.2 hfv] at d2
  have hQ : okShift d (laidL (bnd (bindsL f r.1)) r.2) = true := okShift_iff.2 fun c hc h0 => by
    rw [binds_laid hs.1 hfv] at hc
    have h9 := laid_mem hfv hc h0
    rw [hs.2, ← hsub] at h9
    exact okShift_iff.1 h c (mem_part c h9) h0
  rw [laid_mov hQ] at d2
  obtain ⟨Q, hQe⟩ : ∃ Q, Q = laidL (bnd (bindsL f r.1)) r.2 := ⟨_, rfl⟩
  rw [← hQe] at d1 d2 hQ
  simp only
  rw [d1, d2, mov_len, mov_len]
  by_cases c1 : 512 < x + Q.length + (t.length - y)
  · rw [if_pos c1, if_pos c1]
    exact ⟨rfl, rfl⟩
  · rw [if_neg c1, if_neg c1]
    refine ⟨?_, ok_part (t := Q ++ t) (okShift_iff.2 fun c hc h0 => ?_) fun c hc => ?_⟩
    · simp only [Prod.mk.injEq, and_true]
      unfold movL
      rw [List.map_append, List.map_append, List.map_take, List.map_drop]
    · rcases List.mem_append.1 hc with hc | hc
      · exact okShift_iff.1 hQ c hc h0
      · exact okShift_iff.1 h c hc h0
    · rcases List.mem_append.1 hc with hc | hc
      · exact List.mem_append_right _ (List.mem_of_mem_take hc)
      · rcases List.mem_append.1 hc with hc | hc
        · exact List.mem_append_left _ hc
        · exact List.mem_append_right _ (List.mem_of_mem_drop hc)

/-- A path of a term with its variables moved. -/
theorem go_mov {sig : List Sy} {rs : List Rl} {d : Int} : ∀ (n : Nat) (t : List Int), stepE sig rs t = 0 → okShift d t = true → goW sig rs n (movL d t) = ((goW sig rs n t).map fun r => (r.1, movL d r.2.1, r.2.2)) ∧ ∀ r, goW sig rs n t = some r → okShift d r.2.1 = true
  | 0, t, he, h => by
    unfold goW
    rw [fsO_mov he h]
    exact ⟨rfl, fun r hr => by cases hr; exact h⟩
  | n + 1, t, he, h => by
    have hm := fsO_mov he h
    cases hf : fsO sig rs t with
    | none =>
      rw [hf] at hm
      rw [go_none _ hf, go_none _ hm]
      exact ⟨rfl, fun r hr => by cases hr; exact h⟩
    | some x =>
      rw [hf] at hm
      obtain ⟨d1, d2⟩ := do_mov he h hf
      by_cases h0 : (doR sig rs t x.1 x.2).2 = 0
      · have h1 : (doR sig rs (movL d t) x.1 x.2).2 = 0 := by rw [d1]; exact h0
        rw [go_step n hf h0, go_step n hm h1, d1]
        rcases do_first he hf with ⟨_, a1, _⟩ | h9
        · obtain ⟨i1, i2⟩ := go_mov n _ a1 d2
          constructor
          · simp only
            rw [i1, Option.map_map, Option.map_map]
            rfl
          · intro r hr
            cases hg : goW sig rs n (doR sig rs t x.1 x.2).1 with
            | none => rw [hg] at hr; cases hr
            | some q =>
              rw [hg] at hr
              simp only [Option.map_some, Option.some.injEq] at hr
              rw [← hr]
              exact i2 q hg
        · rw [h9] at h0
          cases h0
      · have h1 : ¬ (doR sig rs (movL d t) x.1 x.2).2 = 0 := by rw [d1]; exact h0
        rw [go_big n hf h0, go_big n hm h1]
        exact ⟨rfl, fun r hr => by cases hr⟩

end Go.Proofs.YtgpbnbmjgcchfaaGreatDoor

/- The examples of layer 8: the system, and what comes out, plainly. -/
namespace Go.Proofs.YtgpbnbmjgcchfaaGreatDoor
open Go.RowKit Go.Maps Go.BigFrame

def sumR0 : Rl := ([2, 0, -1], [-1])
def sumR1 : Rl := ([2, 1, -1, -2], [1, 2, -1, -2])

theorem heap_newg8 {w : World} {o : Obj} {g : Nat} (h : g = w.heap.size) : (w.alloc o).heap[g]? = some o := by
  subst h
  exact heap_alloc_new _ _

/-- Two rules in a block. -/
theorem ru_lit8 {W : World} {g : Nat} {a0 a1 a2 a3 : Option Addr} {n0 n1 n2 n3 c0 c1 c2 c3 : Nat} {p q r s : List Int} (h0 : W.cell? ⟨g, 0, none⟩ = some (.slice a0 n0 c0)) (h1 : W.cell? ⟨g, 1, none⟩ = some (.slice a1 n1 c1)) (h2 : W.cell? ⟨g, 2, none⟩ = some (.slice a2 n2 c2)) (h3 : W.cell? ⟨g, 3, none⟩ = some (.slice a3 n3 c3))
    (i0 : Is W (.slice a0 n0 c0) p) (i1 : Is W (.slice a1 n1 c1) q) (i2 : Is W (.slice a2 n2 c2) r) (i3 : Is W (.slice a3 n3 c3) s) (l0 : p.length ≤ 99) (l1 : q.length ≤ 99) (l2 : r.length ≤ 99) (l3 : s.length ≤ 99) : RU W (.slice (some ⟨g, 0, none⟩) 2 2) [(p, q), (r, s)] := by
  refine ⟨some ⟨g, 0, none⟩, 2, rfl, Nat.le_refl _, by unfold maxLen; omega, fun _ => ⟨g, 0, rfl, World.block_lt_of_cell? _ _ h0, fun k x hk => ?_⟩⟩
  match k, hk with
  | 0, hk =>
    cases hk
    exact ⟨by simp only; omega, by simp only; omega, _, _, h0, h1, i0, i1⟩
  | 1, hk =>
    cases hk
    exact ⟨by simp only; omega, by simp only; omega, _, _, h2, h3, i2, i3⟩
  | k + 2, hk => simp at hk

theorem results_one8 {P : Program} {fn : Func} {w : World} {tmps : Array Value} {t : Tmp} {ty : TypeId} {ad : Addr} {v : Value} (h : fn.results = #[.cell t ty]) (ht : tmps.getD t undef = .pointer (some ad)) (hl : (loadVar ty ad).run P w = .ok v w) : (results fn tmps).run P w = .ok v w := by
  have ht2 : tmps[t]?.getD undef = .pointer (some ad) := by simpa using ht
  simp [results, h, ht2, hl, asAddr]

set_option maxRecDepth 100000 in
set_option maxHeartbeats 1600000 in
theorem sums_any (w : World) :
    Calls Tryz.prog 25 #[] w fun e w' => ∃ sv rv, e = .returned (.agg #[sv, rv]) ∧ Sg w' sv sumS ∧ RU w' rv [sumR0, sumR1] ∧ Below w.heap.size w w' := by
  go_enter Tryz.func25, Tryz.ntmps25
  go_wp2
  generalize hW : World.alloc _ _ = W
  have hsz : W.heap.size = w.heap.size + 7 := by rw [← hW]; simp
  have hb : Below w.heap.size w W := by
    rw [← hW]
    exact below_step (below_step (below_step (below_step (below_step (below_step (below_alloc _) (below_alloc _)) (below_alloc _)) (below_alloc _)) (below_alloc _)) (below_alloc _)) (below_alloc _)
  have k0 : W.cell? ⟨w.heap.size, 0, none⟩ = some (.slice (some ⟨w.heap.size + 1, 0, none⟩) 3 3) := by rw [← hW]; repeat (first | (refine cell_newg ?_ rfl; simp; done) | refine cell_old ?_)
  have k1 : W.cell? ⟨w.heap.size, 1, none⟩ = some (.slice (some ⟨w.heap.size + 6, 0, none⟩) 2 2) := by rw [← hW]; repeat (first | (refine cell_newg ?_ rfl; simp; done) | refine cell_old ?_)
  have hS : Sg W (.slice (some ⟨w.heap.size + 1, 0, none⟩) 3 3) sumS := by
    refine sg_lit (p := sumS) (by omega) (by decide) ⟨⟨by decide, by decide, by decide, ?_, ?_⟩, ⟨by decide, by decide, by decide, ?_, ?_⟩, ⟨by decide, by decide, by decide, ?_, ?_⟩, trivial⟩ <;> (rw [← hW]; repeat (first | (refine cell_newg ?_ rfl; simp; done) | refine cell_old ?_))
  have i0 : Is W (.slice (some ⟨w.heap.size + 2, 0, none⟩) 3 3) [2, 0, -1] := by
    refine is_lit (p := [2, 0, -1]) (by omega) (by decide) ⟨ei (by omega) (by omega) ?_, ei (by omega) (by omega) ?_, ei (by omega) (by omega) ?_, trivial⟩ <;> (rw [← hW]; repeat (first | (refine cell_newg ?_ rfl; simp; done) | refine cell_old ?_))
  have i1 : Is W (.slice (some ⟨w.heap.size + 3, 0, none⟩) 1 1) [-1] := by
    refine is_lit (p := [-1]) (by omega) (by decide) ⟨ei (by omega) (by omega) ?_, trivial⟩ <;> (rw [← hW]; repeat (first | (refine cell_newg ?_ rfl; simp; done) | refine cell_old ?_))
  have i2 : Is W (.slice (some ⟨w.heap.size + 4, 0, none⟩) 4 4) [2, 1, -1, -2] := by
    refine is_lit (p := [2, 1, -1, -2]) (by omega) (by decide) ⟨ei (by omega) (by omega) ?_, ei (by omega) (by omega) ?_, ei (by omega) (by omega) ?_, ei (by omega) (by omega) ?_, trivial⟩ <;> (rw [← hW]; repeat (first | (refine cell_newg ?_ rfl; simp; done) | refine cell_old ?_))
  have i3 : Is W (.slice (some ⟨w.heap.size + 5, 0, none⟩) 4 4) [1, 2, -1, -2] := by
    refine is_lit (p := [1, 2, -1, -2]) (by omega) (by decide) ⟨ei (by omega) (by omega) ?_, ei (by omega) (by omega) ?_, ei (by omega) (by omega) ?_, ei (by omega) (by omega) ?_, trivial⟩ <;> (rw [← hW]; repeat (first | (refine cell_newg ?_ rfl; simp; done) | refine cell_old ?_))
  have hR : W.heap[w.heap.size + 6]? = some (.cells #[.slice (some ⟨w.heap.size + 2, 0, none⟩) 3 3, .slice (some ⟨w.heap.size + 3, 0, none⟩) 1 1, .slice (some ⟨w.heap.size + 4, 0, none⟩) 4 4, .slice (some ⟨w.heap.size + 5, 0, none⟩) 4 4] 64) := by
    rw [← hW]
    exact heap_newg8 (by simp)
  have hRU : RU W (.slice (some ⟨w.heap.size + 6, 0, none⟩) 2 2) [sumR0, sumR1] := ru_lit8 (cell_of_row _ _ _ _ _ _ hR) (cell_of_row _ _ _ _ _ _ hR) (cell_of_row _ _ _ _ _ _ hR) (cell_of_row _ _ _ _ _ _ hR) i0 i1 i2 i3 (by decide) (by decide) (by decide) (by decide)
  clear hW
  refine bodyPost_ret (results_one8 rfl rfl ?_) rfl ⟨_, _, rfl, hS, hRU, hb⟩
  go_simp

theorem no_hit {sig : List Sy} {l t : List Int} (h : begB l t = false) : hitB sig l t = false := hitB_false fun h9 => by rw [hit_beg l t h9] at h; cases h

theorem hit0 : Hit sumS [2, 0, -1] [2, 0, 0] := by
  refine ⟨fun n => if n = 0 then some [0] else none, fun n u h => ?_, fun c hc h0 => ?_, by decide⟩
  · simp only at h
    split at h
    · cases h
      kernel_rfl
    · cases h
  · simp only [List.mem_cons, List.not_mem_nil, or_false] at hc
    rcases hc with rfl | rfl | rfl
    · omega
    · omega
    · decide

theorem rt1 : Rt sumS (fun n => if n = 0 ∨ n = 1 then some [0] else none) := fun n u h => by
  simp only at h
  split at h
  · cases h
    kernel_rfl
  · cases h

theorem sm1 : Sm (fun n => if n = 0 ∨ n = 1 then some [0] else none) [2, 1, -1, -2] [2, 1, 0, 0] := by
  refine ⟨fun c hc h0 => ?_, by decide⟩
  simp only [List.mem_cons, List.not_mem_nil, or_false] at hc
  rcases hc with rfl | rfl | rfl | rfl
  · omega
  · omega
  · decide
  · decide

theorem sh8_step1 : stepE sumS [sumR0, sumR1] [2, 2, 0, 0, 2, 0, 0] = 0 := by kernel_rfl
theorem sh8_step2 : stepE sumS [sumR0, sumR1] [2, 0, 2, 1, 0, 0] = 0 := by kernel_rfl
theorem sh8_step3 : stepE sumS [sumR0, sumR1] [1, 0] = 0 := by kernel_rfl
theorem sh8_step4 : stepE sumS [sumR0, sumR1] [2, 1, 0, 0] = 0 := by kernel_rfl

theorem red_none {part : List Int} {x k : Nat} (h0 : begB [2, 0, -1] part = false) (h1 : begB [2, 1, -1, -2] part = false) : redL sumS part x k [sumR0, sumR1] = [] := by
  unfold redL redL redL sumR0 sumR1
  simp only
  rw [no_hit h0, no_hit h1]
  rfl

theorem red_zero {x : Nat} : redL sumS [2, 0, 0] x 0 [sumR0, sumR1] = [((x : Int), 0)] := by
  unfold redL redL redL sumR0 sumR1
  simp only
  rw [hitB_true hit0, no_hit (show begB [2, 1, -1, -2] [2, 0, 0] = false by decide)]
  rfl

theorem sh8_all : allR sumS [sumR0, sumR1] [2, 2, 0, 0, 2, 0, 0] = [(1, 0), (4, 0)] := by
  unfold allR
  rw [if_pos sh8_step1]
  unfold allL
  have e0 : subL sumS [2, 2, 0, 0, 2, 0, 0] ((0 : Nat) : Int) = [2, 2, 0, 0, 2, 0, 0] := by kernel_rfl
  have e1 : subL sumS [2, 2, 0, 0, 2, 0, 0] ((1 : Nat) : Int) = [2, 0, 0] := by kernel_rfl
  have e2 : subL sumS [2, 2, 0, 0, 2, 0, 0] ((2 : Nat) : Int) = [0] := by kernel_rfl
  have e3 : subL sumS [2, 2, 0, 0, 2, 0, 0] ((3 : Nat) : Int) = [0] := by kernel_rfl
  have e4 : subL sumS [2, 2, 0, 0, 2, 0, 0] ((4 : Nat) : Int) = [2, 0, 0] := by kernel_rfl
  have e5 : subL sumS [2, 2, 0, 0, 2, 0, 0] ((5 : Nat) : Int) = [0] := by kernel_rfl
  have e6 : subL sumS [2, 2, 0, 0, 2, 0, 0] ((6 : Nat) : Int) = [0] := by kernel_rfl
  show ([0, 1, 2, 3, 4, 5, 6] : List Nat).flatMap (fun (x : Nat) => redL sumS (subL sumS [2, 2, 0, 0, 2, 0, 0] (x : Int)) x 0 [sumR0, sumR1]) = _
  simp only [List.flatMap_cons, List.flatMap_nil]
  rw [e0, e1, e2, e3, e4, e5, e6, red_zero, red_zero, red_none (by decide) (by decide), red_none (by decide) (by decide), red_none (by decide) (by decide), red_none (by decide) (by decide), red_none (by decide) (by decide)]
  rfl

theorem pv_leaf (a : Nat) : Pv sumS [0] a [(a, a + 1)] := Pv.mk (sig := sumS) 0 [] a [] (by decide) (by kernel_rfl) rfl (by kernel_rfl) (fun i u v h => by simp at h)

theorem pv_s (a : Nat) : Pv sumS [1, 0] a [(a + 1, a + 2), (a, a + 2)] := Pv.mk (sig := sumS) 1 [[0]] a [[(a + 1, a + 2)]] (by decide) (by kernel_rfl) rfl (by kernel_rfl) (fun i u v hu hv => by
  match i, hu, hv with
  | 0, hu, hv =>
    cases hu
    cases hv
    exact pv_leaf (a + 1)
  | i + 1, hu, _ => simp at hu)

theorem pv_p (a : Nat) : Pv sumS [2, 1, 0, 0] a [(a + 2, a + 3), (a + 1, a + 3), (a + 3, a + 4), (a, a + 4)] := Pv.mk (sig := sumS) 2 [[1, 0], [0]] a [[(a + 2, a + 3), (a + 1, a + 3)], [(a + 3, a + 4)]] (by decide) (by kernel_rfl) rfl (by kernel_rfl) (fun i u v hu hv => by
  match i, hu, hv with
  | 0, hu, hv =>
    cases hu
    cases hv
    exact pv_s (a + 1)
  | 1, hu, hv =>
    cases hu
    cases hv
    exact pv_leaf (a + 3)
  | i + 2, hu, _ => simp at hu)

theorem pv_t : Pv sumS [2, 0, 2, 1, 0, 0] 0 [(1, 2), (4, 5), (3, 5), (5, 6), (2, 6), (0, 6)] := Pv.mk (sig := sumS) 2 [[0], [2, 1, 0, 0]] 0 [[(1, 2)], [(4, 5), (3, 5), (5, 6), (2, 6)]] (by decide) (by kernel_rfl) rfl (by kernel_rfl) (fun i u v hu hv => by
  match i, hu, hv with
  | 0, hu, hv =>
    cases hu
    cases hv
    exact pv_leaf 1
  | 1, hu, hv =>
    cases hu
    cases hv
    exact pv_p 2
  | i + 2, hu, _ => simp at hu)

theorem idx_none {part : List Int} {k : Nat} (h0 : begB [2, 0, -1] part = false) (h1 : begB [2, 1, -1, -2] part = false) : idxL sumS part k [sumR0, sumR1] = -1 := by
  unfold idxL idxL idxL sumR0 sumR1
  simp only
  rw [no_hit h0, no_hit h1]
  rfl

theorem idx_one : idxL sumS [2, 1, 0, 0] 0 [sumR0, sumR1] = 1 := by
  unfold idxL idxL idxL sumR0 sumR1
  simp only
  rw [no_hit (show begB [2, 0, -1] [2, 1, 0, 0] = false by decide), hitB_true ⟨_, rt1, sm1⟩]
  rfl

theorem stop_none {t : List Int} {v : Nat × Nat} (h0 : begB [2, 0, -1] (partV t v) = false) (h1 : begB [2, 1, -1, -2] (partV t v) = false) : stopF sumS [sumR0, sumR1] t v = false := by
  unfold stopF
  rw [idx_none h0 h1]
  rfl

theorem part_p : partV [2, 0, 2, 1, 0, 0] (2, 6) = [2, 1, 0, 0] := by kernel_rfl

theorem stop_p : stopF sumS [sumR0, sumR1] [2, 0, 2, 1, 0, 0] (2, 6) = true := by
  unfold stopF
  rw [part_p, idx_one]
  rfl

theorem sh8_first : fstV sumS [sumR0, sumR1] [2, 0, 2, 1, 0, 0] (upto (stopF sumS [sumR0, sumR1] [2, 0, 2, 1, 0, 0]) [(1, 2), (4, 5), (3, 5), (5, 6), (2, 6), (0, 6)]) = (2, 1) ∧ ([(1, 2), (4, 5), (3, 5), (5, 6), (2, 6), (0, 6)] : List (Nat × Nat)).any (stopF sumS [sumR0, sumR1] [2, 0, 2, 1, 0, 0]) = true := by
  have n1 : stopF sumS [sumR0, sumR1] [2, 0, 2, 1, 0, 0] (1, 2) = false := stop_none (by decide) (by decide)
  have n2 : stopF sumS [sumR0, sumR1] [2, 0, 2, 1, 0, 0] (4, 5) = false := stop_none (by decide) (by decide)
  have n3 : stopF sumS [sumR0, sumR1] [2, 0, 2, 1, 0, 0] (3, 5) = false := stop_none (by decide) (by decide)
  have n4 : stopF sumS [sumR0, sumR1] [2, 0, 2, 1, 0, 0] (5, 6) = false := stop_none (by decide) (by decide)
  constructor
  · simp only [upto, n1, n2, n3, n4, stop_p]
    show fstV _ _ _ ([(1, 2), (4, 5), (3, 5), (5, 6)] ++ [(2, 6)]) = _
    rw [fstV_snoc, part_p, idx_one]
    rfl
  · simp only [List.any_cons, n1, n2, n3, n4, stop_p, Bool.false_or, Bool.true_or]

theorem sh8_second : ([(1, 2), (0, 2)] : List (Nat × Nat)).any (stopF sumS [sumR0, sumR1] [1, 0]) = false := by
  have n1 : stopF sumS [sumR0, sumR1] [1, 0] (1, 2) = false := stop_none (by decide) (by decide)
  have n2 : stopF sumS [sumR0, sumR1] [1, 0] (0, 2) = false := stop_none (by decide) (by decide)
  simp only [List.any_cons, n1, n2, List.any_nil, Bool.false_or]

theorem binds1 : bindsL (fun n => if n = 0 ∨ n = 1 then some [0] else none) [2, 1, -1, -2] = [(0, [0]), (1, [0])] := by
  unfold bindsL
  have h2 : varsL [2, 1, -1, -2] = [0, 1] := by kernel_rfl
  have h3 : sortI [0, 1] = [0, 1] := by
    unfold sortI
    exact List.mergeSort_of_pairwise (by simp)
  rw [h2, h3]
  decide

theorem sh8_do1 : doR sumS [sumR0, sumR1] [2, 1, 0, 0] 0 1 = ([1, 2, 0, 0], 0) := by
  unfold doR
  have hp : placeE sumS [2, 1, 0, 0] 0 = 0 := by kernel_rfl
  have hs : subL sumS [2, 1, 0, 0] 0 = [2, 1, 0, 0] := by kernel_rfl
  rw [if_pos sh8_step4, if_pos hp, if_neg (by decide)]
  show doK sumS [2, 1, 0, 0] 0 sumR1 = _
  unfold doK sumR1
  simp only
  rw [hs, hitB_true ⟨_, rt1, sm1⟩, if_pos rfl, hitBd_eq rt1 sm1, binds1]
  have ha : applyE sumS [(0, [0]), (1, [0])] [1, 2, -1, -2] = 0 := by kernel_rfl
  have hl : applyL sumS [(0, [0]), (1, [0])] [1, 2, -1, -2] = [1, 2, 0, 0] := by kernel_rfl
  rw [if_pos ha, hl]
  have h1 : replL sumS [2, 1, 0, 0] 0 [1, 2, 0, 0] = [1, 2, 0, 0] := by kernel_rfl
  have h2 : replE sumS [2, 1, 0, 0] 0 [1, 2, 0, 0] = 0 := by kernel_rfl
  rw [h1, h2]

theorem sh8_do2 : doR sumS [sumR0, sumR1] [2, 1, 0, 0] 0 0 = ([], 80) := by
  unfold doR
  have hp : placeE sumS [2, 1, 0, 0] 0 = 0 := by kernel_rfl
  have hs : subL sumS [2, 1, 0, 0] 0 = [2, 1, 0, 0] := by kernel_rfl
  rw [if_pos sh8_step4, if_pos hp, if_neg (by decide)]
  show doK sumS [2, 1, 0, 0] 0 sumR0 = _
  unfold doK sumR0
  simp only
  rw [hs, no_hit (by decide), if_neg (by simp)]

theorem sh8_do3 : doR sumS [sumR0, sumR1] [2, 1, 0, 0] 4 1 = ([], 33) := by
  unfold doR
  have hp : placeE sumS [2, 1, 0, 0] 4 = 33 := by kernel_rfl
  rw [if_pos sh8_step4, hp, if_neg (by decide)]

theorem sh8_do4 : doR sumS [sumR0, sumR1] [2, 1, 0, 0] 0 2 = ([], 1) := by
  unfold doR
  have hp : placeE sumS [2, 1, 0, 0] 0 = 0 := by kernel_rfl
  rw [if_pos sh8_step4, if_pos hp, if_neg (by decide)]
  rfl

end Go.Proofs.YtgpbnbmjgcchfaaGreatDoor

/- The examples of layer 9, plainly; its system. -/
namespace Go.Proofs.YtgpbnbmjgcchfaaGreatDoor
open Go.RowKit Go.Maps Go.BigFrame

def adR0 : Rl := ([2, 0, -2], [-2])

set_option maxRecDepth 100000 in
set_option maxHeartbeats 1600000 in
theorem adds_any (w : World) :
    Calls Tryz.prog 46 #[] w fun e w' => ∃ sv rv, e = .returned (.agg #[sv, rv]) ∧ Sg w' sv sumS ∧ RU w' rv [adR0, sumR1] ∧ Below w.heap.size w w' := by
  go_enter Tryz.func46, Tryz.ntmps46
  go_wp2
  generalize hW : World.alloc _ _ = W
  have hsz : W.heap.size = w.heap.size + 7 := by rw [← hW]; simp
  have hb : Below w.heap.size w W := by
    rw [← hW]
    exact below_step (below_step (below_step (below_step (below_step (below_step (below_alloc _) (below_alloc _)) (below_alloc _)) (below_alloc _)) (below_alloc _)) (below_alloc _)) (below_alloc _)
  have k0 : W.cell? ⟨w.heap.size, 0, none⟩ = some (.slice (some ⟨w.heap.size + 1, 0, none⟩) 3 3) := by rw [← hW]; repeat (first | (refine cell_newg ?_ rfl; simp; done) | refine cell_old ?_)
  have k1 : W.cell? ⟨w.heap.size, 1, none⟩ = some (.slice (some ⟨w.heap.size + 6, 0, none⟩) 2 2) := by rw [← hW]; repeat (first | (refine cell_newg ?_ rfl; simp; done) | refine cell_old ?_)
  have hS : Sg W (.slice (some ⟨w.heap.size + 1, 0, none⟩) 3 3) sumS := by
    refine sg_lit (p := sumS) (by omega) (by decide) ⟨⟨by decide, by decide, by decide, ?_, ?_⟩, ⟨by decide, by decide, by decide, ?_, ?_⟩, ⟨by decide, by decide, by decide, ?_, ?_⟩, trivial⟩ <;> (rw [← hW]; repeat (first | (refine cell_newg ?_ rfl; simp; done) | refine cell_old ?_))
  have i0 : Is W (.slice (some ⟨w.heap.size + 2, 0, none⟩) 3 3) [2, 0, -2] := by
    refine is_lit (p := [2, 0, -2]) (by omega) (by decide) ⟨ei (by omega) (by omega) ?_, ei (by omega) (by omega) ?_, ei (by omega) (by omega) ?_, trivial⟩ <;> (rw [← hW]; repeat (first | (refine cell_newg ?_ rfl; simp; done) | refine cell_old ?_))
  have i1 : Is W (.slice (some ⟨w.heap.size + 3, 0, none⟩) 1 1) [-2] := by
    refine is_lit (p := [-2]) (by omega) (by decide) ⟨ei (by omega) (by omega) ?_, trivial⟩ <;> (rw [← hW]; repeat (first | (refine cell_newg ?_ rfl; simp; done) | refine cell_old ?_))
  have i2 : Is W (.slice (some ⟨w.heap.size + 4, 0, none⟩) 4 4) [2, 1, -1, -2] := by
    refine is_lit (p := [2, 1, -1, -2]) (by omega) (by decide) ⟨ei (by omega) (by omega) ?_, ei (by omega) (by omega) ?_, ei (by omega) (by omega) ?_, ei (by omega) (by omega) ?_, trivial⟩ <;> (rw [← hW]; repeat (first | (refine cell_newg ?_ rfl; simp; done) | refine cell_old ?_))
  have i3 : Is W (.slice (some ⟨w.heap.size + 5, 0, none⟩) 4 4) [1, 2, -1, -2] := by
    refine is_lit (p := [1, 2, -1, -2]) (by omega) (by decide) ⟨ei (by omega) (by omega) ?_, ei (by omega) (by omega) ?_, ei (by omega) (by omega) ?_, ei (by omega) (by omega) ?_, trivial⟩ <;> (rw [← hW]; repeat (first | (refine cell_newg ?_ rfl; simp; done) | refine cell_old ?_))
  have hR : W.heap[w.heap.size + 6]? = some (.cells #[.slice (some ⟨w.heap.size + 2, 0, none⟩) 3 3, .slice (some ⟨w.heap.size + 3, 0, none⟩) 1 1, .slice (some ⟨w.heap.size + 4, 0, none⟩) 4 4, .slice (some ⟨w.heap.size + 5, 0, none⟩) 4 4] 64) := by
    rw [← hW]
    exact heap_newg8 (by simp)
  have hRU : RU W (.slice (some ⟨w.heap.size + 6, 0, none⟩) 2 2) [adR0, sumR1] := ru_lit8 (cell_of_row _ _ _ _ _ _ hR) (cell_of_row _ _ _ _ _ _ hR) (cell_of_row _ _ _ _ _ _ hR) (cell_of_row _ _ _ _ _ _ hR) i0 i1 i2 i3 (by decide) (by decide) (by decide) (by decide)
  clear hW
  refine bodyPost_ret (results_one8 rfl rfl ?_) rfl ⟨_, _, rfl, hS, hRU, hb⟩
  go_simp

theorem w_step1 : stepE sumS [adR0, sumR1] [2, 1, 0, 1, 0] = 0 := by kernel_rfl
theorem w_step2 : stepE sumS [adR0, sumR1] [1, 2, 0, 1, 0] = 0 := by kernel_rfl
theorem w_step3 : stepE sumS [adR0, sumR1] [1, 1, 0] = 0 := by kernel_rfl

theorem pv_w1 : Pv sumS [2, 1, 0, 1, 0] 0 [(2, 3), (1, 3), (4, 5), (3, 5), (0, 5)] := Pv.mk (sig := sumS) 2 [[1, 0], [1, 0]] 0 [[(2, 3), (1, 3)], [(4, 5), (3, 5)]] (by decide) (by kernel_rfl) rfl (by kernel_rfl) (fun i u v hu hv => by
  match i, hu, hv with
  | 0, hu, hv =>
    cases hu
    cases hv
    exact pv_s 1
  | 1, hu, hv =>
    cases hu
    cases hv
    exact pv_s 3
  | i + 2, hu, _ => simp at hu)

theorem pv_w0 : Pv sumS [2, 0, 1, 0] 1 [(2, 3), (4, 5), (3, 5), (1, 5)] := Pv.mk (sig := sumS) 2 [[0], [1, 0]] 1 [[(2, 3)], [(4, 5), (3, 5)]] (by decide) (by kernel_rfl) rfl (by kernel_rfl) (fun i u v hu hv => by
  match i, hu, hv with
  | 0, hu, hv =>
    cases hu
    cases hv
    exact pv_leaf 2
  | 1, hu, hv =>
    cases hu
    cases hv
    exact pv_s 3
  | i + 2, hu, _ => simp at hu)

theorem pv_w2 : Pv sumS [1, 2, 0, 1, 0] 0 [(2, 3), (4, 5), (3, 5), (1, 5), (0, 5)] := Pv.mk (sig := sumS) 1 [[2, 0, 1, 0]] 0 [[(2, 3), (4, 5), (3, 5), (1, 5)]] (by decide) (by kernel_rfl) rfl (by kernel_rfl) (fun i u v hu hv => by
  match i, hu, hv with
  | 0, hu, hv =>
    cases hu
    cases hv
    exact pv_w0
  | i + 1, hu, _ => simp at hu)

theorem pv_w3 : Pv sumS [1, 1, 0] 0 [(2, 3), (1, 3), (0, 3)] := Pv.mk (sig := sumS) 1 [[1, 0]] 0 [[(2, 3), (1, 3)]] (by decide) (by kernel_rfl) rfl (by kernel_rfl) (fun i u v hu hv => by
  match i, hu, hv with
  | 0, hu, hv =>
    cases hu
    cases hv
    exact pv_s 1
  | i + 1, hu, _ => simp at hu)

theorem w_none {part : List Int} {k : Nat} (h0 : begB [2, 0, -2] part = false) (h1 : begB [2, 1, -1, -2] part = false) : idxL sumS part k [adR0, sumR1] = -1 := by
  unfold idxL idxL idxL adR0 sumR1
  simp only
  rw [no_hit h0, no_hit h1]
  rfl

theorem w_stop {t : List Int} {v : Nat × Nat} (h0 : begB [2, 0, -2] (partV t v) = false) (h1 : begB [2, 1, -1, -2] (partV t v) = false) : stopF sumS [adR0, sumR1] t v = false := by
  unfold stopF
  rw [w_none h0 h1]
  rfl

/-- The binds of the first step. -/
def wF1 (n : Int) : Option (List Int) := if n = 0 then some [0] else if n = 1 then some [1, 0] else none

/-- The binds of the second step. -/
def wF0 (n : Int) : Option (List Int) := if n = 1 then some [1, 0] else none

theorem w_rt1 : Rt sumS wF1 := fun n u h => by
  unfold wF1 at h
  split at h
  · cases h
    kernel_rfl
  · split at h
    · cases h
      kernel_rfl
    · cases h

theorem w_rt0 : Rt sumS wF0 := fun n u h => by
  unfold wF0 at h
  split at h
  · cases h
    kernel_rfl
  · cases h

theorem w_sm1 : Sm wF1 [2, 1, -1, -2] [2, 1, 0, 1, 0] := by
  refine ⟨fun c hc h0 => ?_, by decide⟩
  simp only [List.mem_cons, List.not_mem_nil, or_false] at hc
  rcases hc with rfl | rfl | rfl | rfl
  · omega
  · omega
  · decide
  · decide

theorem w_sm0 : Sm wF0 [2, 0, -2] [2, 0, 1, 0] := by
  refine ⟨fun c hc h0 => ?_, by decide⟩
  simp only [List.mem_cons, List.not_mem_nil, or_false] at hc
  rcases hc with rfl | rfl | rfl
  · omega
  · omega
  · decide

theorem w_idx1 : idxL sumS [2, 1, 0, 1, 0] 0 [adR0, sumR1] = 1 := by
  unfold idxL idxL idxL adR0 sumR1
  simp only
  rw [no_hit (show begB [2, 0, -2] [2, 1, 0, 1, 0] = false by decide), hitB_true ⟨_, w_rt1, w_sm1⟩]
  rfl

theorem w_idx0 : idxL sumS [2, 0, 1, 0] 0 [adR0, sumR1] = 0 := by
  unfold idxL idxL idxL adR0 sumR1
  simp only
  rw [hitB_true ⟨_, w_rt0, w_sm0⟩]
  rfl

theorem w_fs1 : fsO sumS [adR0, sumR1] [2, 1, 0, 1, 0] = some (0, 1) := by
  have n1 : stopF sumS [adR0, sumR1] [2, 1, 0, 1, 0] (2, 3) = false := w_stop (by decide) (by decide)
  have n2 : stopF sumS [adR0, sumR1] [2, 1, 0, 1, 0] (1, 3) = false := w_stop (by decide) (by decide)
  have n3 : stopF sumS [adR0, sumR1] [2, 1, 0, 1, 0] (4, 5) = false := w_stop (by decide) (by decide)
  have n4 : stopF sumS [adR0, sumR1] [2, 1, 0, 1, 0] (3, 5) = false := w_stop (by decide) (by decide)
  have p5 : partV [2, 1, 0, 1, 0] (0, 5) = [2, 1, 0, 1, 0] := by kernel_rfl
  have n5 : stopF sumS [adR0, sumR1] [2, 1, 0, 1, 0] (0, 5) = true := by
    unfold stopF
    rw [p5, w_idx1]
    rfl
  rw [fsO_eq pv_w1, if_pos (by simp only [List.any_cons, n1, n2, n3, n4, n5, Bool.false_or, Bool.true_or])]
  congr 1
  simp only [upto, n1, n2, n3, n4, n5]
  show fstV _ _ _ ([(2, 3), (1, 3), (4, 5), (3, 5)] ++ [(0, 5)]) = _
  rw [fstV_snoc, p5, w_idx1]
  rfl

theorem w_fs2 : fsO sumS [adR0, sumR1] [1, 2, 0, 1, 0] = some (1, 0) := by
  have n1 : stopF sumS [adR0, sumR1] [1, 2, 0, 1, 0] (2, 3) = false := w_stop (by decide) (by decide)
  have n3 : stopF sumS [adR0, sumR1] [1, 2, 0, 1, 0] (4, 5) = false := w_stop (by decide) (by decide)
  have n4 : stopF sumS [adR0, sumR1] [1, 2, 0, 1, 0] (3, 5) = false := w_stop (by decide) (by decide)
  have p5 : partV [1, 2, 0, 1, 0] (1, 5) = [2, 0, 1, 0] := by kernel_rfl
  have n5 : stopF sumS [adR0, sumR1] [1, 2, 0, 1, 0] (1, 5) = true := by
    unfold stopF
    rw [p5, w_idx0]
    rfl
  rw [fsO_eq pv_w2, if_pos (by simp only [List.any_cons, n1, n3, n4, n5, Bool.false_or, Bool.true_or])]
  congr 1
  simp only [upto, n1, n3, n4, n5]
  show fstV _ _ _ ([(2, 3), (4, 5), (3, 5)] ++ [(1, 5)]) = _
  rw [fstV_snoc, p5, w_idx0]
  rfl

theorem w_fs3 : fsO sumS [adR0, sumR1] [1, 1, 0] = none := by
  have n1 : stopF sumS [adR0, sumR1] [1, 1, 0] (2, 3) = false := w_stop (by decide) (by decide)
  have n2 : stopF sumS [adR0, sumR1] [1, 1, 0] (1, 3) = false := w_stop (by decide) (by decide)
  have n3 : stopF sumS [adR0, sumR1] [1, 1, 0] (0, 3) = false := w_stop (by decide) (by decide)
  rw [fsO_eq pv_w3, if_neg (by simp only [List.any_cons, n1, n2, n3, List.any_nil, Bool.false_or]; decide)]

theorem w_do1 : doR sumS [adR0, sumR1] [2, 1, 0, 1, 0] 0 1 = ([1, 2, 0, 1, 0], 0) := by
  have h := do_hit (x := 0) (y := 5) (j := 1) (r := sumR1) (f := wF1) w_step1 ⟨by decide, by decide, by kernel_rfl⟩ rfl w_rt1 (by rw [show subL sumS [2, 1, 0, 1, 0] ((0 : Nat) : Int) = [2, 1, 0, 1, 0] by kernel_rfl]; exact w_sm1)
  rw [binds_laid (l := sumR1.1) (r := sumR1.2) w_sm1.1 (by decide), show laidL wF1 sumR1.2 = [1, 2, 0, 1, 0] by decide] at h
  exact h

theorem w_do2 : doR sumS [adR0, sumR1] [1, 2, 0, 1, 0] 1 0 = ([1, 1, 0], 0) := by
  have h := do_hit (x := 1) (y := 5) (j := 0) (r := adR0) (f := wF0) w_step2 ⟨by decide, by decide, by kernel_rfl⟩ rfl w_rt0 (by rw [show subL sumS [1, 2, 0, 1, 0] ((1 : Nat) : Int) = [2, 0, 1, 0] by kernel_rfl]; exact w_sm0)
  rw [binds_laid (l := adR0.1) (r := adR0.2) w_sm0.1 (by decide), show laidL wF0 adR0.2 = [1, 0] by decide] at h
  exact h

theorem w_do3 : doR sumS [adR0, sumR1] [2, 1, 0, 1, 0] 0 0 = ([], 80) := by
  unfold doR
  have hp : placeE sumS [2, 1, 0, 1, 0] 0 = 0 := by kernel_rfl
  have hs : subL sumS [2, 1, 0, 1, 0] 0 = [2, 1, 0, 1, 0] := by kernel_rfl
  rw [if_pos w_step1, if_pos hp, if_neg (by decide)]
  show doK sumS [2, 1, 0, 1, 0] 0 adR0 = _
  unfold doK adR0
  simp only
  rw [hs, no_hit (by decide), if_neg (by simp)]

theorem w_go9 : goW sumS [adR0, sumR1] 9 [2, 1, 0, 1, 0] = some ([(0, 1), (1, 0)], [1, 1, 0], true) := by
  rw [go_step 8 w_fs1 (by rw [w_do1]), w_do1, go_step 7 w_fs2 (by rw [w_do2]), w_do2, go_none 7 w_fs3]
  rfl

theorem w_go1 : goW sumS [adR0, sumR1] 1 [2, 1, 0, 1, 0] = some ([(0, 1)], [1, 2, 0, 1, 0], false) := by
  rw [go_step 0 w_fs1 (by rw [w_do1]), w_do1, goW, w_fs2]
  rfl

theorem w_along1 : alongR sumS [adR0, sumR1] 0 [2, 1, 0, 1, 0] [(0, 1), (1, 0)] = ([1, 1, 0], 0, 0) := go_along 9 _ _ _ _ 0 w_go9

theorem w_along2 : alongR sumS [adR0, sumR1] 0 [2, 1, 0, 1, 0] [(0, 0)] = ([], 80, 0) := by
  rw [alongR, w_do3]
  rfl

end Go.Proofs.YtgpbnbmjgcchfaaGreatDoor
