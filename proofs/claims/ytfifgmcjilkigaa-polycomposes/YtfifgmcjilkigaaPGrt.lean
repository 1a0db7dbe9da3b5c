/- Greater is greater: plain data. -/
import Derived.Test.YtfifgmcjilkigaaPSem
import Derived.Test.YtfifgmcjilkigaaPLeast
namespace Go.Proofs.Ytfifgmcjilkigaa
open Go.RowKit Go.Maps

def SortedX : List Mn → Prop
  | [] => True
  | [_] => True
  | m :: n :: r => cmpX m.2 n.2 < 0 ∧ SortedX (n :: r)

theorem SortedX.tail {m : Mn} {r : List Mn} (h : SortedX (m :: r)) : SortedX r := by
  cases r with
  | nil => exact trivial
  | cons n r => exact h.2

theorem SortedX.head {m n : Mn} {r : List Mn} (h : SortedX (m :: r)) (hn : r[0]? = some n) : cmpX m.2 n.2 < 0 := by
  cases r with
  | nil => simp at hn
  | cons n' r =>
    simp at hn
    subst hn
    exact h.1

theorem sortedX_of {p : List Mn} (h : ∀ k m n, p[k]? = some m → p[k + 1]? = some n → cmpX m.2 n.2 < 0) : SortedX p := by
  induction p with
  | nil => exact trivial
  | cons m r ih =>
    cases r with
    | nil => exact trivial
    | cons n r => exact ⟨h 0 m n rfl rfl, ih fun k a b ha hb => h (k + 1) a b ha hb⟩

theorem polyB_sorted {p : List Mn} {vars : Int} (h : polyB p vars = true) : SortedX p := by
  refine sortedX_of fun k m n hm hn => ?_
  have := polyB_iff.1 h (k + 1) (List.getElem?_eq_some_iff.1 hn).1
  unfold okAt at this
  simp only [Bool.and_eq_true, Bool.or_eq_true, beq_iff_eq, decide_eq_true_eq] at this
  have h2 := this.2.resolve_left (by omega)
  unfold expsAt at h2
  rw [Nat.add_sub_cancel, hm, hn] at h2
  exact h2

theorem polyB_good {p : List Mn} {vars : Int} (h : polyB p vars = true) {m : Mn} (hm : m ∈ p) : monB m = true ∧ (m.2.length : Int) ≤ vars := by
  obtain ⟨k, hk⟩ := List.mem_iff_getElem?.1 hm
  have := polyB_iff.1 h k (List.getElem?_eq_some_iff.1 hk).1
  unfold okAt at this
  rw [hk] at this
  simp only [Bool.and_eq_true, decide_eq_true_eq] at this
  exact this.1

/-- A polynomial that Check lets by. -/
structure Pol (p : List Mn) : Prop where
  lim : ∀ m ∈ p, Lim m.1
  mon : ∀ m ∈ p, monB m = true
  sort : SortedX p
  small : ∀ m ∈ p, m.2.length ≤ 512 ∧ ∀ n ∈ m.2, n ≤ 64
  len : p.length ≤ 256

theorem check_iff {p : List Mn} {vars : Int} (hv : ¬ vars < 0) : checkE p vars = 0 ↔ polyB p vars = true ∧ boundsB p = true := by
  unfold checkE
  rw [if_neg hv]
  cases hp : polyB p vars <;> cases hb : boundsB p <;> simp

theorem Pol.of {p : List Mn} {vars : Int} (hl : ∀ m ∈ p, Lim m.1) (hv : ¬ vars < 0) (h : checkE p vars = 0) : Pol p := by
  obtain ⟨h1, h2⟩ := (check_iff hv).1 h
  simp only [boundsB, smallB, Bool.and_eq_true, decide_eq_true_eq, List.all_eq_true] at h2
  exact ⟨hl, fun m hm => (polyB_good h1 hm).1, polyB_sorted h1, h2.2, h2.1⟩

theorem Pol.good {p : List Mn} (h : Pol p) {m : Mn} (hm : m ∈ p) : GoodM m := by
  have h1 := h.mon m hm
  obtain ⟨c, es⟩ := m
  simp only [monB, Bool.and_eq_true, List.all_eq_true, decide_eq_true_eq, Bool.not_eq_true', beq_eq_false_iff_ne, ne_eq] at h1
  exact ⟨h.lim _ hm, h1.1.1.2, h1.1.1.1, fun n hn => ⟨h1.1.2 n hn, (h.small _ hm).2 n hn⟩⟩

theorem okAt_vars {p : List Mn} {a b : Int} {k : Nat} (h : okAt p a k = true) (hb : ∀ m, p[k]? = some m → (m.2.length : Int) ≤ b) : okAt p b k = true := by
  unfold okAt at h ⊢
  cases hk : p[k]? with
  | none => rw [hk] at h; simp at h
  | some m =>
    rw [hk] at h
    simp only [Bool.and_eq_true, decide_eq_true_eq] at h ⊢
    exact ⟨⟨h.1.1, hb m hk⟩, h.2⟩

/-- How many variables are asked for does not matter, where there are enough. -/
theorem check_vars {p : List Mn} {a b : Int} (ha : ¬ a < 0) (hb : 512 ≤ b) (h : checkE p a = 0) : checkE p b = 0 := by
  obtain ⟨h1, h2⟩ := (check_iff ha).1 h
  refine (check_iff (by omega)).2 ⟨polyB_iff.2 fun k hk => okAt_vars (polyB_iff.1 h1 k hk) fun m hm => ?_, h2⟩
  simp only [boundsB, smallB, Bool.and_eq_true, decide_eq_true_eq, List.all_eq_true] at h2
  have := (h2.2 m (List.mem_of_getElem? hm)).1
  omega

theorem varsN_iff {p : List Mn} {B : Nat} : varsN p ≤ B ↔ ∀ m ∈ p, m.2.length ≤ B := by
  have key : ∀ (p : List Mn) (a : Nat), p.foldl (fun a m => max a m.2.length) a ≤ B ↔ a ≤ B ∧ ∀ m ∈ p, m.2.length ≤ B := by
    intro p
    induction p with
    | nil => intro a; simp
    | cons m r ih =>
      intro a
      rw [List.foldl_cons, ih, Nat.max_le]
      simp only [List.mem_cons, forall_eq_or_imp, and_assoc]
  unfold varsN
  rw [key]
  simp

theorem atGo_skip {x : Mn} {r q : List Mn} (h : ∀ m, q[0]? = some m → cmpX x.2 m.2 < 0) : atGo (x :: r) q = atGo r q := by
  cases q with
  | nil => unfold atGo; rfl
  | cons m q =>
    unfold atGo
    rw [leftP, if_pos (h m rfl)]

theorem leftP_suffix {m : Mn} : ∀ {p : List Mn} {x : Mn} {r : List Mn}, leftP m p = x :: r → ∃ s, p = s ++ x :: r
  | [], _, _, h => by simp [leftP] at h
  | y :: p, x, r, h => by
    unfold leftP at h
    split at h
    · obtain ⟨s, rfl⟩ := leftP_suffix h
      exact ⟨y :: s, rfl⟩
    · exact ⟨[], h⟩

theorem worthN_append (ats : List (List Nat)) (p q : List Mn) : worthN ats (p ++ q) = worthN ats p + worthN ats q := by
  induction p with
  | nil => simp [worthN]
  | cons m p ih => simp only [List.cons_append, worthN, ih]; omega

theorem cmpV_le {xs ys : List Nat} (hx : rightB xs = true) (hy : rightB ys = true) (h : ¬ 0 < cmpV xs ys) : val xs ≤ val ys := by
  unfold cmpV at h
  rw [hx, hy] at h
  simp only [Bool.and_self, if_true] at h
  rcases Nat.lt_or_ge (val ys) (val xs) with h1 | h1
  · rw [cmpI_gt h1] at h; omega
  · exact h1

theorem atGo_cons {p q : List Mn} {m : Mn} (h : atGo p (m :: q) = true) : ∃ s x r, p = s ++ x :: r ∧ leftP m p = x :: r ∧ x.2 = m.2 ∧ ¬ 0 < cmpV m.1 x.1 ∧ atGo (x :: r) q = true := by
  unfold atGo at h
  cases hl : leftP m p with
  | nil => rw [hl] at h; simp at h
  | cons x r =>
    rw [hl] at h
    simp only at h
    split at h
    · rename_i hx
      split at h
      · simp at h
      · rename_i hc
        obtain ⟨s, rfl⟩ := leftP_suffix hl
        exact ⟨s, x, r, rfl, rfl, hx, hc, h⟩
    · simp at h

theorem atGo_worth {ats : List (List Nat)} : ∀ {q p : List Mn}, (∀ m ∈ p, rightB m.1 = true) → (∀ m ∈ q, rightB m.1 = true) → SortedX q → atGo p q = true → worthN ats q ≤ worthN ats p
  | [], p, _, _, _, _ => Nat.zero_le _
  | m :: q, p, hp, hq, hs, h => by
    obtain ⟨s, x, r, rfl, hl, hx, hc, h⟩ := atGo_cons h
    rw [atGo_skip (fun n hn => by rw [hx]; exact hs.head hn)] at h
    have h1 := atGo_worth (ats := ats) (fun n hn => hp n (by simp [hn])) (fun n hn => hq n (List.mem_cons_of_mem _ hn)) hs.tail h
    have h2 := cmpV_le (hq m (by simp)) (hp x (by simp)) hc
    rw [worthN_append]
    unfold worthN
    rw [hx]
    have := Nat.mul_le_mul_right (prodW m.2 ats) h2
    omega

theorem atGo_vars : ∀ {q p : List Mn} {B : Nat}, (∀ m ∈ p, m.2.length ≤ B) → atGo p q = true → ∀ m ∈ q, m.2.length ≤ B
  | [], _, _, _, _, m, hm => by cases hm
  | m :: q, p, B, hp, h, n, hn => by
    obtain ⟨s, x, r, rfl, hl, hx, hc, h⟩ := atGo_cons h
    rcases List.mem_cons.1 hn with rfl | hn
    · rw [← hx]
      exact hp x (by simp)
    · exact atGo_vars (fun y hy => hp y (List.mem_append_right _ hy)) h n hn

theorem prodW_nil (ats : List (List Nat)) : prodW [] ats = 1 := rfl

theorem atGo_const {ats : List (List Nat)} {q p : List Mn} (hp : ∀ m ∈ p, rightB m.1 = true) (hq : ∀ m ∈ q, rightB m.1 = true) (hs : SortedX q) (h : atGo p q = true) : worthN ats q + val (constL p) ≤ worthN ats p + val (constL q) := by
  have h0 := atGo_worth (ats := ats) hp hq hs h
  cases p with
  | nil => simp only [constL, val]; omega
  | cons x r =>
    by_cases hx : x.2.length = 0
    · have hx2 : x.2 = [] := List.eq_nil_of_length_eq_zero hx
      have ex : constL (x :: r) = x.1 := by simp [constL, hx]
      rw [ex]
      have hw : worthN ats (x :: r) = val x.1 + worthN ats r := by rw [worthN, hx2, prodW_nil, Nat.mul_one]
      rw [hw]
      cases q with
      | nil => simp only [worthN]; omega
      | cons m q =>
        by_cases hm : m.2.length = 0
        · have hm2 : m.2 = [] := List.eq_nil_of_length_eq_zero hm
          have em : constL (m :: q) = m.1 := by simp [constL, hm]
          have hl0 : leftP m (x :: r) = x :: r := by
            rw [leftP, hx2, hm2, if_neg (by decide)]
          obtain ⟨s, x', r', _, hl, hxm, hc, h1⟩ := atGo_cons h
          rw [hl0] at hl
          simp only [List.cons.injEq] at hl
          obtain ⟨rfl, rfl⟩ := hl
          rw [atGo_skip (fun n hn => by rw [hxm]; exact hs.head hn)] at h1
          have h2 := atGo_worth (ats := ats) (fun n hn => hp n (by simp [hn])) (fun n hn => hq n (List.mem_cons_of_mem _ hn)) hs.tail h1
          rw [em, worthN, hm2, prodW_nil, Nat.mul_one]
          omega
        · have em : constL (m :: q) = [] := by simp [constL, hm]
          have hlt : cmpX x.2 m.2 < 0 := by
            rw [hx2]
            cases hmm : m.2 with
            | nil => rw [hmm] at hm; exact absurd rfl hm
            | cons a b => unfold cmpX; decide
          rw [atGo_skip (fun n hn => by simp at hn; subst hn; exact hlt)] at h
          have h2 := atGo_worth (ats := ats) (fun n hn => hp n (by simp [hn])) hq hs h
          rw [em]
          simp only [val]
          omega
    · have ex : constL (x :: r) = [] := by simp [constL, hx]
      rw [ex]
      simp only [val]
      omega

theorem cmpV_self (xs : List Nat) : cmpV xs xs = 0 := by
  unfold cmpV
  rw [cmpI_eq]
  simp

theorem cmpV_anti {xs ys : List Nat} (h : 0 < cmpV xs ys) : ¬ 0 < cmpV ys xs := by
  unfold cmpV at h ⊢
  rw [Bool.and_comm]
  split at h
  · rename_i hr
    rw [if_pos hr]
    rcases Nat.lt_trichotomy (val xs) (val ys) with h1 | h1 | h1
    · rw [cmpI_lt h1] at h; omega
    · rw [h1, cmpI_eq] at h; omega
    · rw [cmpI_lt h1]; omega
  · omega

theorem cmpV_pos {xs ys : List Nat} (h : 0 < cmpV xs ys) : val ys < val xs := by
  unfold cmpV at h
  split at h
  · rcases Nat.lt_trichotomy (val xs) (val ys) with h1 | h1 | h1
    · rw [cmpI_lt h1] at h; omega
    · rw [h1, cmpI_eq] at h; omega
    · exact h1
  · omega

theorem atGo_self : ∀ {p : List Mn}, SortedX p → atGo p p = true
  | [], _ => by unfold atGo; rfl
  | m :: p, h => by
    unfold atGo
    rw [leftP, if_neg (by rw [cmpX_self]; omega)]
    simp only [if_true]
    rw [if_neg (by rw [cmpV_self]; omega), atGo_skip (fun n hn => h.head hn)]
    exact atGo_self h.tail

theorem checkAll2_iff {p q : List Mn} : checkAllE [p, q] = 0 ↔ checkE p 9223372036854775807 = 0 ∧ checkE q 9223372036854775807 = 0 := by
  simp only [checkAllE]
  by_cases h1 : checkE p 9223372036854775807 = 0
  · rw [if_pos h1]
    by_cases h2 : checkE q 9223372036854775807 = 0
    · simp [h1, h2]
    · simp [h1, h2]
  · simp [h1]

theorem atLeast_self (p : List Mn) : atLeastB p p = decide (checkE p 1099511627776 = 0) := by
  unfold atLeastB
  by_cases h : checkE p 9223372036854775807 = 0
  · rw [if_pos (checkAll2_iff.2 ⟨h, h⟩), atGo_self (polyB_sorted ((check_iff (by omega)).1 h).1)]
    exact (decide_eq_true (check_vars (by omega) (by omega) h)).symm
  · rw [if_neg (fun hh => h (checkAll2_iff.1 hh).1)]
    exact (decide_eq_false (fun hh => h (check_vars (by omega) (by omega) hh))).symm

theorem greater_self (p : List Mn) : greaterB p p = false := by
  unfold greaterB
  rw [cmpV_self]
  simp

theorem greater_least {p q : List Mn} (h : greaterB p q = true) : atLeastB p q = true ∧ greaterB q p = false := by
  unfold greaterB at h ⊢
  simp only [Bool.and_eq_true, decide_eq_true_eq] at h
  refine ⟨h.1, ?_⟩
  rw [decide_eq_false (cmpV_anti h.2), Bool.and_false]

theorem checkAll1_iff {p : List Mn} : checkAllE [p] = 0 ↔ checkE p 9223372036854775807 = 0 := by
  simp only [checkAllE]
  by_cases h1 : checkE p 9223372036854775807 = 0 <;> simp [h1]

theorem rt_nil : Rt [] 0 := ⟨rfl, Nat.pow_pos (by omega)⟩

theorem val_iff {p : List Mn} {ats : List (List Nat)} (hl : ∀ m ∈ p, Lim m.1) (hf : ∀ f ∈ ats, Lim f) :
    valE p ats = 0 ↔ checkE p 9223372036854775807 = 0 ∧ varsN p ≤ ats.length ∧ ats.all rightB = true ∧ worthN ats p < bigN := by
  unfold valE
  by_cases h1 : checkE p 9223372036854775807 = 0
  · rw [if_pos (checkAll1_iff.2 h1)]
    by_cases h2 : varsN p ≤ ats.length
    · rw [if_pos h2]
      by_cases h3 : ats.all rightB = true
      · rw [if_pos h3, valGo_spec (fun f hh => ⟨hf f hh, List.all_eq_true.1 h3 f hh⟩) (fun m hm => (Pol.of hl (by omega) h1).good hm) rt_nil, Nat.zero_add]
        by_cases h4 : worthN ats p < bigN
        · rw [ans_ok h4]; simp [h1, h2, h3, h4]
        · rw [ans_no (by omega)]; simp [h4]
      · rw [if_neg h3]; simp [h3]
    · rw [if_neg h2]; simp [h2]
  · rw [if_neg (fun h => h1 (checkAll1_iff.1 h))]
    constructor
    · intro h; exact absurd (checkAll1_iff.1 h) h1
    · intro h; exact absurd h.1 h1

theorem valL_spec {p : List Mn} {ats : List (List Nat)} (hl : ∀ m ∈ p, Lim m.1) (hf : ∀ f ∈ ats, Lim f) (h : valE p ats = 0) : Rt (valL p ats) (worthN ats p) := by
  unfold valL
  rw [if_pos h]
  obtain ⟨h1, h2, h3, h4⟩ := (val_iff hl hf).1 h
  rw [valGo_spec (fun f hh => ⟨hf f hh, List.all_eq_true.1 h3 f hh⟩) (fun m hm => (Pol.of hl (by omega) h1).good hm) rt_nil, Nat.zero_add, ans_ok h4]
  exact ⟨rfl, h4⟩

/-- What the law asks of two polynomials of which one is at least the other. -/
theorem least_worth {p q : List Mn} {ats : List (List Nat)} (hl : ∀ m ∈ p, Lim m.1) (hl' : ∀ m ∈ q, Lim m.1) (hf : ∀ f ∈ ats, Lim f) (h : atLeastB p q = true) (hv : valE p ats = 0) :
    valE q ats = 0 ∧ cmpE (valL p ats) (valL q ats) = 0 ∧ 0 ≤ cmpV (valL p ats) (valL q ats) ∧ (greaterB p q = true → 0 < cmpV (valL p ats) (valL q ats)) := by
  unfold atLeastB at h
  split at h
  · rename_i hc
    obtain ⟨c1, c2⟩ := checkAll2_iff.1 hc
    have P1 := Pol.of hl (by omega) c1
    have P2 := Pol.of hl' (by omega) c2
    obtain ⟨_, v2, v3, v4⟩ := (val_iff hl hf).1 hv
    have r1 : ∀ m ∈ p, rightB m.1 = true := fun m hm => (P1.good hm).2.1
    have r2 : ∀ m ∈ q, rightB m.1 = true := fun m hm => (P2.good hm).2.1
    have hw := atGo_worth (ats := ats) r1 r2 P2.sort h
    have hv2 : valE q ats = 0 := (val_iff hl' hf).2 ⟨c2, varsN_iff.2 (atGo_vars (varsN_iff.1 v2) h), v3, by omega⟩
    have R1 := valL_spec hl hf hv
    have R2 := valL_spec hl' hf hv2
    have e : cmpV (valL p ats) (valL q ats) = cmpI (worthN ats p) (worthN ats q) := by
      unfold cmpV
      rw [R1.right, R2.right, R1.val, R2.val]
      rfl
    refine ⟨hv2, by unfold cmpE; rw [R1.right, R2.right]; rfl, ?_, fun hg => ?_⟩
    · rw [e]
      rcases Nat.lt_or_ge (worthN ats q) (worthN ats p) with h1 | h1
      · rw [cmpI_gt h1]; omega
      · rw [show worthN ats q = worthN ats p by omega, cmpI_eq]; omega
    · rw [e]
      have h2 := atGo_const (ats := ats) r1 r2 P2.sort h
      unfold greaterB at hg
      simp only [Bool.and_eq_true, decide_eq_true_eq] at hg
      have h3 := cmpV_pos hg.2
      rw [cmpI_gt (by omega)]
      omega
  · simp at h

end Go.Proofs.Ytfifgmcjilkigaa
