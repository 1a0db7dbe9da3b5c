/- What a polynomial is worth, as a natural. -/
import Derived.Test.YtfifgmcjilkigaaPVal
namespace Go.Proofs.Ytfifgmcjilkigaa
open Go.RowKit Go.Maps

/-- The least natural that has too many limbs. -/
def bigN : Nat := 4294967296 ^ 64

theorem limbs_short (n : Nat) : (limbs n).length ≤ 64 ↔ n < bigN := by
  refine ⟨fun h => ?_, fun h => length_limbs_le h⟩
  have h1 := val_lt (limbs_lim n)
  rw [val_limbs] at h1
  exact Nat.lt_of_lt_of_le h1 (Nat.pow_le_pow_right (by omega) h)

/-- The limbs of a natural that has not too many of them. -/
def Rt (xs : List Nat) (n : Nat) : Prop := xs = limbs n ∧ n < bigN

theorem Rt.right {xs : List Nat} {n : Nat} (h : Rt xs n) : rightB xs = true := by
  rw [h.1, rightB_limbs]
  exact decide_eq_true ((limbs_short n).2 h.2)

theorem Rt.val {xs : List Nat} {n : Nat} (h : Rt xs n) : val xs = n := by rw [h.1, val_limbs]

theorem Rt.of {xs : List Nat} (h : Lim xs) (hr : rightB xs = true) : Rt xs (Go.Proofs.Ytfifgmcjilkigaa.val xs) :=
  ⟨(limbs_val_of_right h hr).symm, (limbs_short _).1 (by rw [limbs_val_of_right h hr]; exact length_le_of_right hr)⟩

theorem res_ok {n : Nat} (h : n < bigN) : resL n = limbs n ∧ resE n = 0 := by
  unfold resL resE
  rw [if_pos ((limbs_short n).2 h), if_pos ((limbs_short n).2 h)]
  exact ⟨rfl, rfl⟩

theorem res_no {n : Nat} (h : bigN ≤ n) : resL n = [] ∧ resE n = 2 := by
  have : ¬ (limbs n).length ≤ 64 := fun hh => by have := (limbs_short n).1 hh; omega
  unfold resL resE
  rw [if_neg this, if_neg this]
  exact ⟨rfl, rfl⟩

theorem mul_ok {xs ys : List Nat} {a b : Nat} (h : Rt xs a) (h' : Rt ys b) (hb : a * b < bigN) : mulE xs ys = 0 ∧ Rt (mulL xs ys) (a * b) := by
  unfold mulE mulL
  rw [h.right, h'.right, h.val, h'.val, (res_ok hb).1, (res_ok hb).2]
  exact ⟨rfl, rfl, hb⟩

theorem mul_no {xs ys : List Nat} {a b : Nat} (h : Rt xs a) (h' : Rt ys b) (hb : bigN ≤ a * b) : mulE xs ys = 2 ∧ mulL xs ys = [] := by
  unfold mulE mulL
  rw [h.right, h'.right, h.val, h'.val, (res_no hb).1, (res_no hb).2]
  exact ⟨rfl, rfl⟩

theorem add_ok {xs ys : List Nat} {a b : Nat} (h : Rt xs a) (h' : Rt ys b) (hb : a + b < bigN) : addE xs ys = 0 ∧ Rt (addL xs ys) (a + b) := by
  unfold addE addL
  rw [h.right, h'.right, h.val, h'.val, (res_ok hb).1, (res_ok hb).2]
  exact ⟨rfl, rfl, hb⟩

theorem add_no {xs ys : List Nat} {a b : Nat} (h : Rt xs a) (h' : Rt ys b) (hb : bigN ≤ a + b) : addE xs ys = 2 ∧ addL xs ys = [] := by
  unfold addE addL
  rw [h.right, h'.right, h.val, h'.val, (res_no hb).1, (res_no hb).2]
  exact ⟨rfl, rfl⟩

/-- What is answered for a natural. -/
def ans (n : Nat) : List Nat × Int := if n < bigN then (limbs n, 0) else ([], 2)

theorem ans_ok {n : Nat} (h : n < bigN) : ans n = (limbs n, 0) := if_pos h
theorem ans_no {n : Nat} (h : bigN ≤ n) : ans n = ([], 2) := if_neg (by omega)

theorem powGo_spec {a : List Nat} {F n : Nat} (hF : 1 ≤ F) (ha : Rt a F) : ∀ (b : Nat) (out : List Nat), Rt out (F ^ (n / 2 ^ b)) → powGo mulL mulE [] a n b out = ans (F ^ n) := by
  intro b
  induction b with
  | zero =>
    intro out h
    rw [Nat.pow_zero, Nat.div_one] at h
    unfold powGo
    rw [ans_ok h.2, h.1]
  | succ b ih =>
    intro out h
    have hdiv : n / 2 ^ b = 2 * (n / 2 ^ (b + 1)) + n / 2 ^ b % 2 := by
      rw [Nat.pow_succ, ← Nat.div_div_eq_div_mul]
      omega
    have hle : n / 2 ^ b ≤ n := Nat.div_le_self _ _
    have hsq : F ^ (n / 2 ^ (b + 1)) * F ^ (n / 2 ^ (b + 1)) = F ^ (2 * (n / 2 ^ (b + 1))) := by rw [← Nat.pow_add]; congr 1; omega
    unfold powGo
    by_cases h1 : F ^ (2 * (n / 2 ^ (b + 1))) < bigN
    · obtain ⟨e1, r1⟩ := mul_ok h h (by rw [hsq]; exact h1)
      rw [hsq] at r1
      rw [if_pos e1]
      by_cases h2 : n / 2 ^ b % 2 = 1
      · rw [if_pos h2]
        have hst : F ^ (2 * (n / 2 ^ (b + 1))) * F = F ^ (n / 2 ^ b) := by rw [← Nat.pow_succ]; congr 1; omega
        by_cases h3 : F ^ (n / 2 ^ b) < bigN
        · obtain ⟨e2, r2⟩ := mul_ok r1 ha (by rw [hst]; exact h3)
          rw [hst] at r2
          rw [if_pos e2]
          exact ih _ r2
        · obtain ⟨e2, _⟩ := mul_no r1 ha (by rw [hst]; omega)
          rw [if_neg (by rw [e2]; decide), e2, ans_no (Nat.le_trans (by omega) (Nat.pow_le_pow_right hF hle))]
      · rw [if_neg h2]
        refine ih _ ?_
        rw [show n / 2 ^ b = 2 * (n / 2 ^ (b + 1)) by omega]
        exact r1
    · obtain ⟨e1, _⟩ := mul_no h h (by rw [hsq]; omega)
      rw [if_neg (by rw [e1]; decide), e1, ans_no (Nat.le_trans (show bigN ≤ F ^ (2 * (n / 2 ^ (b + 1))) by omega) (Nat.pow_le_pow_right hF (by omega)))]

theorem bit_top {n : Nat} (h1 : 1 ≤ n) (h2 : n ≤ 64) : n / 2 ^ (Lib.bitLen n - 1) = 1 := by
  have h : ∀ k : Fin 65, 1 ≤ k.1 → k.1 / 2 ^ (Lib.bitLen k.1 - 1) = 1 := by decide +kernel
  exact h ⟨n, by omega⟩ h1

theorem pow_spec {a : List Nat} {F n : Nat} (hF : 1 ≤ F) (ha : Rt a F) (hn : 1 ≤ n) (hn2 : n ≤ 64) : powGo mulL mulE [] a n (Lib.bitLen n - 1) a = ans (F ^ n) := by
  refine powGo_spec hF ha _ _ ?_
  rw [bit_top hn hn2, Nat.pow_one]
  exact ha

/-- The product of the powers. -/
def prodW : List Int → List (List Nat) → Nat
  | [], _ => 1
  | _ :: _, [] => 1
  | n :: es, f :: fs => val f ^ n.toNat * prodW es fs

theorem val_pos {f : List Nat} (h : Lim f) (hr : rightB f = true) (h0 : ¬ f.length = 0) : 1 ≤ val f := by
  rcases Nat.eq_zero_or_pos (val f) with h1 | h1
  · have := limbs_val_of_right h hr
    rw [h1, limbs_zero] at this
    rw [← this] at h0
    exact absurd rfl h0
  · exact h1

theorem nought_cons {n : Int} {es : List Int} {f : List Nat} {fs : List (List Nat)} : noughtB (n :: es) (f :: fs) = (decide (0 < n) && f.length == 0 || noughtB es fs) := rfl

theorem prodW_pos : ∀ {es : List Int} {fs : List (List Nat)}, (∀ f ∈ fs, Lim f ∧ rightB f = true) → (∀ n ∈ es, 0 ≤ n ∧ n ≤ 64) → noughtB es fs = false → 1 ≤ prodW es fs
  | [], _, _, _, _ => by simp [prodW]
  | _ :: _, [], _, _, _ => by simp [prodW]
  | n :: es, f :: fs, hf, hn, h => by
    rw [nought_cons, Bool.or_eq_false_iff] at h
    unfold prodW
    have h1 := prodW_pos (es := es) (fs := fs) (fun g hg => hf g (List.mem_cons_of_mem _ hg)) (fun m hm => hn m (List.mem_cons_of_mem _ hm)) h.2
    by_cases h0 : n = 0
    · subst h0
      simpa using h1
    · have hp : 0 < n := by have := hn n (by simp); omega
      have h2 : ¬ f.length = 0 := by
        have := h.1
        simp [hp] at this
        simpa using this
      have h3 := val_pos (hf f (by simp)).1 (hf f (by simp)).2 h2
      exact Nat.mul_pos (Nat.pow_pos h3) h1

theorem prodW_nought : ∀ {es : List Int} {fs : List (List Nat)}, noughtB es fs = true → prodW es fs = 0
  | [], _, h => by simp [noughtB] at h
  | _ :: _, [], h => by simp [noughtB] at h
  | n :: es, f :: fs, h => by
    rw [nought_cons, Bool.or_eq_true] at h
    unfold prodW
    rcases h with h | h
    · simp only [Bool.and_eq_true, decide_eq_true_eq, beq_iff_eq] at h
      have : f = [] := List.eq_nil_of_length_eq_zero h.2
      subst this
      have h2 : n.toNat ≠ 0 := by omega
      rw [show val [] = 0 from rfl, Nat.zero_pow (by omega), Nat.zero_mul]
    · rw [prodW_nought h, Nat.mul_zero]

theorem worthGo_spec : ∀ {es : List Int} {fs : List (List Nat)} {c : List Nat} {C : Nat}, (∀ f ∈ fs, Lim f ∧ rightB f = true) → (∀ n ∈ es, 0 ≤ n ∧ n ≤ 64) → noughtB es fs = false → Rt c C → 1 ≤ C →
    worthGo mulL mulE es fs c = ans (C * prodW es fs)
  | [], fs, c, C, _, _, _, hc, _ => by
    unfold worthGo prodW
    rw [Nat.mul_one, ans_ok hc.2, hc.1]
  | _ :: _, [], c, C, _, _, _, hc, _ => by
    unfold worthGo prodW
    rw [Nat.mul_one, ans_ok hc.2, hc.1]
  | n :: es, f :: fs, c, C, hf, hn, h, hc, h1 => by
    have hh := h
    rw [nought_cons, Bool.or_eq_false_iff] at h
    have hf' : ∀ g ∈ fs, Lim g ∧ rightB g = true := fun g hg => hf g (List.mem_cons_of_mem _ hg)
    have hn' : ∀ m ∈ es, 0 ≤ m ∧ m ≤ 64 := fun m hm => hn m (List.mem_cons_of_mem _ hm)
    have hpos := prodW_pos hf' hn' h.2
    unfold worthGo prodW
    by_cases h0 : n = 0
    · subst h0
      rw [if_pos rfl, worthGo_spec hf' hn' h.2 hc h1]
      simp
    · have hp : 0 < n := by have := hn n (by simp); omega
      have h2 : ¬ f.length = 0 := by
        have := h.1
        simp [hp] at this
        simpa using this
      have hfr := hf f (by simp)
      have h3 := val_pos hfr.1 hfr.2 h2
      have hN : 1 ≤ n.toNat := by omega
      have hN2 : n.toNat ≤ 64 := by have := hn n (by simp); omega
      rw [if_neg h0, pow_spec h3 (Rt.of hfr.1 hfr.2) hN hN2]
      have hFp : 1 ≤ val f ^ n.toNat := Nat.pow_pos h3
      by_cases h4 : val f ^ n.toNat < bigN
      · rw [ans_ok h4, if_pos rfl]
        have hR : Rt (limbs (val f ^ n.toNat)) (val f ^ n.toNat) := ⟨rfl, h4⟩
        by_cases h5 : C * val f ^ n.toNat < bigN
        · obtain ⟨e1, r1⟩ := mul_ok hc hR h5
          rw [if_pos e1, worthGo_spec hf' hn' h.2 r1 (Nat.mul_pos h1 hFp), Nat.mul_assoc]
        · obtain ⟨e1, r1⟩ := mul_no hc hR (by omega)
          rw [if_neg (by rw [e1]; decide), e1, ans_no]
          rw [← Nat.mul_assoc]
          exact Nat.le_trans (by omega) (Nat.le_mul_of_pos_right _ hpos)
      · rw [ans_no (by omega), if_neg (by decide), ans_no]
        have h6 : val f ^ n.toNat ≤ C * (val f ^ n.toNat * prodW es fs) := Nat.le_trans (Nat.le_mul_of_pos_right _ hpos) (Nat.le_mul_of_pos_left _ h1)
        omega

theorem worthV_spec {es : List Int} {fs : List (List Nat)} {c : List Nat} {C : Nat} (hf : ∀ f ∈ fs, Lim f ∧ rightB f = true) (hn : ∀ n ∈ es, 0 ≤ n ∧ n ≤ 64) (hc : Rt c C) (h1 : 1 ≤ C) : worthV mulL mulE es fs c = ans (C * prodW es fs) := by
  unfold worthV
  cases h : noughtB es fs
  · rw [if_neg (by simp)]
    exact worthGo_spec hf hn h hc h1
  · rw [if_pos rfl, prodW_nought h, Nat.mul_zero, ans_ok (by unfold bigN; exact Nat.pow_pos (by omega))]
    rfl

/-- What a polynomial is worth. -/
def worthN (ats : List (List Nat)) : List Mn → Nat
  | [] => 0
  | m :: p => val m.1 * prodW m.2 ats + worthN ats p

/-- A monomial's limbs and exponents are right. -/
def GoodM (m : Mn) : Prop := Lim m.1 ∧ rightB m.1 = true ∧ ¬ m.1.length = 0 ∧ ∀ n ∈ m.2, 0 ≤ n ∧ n ≤ 64

theorem valGo_spec {ats : List (List Nat)} (hf : ∀ f ∈ ats, Lim f ∧ rightB f = true) : ∀ {p : List Mn} {t : List Nat} {T : Nat}, (∀ m ∈ p, GoodM m) → Rt t T → valGo ats t p = ans (T + worthN ats p)
  | [], t, T, _, ht => by
    unfold valGo worthN
    rw [Nat.add_zero, ans_ok ht.2, ht.1]
  | m :: p, t, T, hg, ht => by
    obtain ⟨g1, g2, g3, g4⟩ := hg m (by simp)
    unfold valGo worthN
    rw [worthV_spec hf g4 (Rt.of g1 g2) (val_pos g1 g2 g3)]
    by_cases h1 : val m.1 * prodW m.2 ats < bigN
    · rw [ans_ok h1, if_pos rfl]
      have hR : Rt (limbs (val m.1 * prodW m.2 ats)) (val m.1 * prodW m.2 ats) := ⟨rfl, h1⟩
      by_cases h2 : T + val m.1 * prodW m.2 ats < bigN
      · obtain ⟨e1, r1⟩ := add_ok ht hR h2
        rw [if_pos e1, valGo_spec hf (fun n hn => hg n (List.mem_cons_of_mem _ hn)) r1, Nat.add_assoc]
      · obtain ⟨e1, _⟩ := add_no ht hR (by omega)
        rw [if_neg (by rw [e1]; decide), e1, ans_no (by omega)]
    · rw [ans_no (by omega), if_neg (by decide), ans_no (by omega)]

end Go.Proofs.Ytfifgmcjilkigaa
