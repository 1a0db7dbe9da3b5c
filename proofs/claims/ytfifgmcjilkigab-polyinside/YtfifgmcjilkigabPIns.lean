/- What is laid into a polynomial is worth what it is: plain data. -/
import Derived.Test.YtfifgmcjilkigabPWor
namespace Go.Proofs.Ytfifgmcjilkigab
open Go.RowKit Go.Maps

section
variable {α : Type} {tL : α → α → α} {tE : α → α → Int} {D : α → Prop} {hv : α → Nat}

theorem powGo_hom {nil a : α} {n : Nat} (hD : ∀ x y, D x → D y → tE x y = 0 → D (tL x y)) (hh : ∀ x y, D x → D y → tE x y = 0 → hv (tL x y) = hv x * hv y) (ha : D a) : ∀ (b : Nat) (out : α), D out → hv out = hv a ^ (n / 2 ^ b) →
    (powGo tL tE nil a n b out).2 = 0 → D (powGo tL tE nil a n b out).1 ∧ hv (powGo tL tE nil a n b out).1 = hv a ^ n
  | 0, out, ho, hw, _ => by
    rw [Nat.pow_zero, Nat.div_one] at hw
    exact ⟨ho, hw⟩
  | b + 1, out, ho, hw, h => by
    have hdiv : n / 2 ^ b = 2 * (n / 2 ^ (b + 1)) + n / 2 ^ b % 2 := by
      rw [Nat.pow_succ, ← Nat.div_div_eq_div_mul]
      omega
    unfold powGo at h ⊢
    split at h
    · rename_i h0
      rw [if_pos h0]
      have d1 := hD _ _ ho ho h0
      have w1 : hv (tL out out) = hv a ^ (2 * (n / 2 ^ (b + 1))) := by
        rw [hh _ _ ho ho h0, hw, ← Nat.pow_add]
        congr 1
        omega
      split at h
      · rename_i h1
        rw [if_pos h1]
        split at h
        · rename_i h2
          rw [if_pos h2]
          refine powGo_hom hD hh ha b _ (hD _ _ d1 ha h2) ?_ h
          rw [hh _ _ d1 ha h2, w1, ← Nat.pow_succ]
          congr 1
          omega
        · rename_i h2; exact absurd h h2
      · rename_i h1
        rw [if_neg h1]
        refine powGo_hom hD hh ha b _ d1 ?_ h
        rw [w1]
        congr 1
        omega
    · rename_i h0; exact absurd h h0

end

/-- The product of the powers of what is laid in. -/
def prodV (hv : List Mn → Nat) : List Int → List (List Mn) → Nat
  | [], _ => 1
  | _ :: _, [] => 1
  | n :: es, f :: fs => hv f ^ n.toNat * prodV hv es fs

theorem worthGo_hom {hv : List Mn → Nat} (hh : ∀ x y, DomM x → DomM y → prodE x y = 0 → hv (prodL x y) = hv x * hv y) (hD : ∀ x y, DomM x → DomM y → prodE x y = 0 → DomM (prodL x y)) :
    ∀ {es : List Int} {fs : List (List Mn)} {c : List Mn}, (∀ f ∈ fs, DomM f) → (∀ n ∈ es, 0 ≤ n ∧ n ≤ 64) → DomM c → (worthGo prodL prodE es fs c).2 = 0 → hv (worthGo prodL prodE es fs c).1 = hv c * prodV hv es fs
  | [], fs, c, _, _, _, _ => by unfold worthGo prodV; rw [Nat.mul_one]
  | _ :: _, [], c, _, _, _, _ => by unfold worthGo prodV; rw [Nat.mul_one]
  | n :: es, f :: fs, c, hf, hn, hc, h => by
    have hf' : ∀ g ∈ fs, DomM g := fun g hg => hf g (List.mem_cons_of_mem _ hg)
    have hn' : ∀ m ∈ es, 0 ≤ m ∧ m ≤ 64 := fun m hm => hn m (List.mem_cons_of_mem _ hm)
    have hnn := hn n (by simp)
    have hF := hf f (by simp)
    unfold worthGo prodV at *
    by_cases h0 : n = 0
    · subst h0
      rw [if_pos rfl] at h ⊢
      rw [worthGo_hom hh hD hf' hn' hc h]
      simp
    · rw [if_neg h0] at h ⊢
      split at h
      · rename_i h1
        rw [if_pos h1]
        obtain ⟨d1, w1⟩ := powGo_hom (hv := hv) (nil := []) (n := n.toNat) hD hh hF (Lib.bitLen n.toNat - 1) f hF (by rw [bit_top (by omega) (by omega), Nat.pow_one]) h1
        split at h
        · rename_i h2
          rw [if_pos h2, worthGo_hom hh hD hf' hn' (hD _ _ hc d1 h2) h, hh _ _ hc d1 h2, w1, Nat.mul_assoc]
        · rename_i h2; exact absurd h h2
      · rename_i h1; exact absurd h h1

theorem prodV_nought {hv : List Mn → Nat} (h0 : hv [] = 0) : ∀ {es : List Int} {fs : List (List Mn)}, noughtB es fs = true → prodV hv es fs = 0
  | [], _, h => by simp [noughtB] at h
  | _ :: _, [], h => by simp [noughtB] at h
  | n :: es, f :: fs, h => by
    have h' : (decide (0 < n) && f.length == 0 || noughtB es fs) = true := h
    rw [Bool.or_eq_true] at h'
    unfold prodV
    rcases h' with h' | h'
    · simp only [Bool.and_eq_true, decide_eq_true_eq, beq_iff_eq] at h'
      have : f = [] := List.eq_nil_of_length_eq_zero h'.2
      subst this
      rw [h0, Nat.zero_pow (by omega), Nat.zero_mul]
    · rw [prodV_nought h0 h', Nat.mul_zero]

theorem prodV_values (ats : List (List Nat)) : ∀ {es : List Int} {fs : List (List Mn)} {vs : List (List Nat)}, vs.map val = fs.map (worthN ats) → prodV (worthN ats) es fs = prodW es vs
  | [], _, _, _ => rfl
  | _ :: _, [], [], _ => rfl
  | _ :: _, [], _ :: _, h => by simp at h
  | _ :: _, _ :: _, [], h => by simp at h
  | n :: es, f :: fs, v :: vs, h => by
    simp only [List.map_cons, List.cons.injEq] at h
    unfold prodV prodW
    rw [h.1, prodV_values ats h.2]

theorem dom_const (c : List Nat) : DomM [(c, [])] := by
  intro k m hk
  match k with
  | 0 =>
    simp at hk
    subst hk
    exact ⟨by simp, fun j x hj => (by simp at hj)⟩
  | k + 1 => simp at hk

theorem compGo_worth (ats : List (List Nat)) (hD : ∀ x y, DomM x → DomM y → prodE x y = 0 → DomM (prodL x y)) {args : List (List Mn)} (ha : ∀ f ∈ args, DomM f) {vs : List (List Nat)} (hvs : vs.map val = args.map (worthN ats)) :
    ∀ {p : List Mn} {L : Lk}, DomM p → Rising L → (compGo args L p).2 = 0 → worthK ats (compGo args L p).1 = worthK ats L + worthN vs p
  | [], L, _, _, _ => by simp [compGo, worthN]
  | m :: p, L, hp, hL, h => by
    have hm : Small m.2 := hp 0 m rfl
    have hn : ∀ n ∈ m.2, 0 ≤ n ∧ n ≤ 64 := fun n hn => by
      obtain ⟨k, hk⟩ := List.mem_iff_getElem?.1 hn
      exact hm.2 k n hk
    unfold compGo at h ⊢
    split at h
    · rename_i h0
      rw [if_pos h0]
      split at h
      · rename_i h1
        rw [if_pos h1]
        obtain ⟨r1, w1⟩ := worthK_puts ats hL h1
        rw [compGo_worth ats hD ha hvs (fun k x hx => hp (k + 1) x hx) r1 h, w1, worthN]
        have e : worthN ats (worthV prodL prodE m.2 args [(m.1, [])]).1 = val m.1 * prodW m.2 vs := by
          rw [← prodV_values ats (es := m.2) hvs]
          unfold worthV at h0 ⊢
          cases hno : noughtB m.2 args
          · rw [hno] at h0
            simp only [Bool.false_eq_true, if_false] at h0 ⊢
            rw [worthGo_hom (hv := worthN ats) (fun x y dx dy hxy => worthN_prod ats dx dy hxy) hD ha hn (dom_const m.1) h0]
            simp [worthN, prodW]
          · simp only [if_true]
            rw [prodV_nought rfl hno, Nat.mul_zero]
            rfl
        rw [e]
        omega
      · rename_i h1; exact absurd h h1
    · rename_i h0; exact absurd h h0

end Go.Proofs.Ytfifgmcjilkigab
