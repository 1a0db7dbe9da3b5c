/- By way of each symbol in turn, plainly. -/
import Derived.Test.YtagndlcpcggmpaaTPrcP
namespace Go.Proofs.Ytagndlcpcggmpaa

/-- What has been told as far as the place (i, j), by way of k. -/
def stp (W : Nat → Nat → Bool) (k i j : Nat) : Nat → Nat → Bool := fun a b => W a b || (decide (a < i ∨ (a = i ∧ b < j)) && W a k && W k b)

theorem stp_start (W : Nat → Nat → Bool) (k : Nat) : stp W k 0 0 = W := by
  funext a b
  simp [stp]

theorem stp_row (W : Nat → Nat → Bool) (k i j b : Nat) : stp W k i j k b = W k b := by
  unfold stp
  cases W k b <;> simp

theorem stp_col (W : Nat → Nat → Bool) (k i j a : Nat) : stp W k i j a k = W a k := by
  unfold stp
  cases W a k <;> simp

theorem stp_at (W : Nat → Nat → Bool) (k i j : Nat) : stp W k i j i j = W i j := by simp [stp]

def updB (U : Nat → Nat → Bool) (i j : Nat) (x : Bool) : Nat → Nat → Bool := fun a b => if a = i ∧ b = j then x else U a b

theorem stp_step {W : Nat → Nat → Bool} {k i j : Nat} (h : W i k = true) : updB (stp W k i j) i j (W i j || W k j) = stp W k i (j + 1) := by
  funext a b
  unfold updB stp
  by_cases hc : a = i ∧ b = j
  · obtain ⟨rfl, rfl⟩ := hc
    rw [if_pos ⟨rfl, rfl⟩, h]
    simp
  · rw [if_neg hc, show decide (a < i ∨ a = i ∧ b < j) = decide (a < i ∨ a = i ∧ b < j + 1) from by rw [decide_eq_decide]; omega]

theorem stp_skip {W : Nat → Nat → Bool} {k i : Nat} (h : W i k = false) : stp W k i 0 = stp W k (i + 1) 0 := by
  funext a b
  unfold stp
  by_cases hc : a = i
  · subst hc
    simp [h]
  · rw [show decide (a < i ∨ a = i ∧ b < 0) = decide (a < i + 1 ∨ a = i + 1 ∧ b < 0) from by rw [decide_eq_decide]; omega]

theorem stp_next (W : Nat → Nat → Bool) (k i n a b : Nat) (hb : b < n) : stp W k i n a b = stp W k (i + 1) 0 a b := by
  unfold stp
  rw [show decide (a < i ∨ a = i ∧ b < n) = decide (a < i + 1 ∨ a = i + 1 ∧ b < 0) from by rw [decide_eq_decide]; omega]

/-- As far as the symbol k: whatever goes by way of a lesser one is told. -/
structure War (B : Nat → Nat → Prop) (n k : Nat) (U : Nat → Nat → Bool) : Prop where
  base : ∀ i j, B i j → i < n ∧ j < n ∧ U i j = true
  least : ∀ S : Nat → Nat → Prop, (∀ i j, B i j → S i j) → Tr S → ∀ i j, i < n → j < n → U i j = true → S i j
  tr : ∀ i m j, i < n → m < k → j < n → U i m = true → U m j = true → U i j = true

theorem War.congr {B : Nat → Nat → Prop} {n k : Nat} {U V : Nat → Nat → Bool} (h : War B n k U) (hk : k ≤ n) (e : ∀ a b, a < n → b < n → U a b = V a b) : War B n k V :=
  ⟨fun i j hb => by obtain ⟨h1, h2, h3⟩ := h.base i j hb; exact ⟨h1, h2, by rw [← e _ _ h1 h2]; exact h3⟩,
   fun S hb hS i j hi hj hv => h.least S hb hS i j hi hj (by rw [e _ _ hi hj]; exact hv),
   fun i m j hi hm hj h1 h2 => by rw [← e _ _ hi hj]; exact h.tr i m j hi hm hj (by rw [e _ _ hi (by omega)]; exact h1) (by rw [e _ _ (by omega) hj]; exact h2)⟩

theorem War.next {B : Nat → Nat → Prop} {n k : Nat} {W : Nat → Nat → Bool} (h : War B n k W) (hk : k < n) : War B n (k + 1) (stp W k n 0) := by
  have e : ∀ a b, a < n → (stp W k n 0 a b = true ↔ W a b = true ∨ (W a k = true ∧ W k b = true)) := fun a b ha => by
    unfold stp
    simp [ha]
  refine ⟨fun i j hb => ?_, fun S hb hS i j hi hj hv => ?_, fun i m j hi hm hj h1 h2 => ?_⟩
  · obtain ⟨h1, h2, h3⟩ := h.base i j hb
    exact ⟨h1, h2, (e i j h1).2 (.inl h3)⟩
  · rcases (e i j hi).1 hv with hv | ⟨h1, h2⟩
    · exact h.least S hb hS i j hi hj hv
    · exact hS _ _ _ (h.least S hb hS i k hi hk h1) (h.least S hb hS k j hk hj h2)
  · rw [e _ _ hi] at h1 ⊢
    rw [e _ _ (by omega)] at h2
    by_cases hmk : m = k
    · subst hmk
      have h3 : W i m = true := by rcases h1 with h1 | h1; exact h1; exact h1.1
      have h4 : W m j = true := by rcases h2 with h2 | h2; exact h2; exact h2.2
      exact .inr ⟨h3, h4⟩
    · have hm2 : m < k := by omega
      rcases h1 with h1 | ⟨h1, h1'⟩ <;> rcases h2 with h2 | ⟨h2, h2'⟩
      · exact .inl (h.tr i m j hi hm2 hj h1 h2)
      · exact .inr ⟨h.tr i m k hi hm2 hk h1 h2, h2'⟩
      · exact .inr ⟨h1, h.tr k m j hk hm2 hj h1' h2⟩
      · exact .inr ⟨h1, h2'⟩

theorem War.up {ps : List (Int × Int)} {n : Nat} {U : Nat → Nat → Bool} (h : War (PR ps) n n U) (i j : Nat) : (i < n ∧ j < n ∧ U i j = true) ↔ Up ps i j :=
  ⟨fun hh S hb hS => h.least S hb hS i j hh.1 hh.2.1 hh.2.2, fun hu => hu (fun i j => i < n ∧ j < n ∧ U i j = true) h.base (fun i m j h1 h2 => ⟨h1.1, h2.2.1, h.tr i m j h1.1 h1.2.1 h2.2.1 h1.2.2 h2.2.2⟩)⟩

/-- The pairs themselves. -/
def ToldU (ps : List (Int × Int)) (U : Nat → Nat → Bool) : Prop := ∀ i j, U i j = true ↔ PR ps i j

theorem toldU_zero : ToldU [] (fun _ _ => false) := fun i j => by simp [PR]

theorem toldU_step {ps : List (Int × Int)} {U : Nat → Nat → Bool} (h : ToldU ps U) (f g : Nat) : ToldU (ps ++ [((f : Int), (g : Int))]) (updB U f g true) := fun i j => by
  unfold updB PR
  rw [List.mem_append]
  by_cases hc : i = f ∧ j = g
  · obtain ⟨rfl, rfl⟩ := hc
    simp
  · rw [if_neg hc, h i j]
    simp only [List.mem_singleton, Prod.mk.injEq]
    constructor
    · exact .inl
    · rintro (h | ⟨h1, h2⟩)
      · exact h
      · exact absurd ⟨by omega, by omega⟩ hc

theorem ToldU.war {ps : List (Int × Int)} {U : Nat → Nat → Bool} {n : Nat} (h : ToldU ps U) (hn : InN (n : Int) ps) : War (PR ps) n 0 U :=
  ⟨fun i j hp => by have := hn _ hp; simp only at this; exact ⟨by omega, by omega, (h i j).2 hp⟩, fun S hb _ i j _ _ hu => hb i j ((h i j).1 hu), fun _ _ _ _ hm => by omega⟩

end Go.Proofs.Ytagndlcpcggmpaa
