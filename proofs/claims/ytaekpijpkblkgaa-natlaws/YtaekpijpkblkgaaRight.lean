/- Sums, products and comparisons of naturals, in numbers. -/
import Derived.Test.YtaekpijpkblkgaaFrame
namespace Go.Proofs.Ytaekpijpkblkgaa
open Go.RowKit

theorem addE_right {xs ys : List Nat} (h : rightB xs = true) (h' : rightB ys = true) : addE xs ys = resE (val xs + val ys) := by simp [addE, h, h']
theorem addL_right {xs ys : List Nat} (h : rightB xs = true) (h' : rightB ys = true) : addL xs ys = resL (val xs + val ys) := by simp [addL, h, h']
theorem mulE_right {xs ys : List Nat} (h : rightB xs = true) (h' : rightB ys = true) : mulE xs ys = resE (val xs * val ys) := by simp [mulE, h, h']
theorem mulL_right {xs ys : List Nat} (h : rightB xs = true) (h' : rightB ys = true) : mulL xs ys = resL (val xs * val ys) := by simp [mulL, h, h']
theorem cmpE_right {xs ys : List Nat} (h : rightB xs = true) (h' : rightB ys = true) : cmpE xs ys = 0 := by simp [cmpE, h, h']
theorem cmpV_right {xs ys : List Nat} (h : rightB xs = true) (h' : rightB ys = true) : cmpV xs ys = cmpI (val xs) (val ys) := by simp [cmpV, h, h']

theorem add_right (v u : Value) (xs ys : List Nat) (w : World) (h : Sl w v xs) (h' : Sl w u ys) (hr : rightB xs = true) (hr' : rightB ys = true) (n : Nat) (hn : val xs + val ys = n) :
    Calls Try.prog 17 #[v, u] w fun e w' => ∃ v', e = .returned (.tuple #[v', .int .i64 (resE n)]) ∧ Ow w' w.heap.size v' (resL n) ∧ Below w.heap.size w w' := by
  have := add_any v u xs ys w h h'
  rw [addE_right hr hr', addL_right hr hr', hn] at this
  exact this

theorem mul_right (v u : Value) (xs ys : List Nat) (w : World) (h : Sl w v xs) (h' : Sl w u ys) (hr : rightB xs = true) (hr' : rightB ys = true) (n : Nat) (hn : val xs * val ys = n) :
    Calls Try.prog 19 #[v, u] w fun e w' => ∃ v', e = .returned (.tuple #[v', .int .i64 (resE n)]) ∧ Ow w' w.heap.size v' (resL n) ∧ Below w.heap.size w w' := by
  have := mul_any v u xs ys w h h'
  rw [mulE_right hr hr', mulL_right hr hr', hn] at this
  exact this

theorem cmp_right (v u : Value) (xs ys : List Nat) (w : World) (h : Sl w v xs) (h' : Sl w u ys) (hr : rightB xs = true) (hr' : rightB ys = true) (c : Int) (hc : cmpI (val xs) (val ys) = c) :
    Calls Try.prog 21 #[v, u] w fun e w' => e = .returned (.tuple #[.int .i64 c, .int .i64 0]) ∧ ∃ n, w' = w.drewN n := by
  have := cmp_any v u xs ys w h h'
  rw [cmpV_right hr hr', cmpE_right hr hr', hc] at this
  exact this

/-- Whether a number has at most 64 limbs. -/
def okB (n : Nat) : Bool := decide ((limbs n).length ≤ 64)

theorem resE_ok {n : Nat} (h : okB n = true) : resE n = 0 := by unfold okB at h; simp at h; simp [resE, h]
theorem resE_no {n : Nat} (h : okB n = false) : resE n = 2 := by unfold okB at h; simp at h; simp [resE]; omega
theorem resL_ok {n : Nat} (h : okB n = true) : resL n = limbs n := by unfold okB at h; simp at h; simp [resL, h]
theorem resL_no {n : Nat} (h : okB n = false) : resL n = [] := by unfold okB at h; simp at h; simp [resL]; omega
theorem right_limbs {n : Nat} (h : okB n = true) : rightB (limbs n) = true := by rw [rightB_limbs]; exact h
theorem right_resL (n : Nat) : rightB (resL n) = true := by
  cases h : okB n
  · rw [resL_no h]; rfl
  · rw [resL_ok h]; exact right_limbs h
theorem val_resL {n : Nat} (h : okB n = true) : val (resL n) = n := by rw [resL_ok h, val_limbs]

theorem val_pos {xs : List Nat} (h : limbs (val xs) = xs) (hl : 0 < xs.length) : 0 < val xs := by
  apply Nat.pos_of_ne_zero
  intro h0
  rw [h0, limbs_zero] at h
  rw [← h] at hl
  simp at hl

theorem okB_int (n : Nat) : (resE n == 0) = okB n := by
  cases h : okB n
  · rw [resE_no h]; rfl
  · rw [resE_ok h]; rfl

theorem okB_mono {a b : Nat} (h : a ≤ b) (hb : okB b = true) : okB a = true := by
  have := length_limbs_mono h
  unfold okB at hb ⊢
  simp at hb ⊢
  omega

theorem cmpI_swap (a b : Nat) : cmpI b a = -cmpI a b := by
  unfold cmpI
  by_cases h1 : a < b
  · rw [if_neg (by omega), if_pos h1, if_pos h1]; rfl
  · by_cases h2 : b < a
    · rw [if_pos h2, if_neg h1, if_pos h2]
    · rw [if_neg h2, if_neg h1, if_neg h1, if_neg h2]; rfl

theorem cmpI_bounds (a b : Nat) : -1 ≤ cmpI a b ∧ cmpI a b ≤ 1 := by
  unfold cmpI
  by_cases h1 : a < b
  · rw [if_pos h1]; omega
  · by_cases h2 : b < a
    · rw [if_neg h1, if_pos h2]; omega
    · rw [if_neg h1, if_neg h2]; omega

theorem cmpI_add (a b c : Nat) : cmpI (a + c) (b + c) = cmpI a b := by
  unfold cmpI
  by_cases h1 : a < b
  · rw [if_pos h1, if_pos (by omega)]
  · by_cases h2 : b < a
    · rw [if_neg h1, if_neg (by omega), if_pos h2, if_pos (by omega)]
    · rw [if_neg h1, if_neg (by omega), if_neg h2, if_neg (by omega)]

theorem cmpI_mul (a b c : Nat) (hc : 0 < c) : cmpI (a * c) (b * c) = cmpI a b := by
  have h1 : a * c < b * c ↔ a < b := Nat.mul_lt_mul_right hc
  have h2 : b * c < a * c ↔ b < a := Nat.mul_lt_mul_right hc
  unfold cmpI
  simp only [h1, h2]

end Go.Proofs.Ytaekpijpkblkgaa
