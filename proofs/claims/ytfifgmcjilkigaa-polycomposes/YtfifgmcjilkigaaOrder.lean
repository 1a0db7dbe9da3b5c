/- What comparing answers, of the program's and of the document's. -/
import Derived.Test.YtfifgmcjilkigaaTrim
namespace Go.Proofs.Ytfifgmcjilkigaa
open Go.RowKit

set_option maxHeartbeats 400000 in
theorem order_any (v u : Value) (xs ys : List Nat) (w : World) (h : Sl w v xs) (h' : Sl w u ys) (hn : limbs (val xs) = xs) (hn' : limbs (val ys) = ys) :
    Calls Try.prog 76 #[v, u] w fun e w' => e = .returned (.int .i64 (cmpI (val xs) (val ys))) ∧ ∃ n, w' = w.drewN n := by
  obtain ⟨ao, cap, rfl, hao, hca, hcl⟩ := h.flat
  obtain ⟨bo, cap', rfl, hbo, hcb, hcl'⟩ := h'.flat
  unfold maxLen at hca hcb
  have HL : Hid (Lim xs) := h.1
  have HL' : Hid (Lim ys) := h'.1
  have HN : Hid (limbs (val xs) = xs) := hn
  have HN' : Hid (limbs (val ys) = ys) := hn'
  clear h h' hn hn'
  by_cases hl1 : xs.length < ys.length
  · go_enter Try.func76, Try.ntmps76
    go_wp2
    go_ret
    exact ⟨ret1i (cmpI_lt (val_lt_of_length HN.out HN'.out hl1)).symm, 0, rfl⟩
  by_cases hl2 : ys.length < xs.length
  · go_enter Try.func76, Try.ntmps76
    go_wp2
    go_ret
    exact ⟨ret1i (cmpI_gt (val_lt_of_length HN'.out HN.out hl2)).symm, 0, rfl⟩
  go_enter Try.func76, Try.ntmps76
  go_wp2
  go_loopw [5] (fun i wr => ∃ k : Nat, k ≤ xs.length ∧ i = .int .i64 ((k : Int) - 1) ∧ xs.drop k = ys.drop k ∧ ∃ n, wr = w.drewN n) (fun i _ => (intOf i + 1).toNat)
  case atStart => exact ⟨xs.length, Nat.le_refl _, rfl, by rw [List.drop_of_length_le (Nat.le_refl _), List.drop_of_length_le (by omega)], 0, rfl⟩
  case round =>
    obtain ⟨k, hk, rfl, ht, n, rfl⟩ := hrel
    have HT : Hid (xs.drop k = ys.drop k) := ht
    clear ht
    by_cases hk0 : k = 0
    · subst hk0
      go_wp2
      go_ret
      have := HT.out
      simp only [List.drop_zero] at this
      subst this
      exact ⟨ret1i (cmpI_eq _).symm, n, rfl⟩
    · obtain ⟨j, rfl⟩ : ∃ j, k = j + 1 := ⟨k - 1, by omega⟩
      rw [show ((j + 1 : Nat) : Int) - 1 = (j : Int) by omega]
      obtain ⟨g, off, x, rfl, hx1, hx2, hx3⟩ := hcl j (by omega)
      obtain ⟨g', off', y, rfl, hy1, hy2, hy3⟩ := hcl' j (by omega)
      have HX : Hid (xs[j]? = some x) := hx1
      have HY : Hid (ys[j]? = some y) := hy1
      have hlt : j < xs.length := by omega
      have hlt' : j < ys.length := by omega
      clear hx1 hy1 hcl hcl'
      by_cases h1 : x < y
      · go_wp2
        go_quiet (fail)
        go_wp2
        go_ret
        exact ⟨ret1i (cmpI_lt (val_lt_at HL.out HX.out HY.out HT.out h1)).symm, _, World.drewN_drewN _ _ _⟩
      by_cases h2 : y < x
      · go_wp2
        go_quiet (fail)
        go_wp2
        go_quiet (fail)
        go_wp2
        go_ret
        exact ⟨ret1i (cmpI_gt (val_lt_at HL'.out HY.out HX.out HT.out.symm h2)).symm, _, by simp only [World.drewN_drewN]; rfl⟩
      have hxy : x = y := by omega
      subst hxy
      go_wp2
      go_quiet (fail)
      go_wp2
      go_quiet (fail)
      go_wp2
      go_roundw
      case rel => exact ⟨j, by omega, rfl, by rw [drop_cons? HX.out, drop_cons? HY.out, HT.out], _, rfl⟩
      case measure => simp [intOf]

set_option maxHeartbeats 400000 in
theorem cmp_any (v u : Value) (xs ys : List Nat) (w : World) (h : Sl w v xs) (h' : Sl w u ys) :
    Calls Try.prog 61 #[v, u] w fun e w' => e = .returned (.tuple #[.int .i64 (cmpV xs ys), .int .i64 (cmpE xs ys)]) ∧ ∃ n, w' = w.drewN n := by
  go_enter Try.func61, Try.ntmps61
  go_wp2_with fail
  refine (right_any v xs _ h).mono ?_
  rintro e w1 ⟨rfl, rfl⟩
  cases hr : rightB xs
  · go_wp2
    go_ret2
    exact ⟨by simp [cmpV, cmpE, hr], 0, rfl⟩
  · go_wp2_with fail
    refine (right_any u ys _ h').mono ?_
    rintro e w1 ⟨rfl, rfl⟩
    cases hr' : rightB ys
    · go_wp2
      go_ret2
      exact ⟨by simp [cmpV, cmpE, hr'], 0, rfl⟩
    · go_wp2_with fail
      refine (order_any v u xs ys _ h h' (limbs_val_of_right h.1 hr) (limbs_val_of_right h'.1 hr')).mono ?_
      rintro e w1 ⟨rfl, n, rfl⟩
      go_wp2
      go_ret2
      exact ⟨by simp [cmpV, cmpE, hr, hr'], n, rfl⟩

set_option maxHeartbeats 800000 in
theorem refCmp_any (v u : Value) (xs ys : List Nat) (w : World) (h : Sl w v xs) (h' : Sl w u ys) :
    Calls Try.prog 42 #[v, u] w fun e w' => e = .returned (.tuple #[.int .i64 (cmpV xs ys), .int .i64 (cmpE xs ys)]) ∧ ∃ n, w' = w.drewN n := by
  go_enter Try.func42, Try.ntmps42
  go_wp2_with fail
  refine (refRight_any v xs _ h).mono ?_
  rintro e w1 ⟨rfl, rfl⟩
  cases hr : rightB xs
  · go_wp2
    go_ret2
    exact ⟨by simp [cmpV, cmpE, hr], 0, rfl⟩
  go_wp2_with fail
  refine (refRight_any u ys _ h').mono ?_
  rintro e w1 ⟨rfl, rfl⟩
  cases hr' : rightB ys
  · go_wp2
    go_ret2
    exact ⟨by simp [cmpV, cmpE, hr'], 0, rfl⟩
  have HE : Hid (cmpE xs ys = 0) := by show _ = _; simp [cmpE, hr, hr']
  have HV : Hid (cmpV xs ys = cmpI (val xs) (val ys)) := by show _ = _; simp [cmpV, hr, hr']
  have HN : Hid (limbs (val xs) = xs) := limbs_val_of_right h.1 hr
  have HN' : Hid (limbs (val ys) = ys) := limbs_val_of_right h'.1 hr'
  have HL : Hid (Lim xs) := h.1
  have HL' : Hid (Lim ys) := h'.1
  obtain ⟨ao, cap, rfl, hao, hca, hcl⟩ := h.flat
  obtain ⟨bo, cap', rfl, hbo, hcb, hcl'⟩ := h'.flat
  unfold maxLen at hca hcb
  clear h h' hr hr'
  by_cases hl1 : xs.length < ys.length
  · go_wp2
    go_ret2
    exact ⟨ret2 (by rw [HV.out, cmpI_lt (val_lt_of_length HN.out HN'.out hl1)]) HE.out.symm, 0, rfl⟩
  by_cases hl2 : ys.length < xs.length
  · go_wp2
    go_ret2
    exact ⟨ret2 (by rw [HV.out, cmpI_gt (val_lt_of_length HN'.out HN.out hl2)]) HE.out.symm, 0, rfl⟩
  have hle : ((xs.length : Int) == ys.length) = true := by rw [beq_iff_eq]; omega
  go_wp2
  go_loopw [6] (fun i wr => ∃ k : Nat, k ≤ xs.length ∧ i = .int .i64 ((k : Int) - 1) ∧ xs.drop k = ys.drop k ∧ ∃ n, wr = w1.drewN n) (fun i _ => (intOf i + 1).toNat)
  case atStart => exact ⟨xs.length, Nat.le_refl _, rfl, by rw [List.drop_of_length_le (Nat.le_refl _), List.drop_of_length_le (by omega)], 0, rfl⟩
  case round =>
    obtain ⟨k, hk, rfl, ht, n, rfl⟩ := hrel
    have HT : Hid (xs.drop k = ys.drop k) := ht
    clear ht
    by_cases hk0 : k = 0
    · subst hk0
      go_wp2
      go_ret2
      have := HT.out
      simp only [List.drop_zero] at this
      subst this
      exact ⟨ret2 (by rw [HV.out, cmpI_eq]) HE.out.symm, n, rfl⟩
    · obtain ⟨j, rfl⟩ : ∃ j, k = j + 1 := ⟨k - 1, by omega⟩
      rw [show ((j + 1 : Nat) : Int) - 1 = (j : Int) by omega]
      obtain ⟨g, off, x, rfl, hx1, hx2, hx3⟩ := hcl j (by omega)
      obtain ⟨g', off', y, rfl, hy1, hy2, hy3⟩ := hcl' j (by omega)
      have HX : Hid (xs[j]? = some x) := hx1
      have HY : Hid (ys[j]? = some y) := hy1
      have hlt : j < xs.length := by omega
      have hlt' : j < ys.length := by omega
      clear hx1 hy1 hcl hcl'
      by_cases h1 : x < y
      · go_wp2
        go_quiet (fail)
        go_wp2
        go_ret2
        exact ⟨ret2 (by rw [HV.out, cmpI_lt (val_lt_at HL.out HX.out HY.out HT.out h1)]) HE.out.symm, _, World.drewN_drewN _ _ _⟩
      by_cases h2 : y < x
      · go_wp2
        go_quiet (fail)
        go_wp2
        go_quiet (fail)
        go_wp2
        go_ret2
        exact ⟨ret2 (by rw [HV.out, cmpI_gt (val_lt_at HL'.out HY.out HX.out HT.out.symm h2)]) HE.out.symm, _, by simp only [World.drewN_drewN]; rfl⟩
      have hxy : x = y := by omega
      subst hxy
      go_wp2
      go_quiet (fail)
      go_wp2
      go_quiet (fail)
      go_wp2
      go_roundw
      case rel => exact ⟨j, by omega, rfl, by rw [drop_cons? HX.out, drop_cons? HY.out, HT.out], _, rfl⟩
      case measure => simp [intOf]

end Go.Proofs.Ytfifgmcjilkigaa
