/- What the comparisons of exponents answer. -/
import Derived.Test.YtfifgmcjilkigaaPBase
namespace Go.Proofs.Ytfifgmcjilkigaa
open Go.RowKit

def cmpZ (a b : Int) : Int := if a < b then -1 else if b < a then 1 else 0

theorem cmpInt_any (a b : Int) (w : World) : Calls Try.prog 75 #[.int .i64 a, .int .i64 b] w fun e w' => e = .returned (.int .i64 (cmpZ a b)) ∧ w' = w := by
  by_cases h1 : a < b
  · go_enter Try.func75, Try.ntmps75
    go_wp2
    go_ret
    exact ⟨ret1i (by simp [cmpZ, h1]), rfl⟩
  · by_cases h2 : b < a
    · go_enter Try.func75, Try.ntmps75
      go_wp2
      go_ret
      exact ⟨ret1i (by simp [cmpZ, h1, h2]), rfl⟩
    · go_enter Try.func75, Try.ntmps75
      go_wp2
      go_ret
      exact ⟨ret1i (by rw [cmpZ, if_neg (by omega), if_neg (by omega)]), rfl⟩

theorem cmpX_at {es fs : List Int} {k : Nat} {a b : Int} (ht : es.take k = fs.take k) (ha : es[k]? = some a) (hb : fs[k]? = some b) : (¬ a = b → cmpX es fs = cmpZ a b) ∧ (a = b → es.take (k + 1) = fs.take (k + 1)) := by
  have h1 := (List.getElem?_eq_some_iff.1 ha).1
  have h2 := (List.getElem?_eq_some_iff.1 hb).1
  refine ⟨fun hne => ?_, fun h => ?_⟩
  · rw [cmpX_drop k ht (by omega) (by omega), drop_get ha, drop_get hb]
    unfold cmpX cmpZ
    by_cases h3 : a < b
    · rw [if_pos h3, if_pos h3]
    · have h4 : b < a := by omega
      rw [if_neg h3, if_pos h4, if_neg h3, if_pos h4]
  · subst h
    rw [take_get ha, take_get hb, ht]

theorem cmpX_end1 {es fs : List Int} (ht : es.take fs.length = fs.take fs.length) (h : fs.length < es.length) : cmpX es fs = 1 := by
  rw [cmpX_drop fs.length ht (by omega) (by omega), List.drop_of_length_le (Nat.le_refl fs.length)]
  match hes : es.drop fs.length with
  | [] => have := congrArg List.length hes; simp at this; omega
  | _ :: _ => rfl

theorem cmpX_end2 {es fs : List Int} (ht : es.take es.length = fs.take es.length) (h : es.length ≤ fs.length) : cmpX es fs = if es.length < fs.length then -1 else 0 := by
  rw [cmpX_drop es.length ht (by omega) (by omega), List.drop_of_length_le (Nat.le_refl es.length)]
  match hbs : fs.drop es.length with
  | [] => have := congrArg List.length hbs; simp at this; rw [if_neg (by omega)]; rfl
  | _ :: _ => have := congrArg List.length hbs; simp at this; rw [if_pos (by omega)]; rfl

theorem cmpZ_ne {a b : Int} (h : ¬ a = b) : ¬ cmpZ a b = 0 := by unfold cmpZ; split; omega; split; omega; omega
theorem cmpZ_eq (a : Int) : cmpZ a a = 0 := by simp [cmpZ]

set_option maxHeartbeats 800000 in
theorem slicesCompare_any (v u : Value) (es fs : List Int) (w : World) (h : Is w v es) (h' : Is w u fs) :
    Calls Try.prog 60 #[v, u] w fun e w' => e = .returned (.int .i64 (cmpX es fs)) ∧ w' = w := by
  obtain ⟨ao, cap, rfl, hao, hca, hcl⟩ := h.flat
  obtain ⟨bo, cap', rfl, hbo, hcb, hcl'⟩ := h'.flat
  unfold maxLen at hca hcb
  clear h h'
  go_enter Try.func60, Try.ntmps60
  go_wp2
  go_loopw [11] (fun i wr => ∃ k : Nat, k ≤ es.length ∧ k ≤ fs.length ∧ i = .int .i64 k ∧ es.take k = fs.take k ∧ wr = w) (fun i _ => es.length - (intOf i).toNat)
  case atStart => exact ⟨0, by omega, by omega, rfl, rfl, rfl⟩
  case round =>
    obtain ⟨k, hk, hk', rfl, ht, hw⟩ := hrel
    subst hw
    have HT : Hid (es.take k = fs.take k) := ht
    clear ht
    by_cases hlt : k < es.length
    · obtain ⟨g, off, x, rfl, hx1, hx2, hx3, hx4⟩ := hcl k hlt
      have HX : Hid (es[k]? = some x) := hx1
      rw [Nat.mul_one] at hx4
      clear hx1 hcl
      by_cases hlt' : k < fs.length
      · obtain ⟨g', off', y, rfl, hy1, hy2, hy3, hy4⟩ := hcl' k hlt'
        have HY : Hid (fs[k]? = some y) := hy1
        rw [Nat.mul_one] at hy4
        clear hy1 hcl'
        by_cases hxy : x = y
        · subst hxy
          go_wp2_with (go_at_call 75; refine (cmpInt_any x x _).mono ?_; rw [cmpZ_eq]; rintro e w' ⟨rfl, rfl⟩)
          go_roundw
          case rel => exact ⟨k + 1, by omega, by omega, by go_num, (cmpX_at HT.out HX.out HY.out).2 rfl, trivial⟩
          case measure => simp [intOf]; omega
        · have hne := cmpZ_ne hxy
          have HR : Hid (cmpX es fs = cmpZ x y) := (cmpX_at HT.out HX.out HY.out).1 hxy
          obtain ⟨c, hc⟩ : ∃ c, c = cmpZ x y := ⟨_, rfl⟩
          rw [← hc] at hne
          have HC : Hid (c = cmpZ x y) := hc
          have hcb0 : (c != 0) = true := by rw [bne_iff_ne]; exact hne
          clear hc
          go_wp2_with (go_at_call 75; refine (cmpInt_any x y _).mono ?_; rw [← HC.out]; rintro e w' ⟨rfl, rfl⟩)
          go_ret
          exact ⟨ret1i (by rw [HR.out, HC.out]), rfl⟩
      · have hkb : k = fs.length := by omega
        subst hkb
        clear hcl'
        go_wp2
        go_ret
        exact ⟨ret1i (cmpX_end1 HT.out (by omega)).symm, rfl⟩
    · have hka : k = es.length := by omega
      subst hka
      have HR := cmpX_end2 HT.out (by omega)
      clear hcl hcl'
      by_cases h2 : es.length < fs.length
      · rw [if_pos h2] at HR
        have HR : Hid (cmpX es fs = -1) := HR
        go_wp2
        go_ret
        exact ⟨ret1i HR.out.symm, rfl⟩
      · rw [if_neg h2] at HR
        have HR : Hid (cmpX es fs = 0) := HR
        go_wp2
        go_ret
        exact ⟨ret1i HR.out.symm, rfl⟩

theorem comesFirst_any (v u : Value) (es fs : List Int) (w : World) (h : Is w v es) (h' : Is w u fs) :
    Calls Try.prog 39 #[v, u] w fun e w' => e = .returned (.bool (decide (cmpX es fs < 0))) ∧ w' = w := by
  go_enter Try.func39, Try.ntmps39
  go_wp2_with (go_at_call 60; refine (slicesCompare_any v u es fs _ h h').mono ?_; rintro e w' ⟨rfl, rfl⟩)
  go_ret
  exact ⟨rfl, rfl⟩

set_option maxHeartbeats 800000 in
theorem slicesEqual_any (v u : Value) (es fs : List Int) (w : World) (h : Is w v es) (h' : Is w u fs) :
    Calls Try.prog 40 #[v, u] w fun e w' => e = .returned (.bool (decide (es = fs))) ∧ ∃ n, w' = w.drewN n := by
  obtain ⟨ao, cap, rfl, hao, hca, hcl⟩ := h.flat
  obtain ⟨bo, cap', rfl, hbo, hcb, hcl'⟩ := h'.flat
  unfold maxLen at hca hcb
  clear h h'
  by_cases hl : es.length = fs.length
  · go_enter Try.func40, Try.ntmps40
    go_wp2
    go_loopw [13] (fun i wr => ∃ k : Nat, k ≤ es.length ∧ i = .int .i64 k ∧ es.take k = fs.take k ∧ ∃ n, wr = w.drewN n) (fun i _ => es.length - (intOf i).toNat)
    case atStart => exact ⟨0, by omega, rfl, rfl, 0, rfl⟩
    case round =>
      obtain ⟨k, hk, rfl, ht, n, rfl⟩ := hrel
      have HT : Hid (es.take k = fs.take k) := ht
      clear ht
      by_cases hlt : k < es.length
      · have hlt' : k < fs.length := by omega
        obtain ⟨g, off, x, rfl, hx1, hx2, hx3, hx4⟩ := hcl k hlt
        have HX : Hid (es[k]? = some x) := hx1
        rw [Nat.mul_one] at hx4
        obtain ⟨g', off', y, rfl, hy1, hy2, hy3, hy4⟩ := hcl' k hlt'
        have HY : Hid (fs[k]? = some y) := hy1
        rw [Nat.mul_one] at hy4
        clear hx1 hy1 hcl hcl'
        by_cases hxy : x = y
        · subst hxy
          have hb0 : (x != x) = false := by simp
          go_wp2
          go_quiet (fail)
          go_wp2
          go_roundw
          case rel => exact ⟨k + 1, by omega, by go_num, (cmpX_at HT.out HX.out HY.out).2 rfl, _, rfl⟩
          case measure => simp [intOf]; omega
        · have hb0 : (x != y) = true := by rw [bne_iff_ne]; exact hxy
          have HNE : Hid (¬ es = fs) := fun h => hxy (by have h1 := HX.out; rw [h, HY.out] at h1; exact (Option.some.inj h1).symm)
          go_wp2
          go_quiet (fail)
          go_wp2
          go_ret
          exact ⟨ret1b (by rw [decide_eq_false HNE.out]), _, World.drewN_drewN _ _ _⟩
      · have hka : k = es.length := by omega
        subst hka
        have HR : Hid (es = fs) := by
          have := HT.out
          rwa [List.take_of_length_le (Nat.le_refl _), List.take_of_length_le (by omega)] at this
        clear hcl hcl'
        go_wp2
        go_ret
        exact ⟨ret1b (by rw [decide_eq_true HR.out]), n, rfl⟩
  · have hb : ((es.length : Int) != (fs.length : Int)) = true := by rw [bne_iff_ne]; omega
    clear hcl hcl'
    go_enter Try.func40, Try.ntmps40
    go_wp2
    go_ret
    exact ⟨ret1b (by simp; intro h; exact hl (by rw [h])), 0, rfl⟩

end Go.Proofs.Ytfifgmcjilkigaa
