/- The document's order and small. -/
import Derived.Test.YtfifgmcjilkigaaPRefA
namespace Go.Proofs.Ytfifgmcjilkigaa
open Go.RowKit Go.Maps

def ordGo (es fs : List Int) : Nat → Nat → Int
  | 0, _ => 0
  | n + 1, k => if expI es k < expI fs k then -1 else if expI fs k < expI es k then 1 else ordGo es fs n (k + 1)

/-- Which of two rows of exponents comes first, where one that ends goes on with 0. -/
def ordX (es fs : List Int) : Int := ordGo es fs (max es.length fs.length) 0

theorem expI_range {es : List Int} (h : ∀ (k : Nat) (x : Int), es[k]? = some x → -9223372036854775808 ≤ x ∧ x ≤ 9223372036854775807) (k : Nat) : -9223372036854775808 ≤ expI es k ∧ expI es k ≤ 9223372036854775807 := by
  unfold expI
  cases hk : es[k]? with
  | none => simp
  | some x => exact h k x hk

set_option maxRecDepth 100000 in
set_option maxHeartbeats 800000 in
theorem refOrder_any (v u : Value) (es fs : List Int) (w : World) (h : Is w v es) (h' : Is w u fs) :
    Calls Try.prog 34 #[v, u] w fun e w' => e = .returned (.int .i64 (ordX es fs)) ∧ w' = w := by
  obtain ⟨ao, cap, rfl, hao, hca, q0⟩ := Row.flat h
  obtain ⟨bo, cap', rfl, hbo, hcb, q0'⟩ := Row.flat h'
  unfold maxLen at hca hcb
  have HI : Hid (Is w (.slice ao es.length cap) es) := h
  have HJ : Hid (Is w (.slice bo fs.length cap') fs) := h'
  clear h h' q0 q0'
  go_enter Try.func34, Try.ntmps34
  go_wp2
  go_loopw [5] (fun i wr => ∃ k : Nat, k ≤ max es.length fs.length ∧ i = .int .i64 k ∧ ordX es fs = ordGo es fs (max es.length fs.length - k) k ∧ wr = w) (fun i _ => max es.length fs.length - (intOf i).toNat)
  case atStart => exact ⟨0, by omega, rfl, rfl, rfl⟩
  case round =>
    obtain ⟨k, hk, rfl, ho, hw⟩ := hrel
    have hw8 := hw.symm
    subst hw8
    clear hw
    have HO : Hid (ordX es fs = ordGo es fs (max es.length fs.length - k) k) := ho
    clear ho
    by_cases hend : k < max es.length fs.length
    · have HS : Hid (ordX es fs = if expI es k < expI fs k then -1 else if expI fs k < expI es k then 1 else ordGo es fs (max es.length fs.length - (k + 1)) (k + 1)) := by
        show _ = _
        rw [HO.out, show max es.length fs.length - k = (max es.length fs.length - (k + 1)) + 1 by omega, ordGo]
      have hgo : (k < es.length) ∨ (decide (k < es.length) = false ∧ k < fs.length) := by
        by_cases h1 : k < es.length
        · exact .inl h1
        · exact .inr ⟨decide_eq_false h1, by omega⟩
      have hk6 : k ≤ 9223372036854775807 := by omega
      obtain ⟨X, hX⟩ : ∃ X, X = expI es k := ⟨_, rfl⟩
      obtain ⟨Y, hY⟩ : ∃ Y, Y = expI fs k := ⟨_, rfl⟩
      have HX : Hid (X = expI es k) := hX
      have HY : Hid (Y = expI fs k) := hY
      rw [← hX, ← hY] at HS
      clear hX hY
      have hcon1 := fun W (hh : Is W (.slice ao es.length cap) es) => refExp_any (.slice ao es.length cap) es k W hh hk6
      have hm : (k : Int) + 1 ≤ 9223372036854775807 := by omega
      by_cases h1 : X < Y
      · rw [if_pos h1] at HS
        have HS2 : Hid (ordX es fs = -1) := HS
        rcases hgo with hgo | ⟨hgo, hgo2⟩
        all_goals
          clear hcon1
          go_wp2_with fail
          refine (refExp_any _ es k _ HI.out hk6).mono ?_
          rw [← HX.out]
          rintro e w9 ⟨rfl, hw9⟩
          have hw8 := hw9.symm
          subst hw8
          clear hw9
          go_wp2_with fail
          refine (refExp_any _ fs k _ HJ.out hk6).mono ?_
          rw [← HY.out]
          rintro e w9 ⟨rfl, hw9⟩
          have hw8 := hw9.symm
          subst hw8
          clear hw9
          go_wp2
          go_ret
          exact ⟨ret1i HS2.out.symm, rfl⟩
      by_cases h2 : Y < X
      · rw [if_neg h1, if_pos h2] at HS
        have HS2 : Hid (ordX es fs = 1) := HS
        have hd1 : decide (X < Y) = false := decide_eq_false h1
        have hd2 : decide (Y < X) = true := decide_eq_true h2
        clear h1 h2 HS
        rcases hgo with hgo | ⟨hgo, hgo2⟩
        all_goals
          clear hcon1
          go_wp2_with fail
          refine (refExp_any _ es k _ HI.out hk6).mono ?_
          rw [← HX.out]
          rintro e w9 ⟨rfl, hw9⟩
          have hw8 := hw9.symm
          subst hw8
          clear hw9
          go_wp2_with fail
          refine (refExp_any _ fs k _ HJ.out hk6).mono ?_
          rw [← HY.out]
          rintro e w9 ⟨rfl, hw9⟩
          have hw8 := hw9.symm
          subst hw8
          clear hw9
          go_wp2
          go_ret
          exact ⟨ret1i HS2.out.symm, rfl⟩
      · rw [if_neg h1, if_neg h2] at HS
        have HS2 : Hid (ordX es fs = ordGo es fs (max es.length fs.length - (k + 1)) (k + 1)) := HS
        obtain rfl : X = Y := by omega
        clear h1 h2 HS
        rcases hgo with hgo | ⟨hgo, hgo2⟩
        all_goals
          clear hcon1
          go_wp2_with fail
          refine (refExp_any _ es k _ HI.out hk6).mono ?_
          rw [← HX.out]
          rintro e w9 ⟨rfl, hw9⟩
          have hw8 := hw9.symm
          subst hw8
          clear hw9
          go_wp2_with fail
          refine (refExp_any _ fs k _ HJ.out hk6).mono ?_
          rw [← HY.out]
          rintro e w9 ⟨rfl, hw9⟩
          have hw8 := hw9.symm
          subst hw8
          clear hw9
          go_wp2
          go_roundw
          case rel => exact ⟨k + 1, by omega, by go_num, HS2.out, trivial⟩
          case measure => simp [intOf]; omega
    · have hke : k = max es.length fs.length := by omega
      have HF : Hid (ordX es fs = 0) := by
        show _ = _
        rw [HO.out, hke, Nat.sub_self]
        rfl
      have hd1 : decide (k < es.length) = false := decide_eq_false (by omega)
      have hd2 : decide (k < fs.length) = false := decide_eq_false (by omega)
      clear hke
      go_wp2
      go_ret
      exact ⟨ret1i HF.out.symm, rfl⟩

/-- Whether a monomial is in bounds, as the document's small says it. -/
def smallR (m : Mn) : Bool := m.2.all (fun n => decide (n ≤ 64)) && (decide (m.1.length ≤ 64) && decide (m.2.length ≤ 512))

set_option maxRecDepth 100000 in
set_option maxHeartbeats 800000 in
theorem refSmall_any (cv ev : Value) (m : Mn) (w : World) (h : Mo w cv ev m) :
    Calls Try.prog 35 #[.agg #[cv, ev]] w fun e w' => e = .returned (.bool (smallR m)) ∧ Below w.heap.size w w' := by
  obtain ⟨c, es⟩ := m
  obtain ⟨hs, hi⟩ := h
  simp only at hs hi
  have hB := below_alloc (w := w) (.cells #[cv, ev] 46)
  have HB : Hid (Below w.heap.size w (w.alloc (.cells #[cv, ev] 46))) := hB
  have hi2 := hi.kp (Kp.of_below hB)
  obtain ⟨ao, cap, rfl, hao, hca, q0⟩ := hs.flat
  obtain ⟨bo, cap', rfl, hbo, hcb, hcl⟩ := hi2.flat
  unfold maxLen at hca hcb
  clear q0 hs hi hi2 hB
  go_enter Try.func35, Try.ntmps35
  go_wp2
  obtain ⟨wb, hwb⟩ : ∃ wb, wb = w.alloc (.cells #[.slice ao c.length cap, .slice bo es.length cap'] 46) := ⟨_, rfl⟩
  have hc0 : wb.cell? ⟨w.heap.size, 0, none⟩ = some (.slice ao c.length cap) := by rw [hwb]; simp
  have hc1 : wb.cell? ⟨w.heap.size, 1, none⟩ = some (.slice bo es.length cap') := by rw [hwb]; simp
  rw [← hwb] at HB hcl ⊢
  clear hwb
  go_loopw [3] (fun i wr => ∃ k : Nat, k ≤ es.length ∧ i = .int .i64 k ∧ (∀ (j : Nat) (x : Int), j < k → es[j]? = some x → x ≤ 64) ∧ wr = wb) (fun i _ => es.length - (intOf i).toNat)
  case atStart => exact ⟨0, by omega, rfl, fun j x hj => absurd hj (by omega), rfl⟩
  case round =>
    obtain ⟨k, hk, rfl, hp, hw⟩ := hrel
    subst hw
    have HP : Hid (∀ (j : Nat) (x : Int), j < k → es[j]? = some x → x ≤ 64) := hp
    clear hp
    by_cases hlt : k < es.length
    · obtain ⟨g, off, x, rfl, hx1, hx2, hx3, hx4⟩ := hcl k hlt
      have HX : Hid (es[k]? = some x) := hx1
      rw [Nat.mul_one] at hx4
      clear hx1 hcl
      by_cases hx : x ≤ 64
      · go_wp2
        go_roundw
        case rel =>
          refine ⟨k + 1, by omega, by go_num, fun j y hj hy => ?_, trivial⟩
          by_cases hjk : j = k
          · subst hjk; rw [HX.out] at hy; cases hy; exact hx
          · exact HP.out j y (by omega) hy
        case measure => simp [intOf]; omega
      · have HF : Hid (smallR (c, es) = false) := by
          show _ = _
          have : es.all (fun n => decide (n ≤ 64)) = false := by rw [List.all_eq_false]; exact ⟨x, List.mem_of_getElem? HX.out, by simp; omega⟩
          simp [smallR, this]
        go_wp2
        go_ret
        exact ⟨ret1b HF.out.symm, HB.out⟩
    · have hke : k = es.length := by omega
      subst hke
      have HF : Hid (smallR (c, es) = (decide (c.length ≤ 64) && decide (es.length ≤ 512))) := by
        show _ = _
        have : es.all (fun n => decide (n ≤ 64)) = true := by
          rw [List.all_eq_true]
          intro x hx
          obtain ⟨j, hj⟩ := List.mem_iff_getElem?.1 hx
          simpa using HP.out j x (List.getElem?_eq_some_iff.1 hj).1 hj
        simp only [smallR, this, Bool.true_and]
      clear hcl
      by_cases h64 : c.length ≤ 64
      · have HF2 : Hid (smallR (c, es) = decide (es.length ≤ 512)) := by
          show _ = _
          rw [HF.out, decide_eq_true h64, Bool.true_and]
        go_wp2
        go_ret
        exact ⟨ret1b ((decide_eq_decide.2 (by omega)).trans HF2.out.symm), HB.out⟩
      · have hd : decide (c.length ≤ 64) = false := decide_eq_false h64
        have HF2 : Hid (smallR (c, es) = false) := by
          show _ = _
          rw [HF.out, hd, Bool.false_and]
        go_wp2
        go_ret
        exact ⟨ret1b HF2.out.symm, HB.out⟩

end Go.Proofs.Ytfifgmcjilkigaa
