/- What Check answers. -/
import Derived.Test.YtfifgmcjilkigaaPCmp
import Derived.Test.YtfifgmcjilkigaaTrim
namespace Go.Proofs.Ytfifgmcjilkigaa
open Go.RowKit

theorem monB_no0 {c : List Nat} {es : List Int} (h : c.length = 0) : monB (c, es) = false := by simp [monB, h]
theorem monB_noR {c : List Nat} {es : List Int} (h : rightB c = false) : monB (c, es) = false := by simp [monB, h]
theorem monB_neg {c : List Nat} {es : List Int} {k : Nat} {x : Int} (h : es[k]? = some x) (hx : x < 0) : monB (c, es) = false := by
  have : es.all (fun n => decide (0 ≤ n)) = false := by
    rw [List.all_eq_false]
    exact ⟨x, List.mem_of_getElem? h, by simp; omega⟩
  simp [monB, this]
theorem monB_yes {c : List Nat} {es : List Int} (h0 : ¬ c.length = 0) (hr : rightB c = true) (ha : ∀ (k : Nat) (x : Int), es[k]? = some x → 0 ≤ x) : monB (c, es) = (es.length == 0 || !(es[es.length - 1]? == some 0)) := by
  have : es.all (fun n => decide (0 ≤ n)) = true := by
    rw [List.all_eq_true]
    intro x hx
    obtain ⟨k, hk⟩ := List.mem_iff_getElem?.1 hx
    simpa using ha k x hk
  have h1 : (c.length == 0) = false := by simpa using h0
  simp only [monB, this, hr, h1, Bool.not_false, Bool.true_and]

set_option maxHeartbeats 1600000 in
theorem isMonomial_any (cv ev : Value) (m : Mn) (w : World) (h : Mo w cv ev m) :
    Calls Try.prog 58 #[.agg #[cv, ev]] w fun e w' => e = .returned (.bool (monB m)) ∧ Below w.heap.size w w' := by
  obtain ⟨c, es⟩ := m
  obtain ⟨hs, hi⟩ := h
  simp only at hs hi
  have hB := below_alloc (w := w) (.cells #[cv, ev] 46)
  have HB : Hid (Below w.heap.size w (w.alloc (.cells #[cv, ev] 46))) := hB
  have HS : Hid (Sl (w.alloc (.cells #[cv, ev] 46)) cv c) := hs.kp (Kp.of_below hB)
  have hi2 := hi.kp (Kp.of_below hB)
  obtain ⟨ao, cap, rfl, hao, hca, q0⟩ := hs.flat
  obtain ⟨bo, cap', rfl, hbo, hcb, hcl⟩ := hi2.flat
  unfold maxLen at hca hcb
  clear q0 hs hi hi2 hB
  by_cases h0 : c.length = 0
  · clear hcl
    obtain rfl : c = [] := List.eq_nil_of_length_eq_zero h0
    rw [List.length_nil] at HB
    rw [List.length_nil]
    clear h0 HS
    go_enter Try.func58, Try.ntmps58
    go_wp2
    go_ret
    exact ⟨ret1b (monB_no0 rfl).symm, HB.out⟩
  have hb0 : ((c.length : Int) == 0) = false := by rw [beq_eq_false_iff_ne]; omega
  go_enter Try.func58, Try.ntmps58
  go_wp2_with fail
  refine (right_any _ _ _ HS.out).mono ?_
  rintro e w' ⟨rfl, rfl⟩
  cases hr : rightB c
  · have HR : Hid (rightB c = false) := hr
    clear hr hcl
    go_wp2
    go_ret
    exact ⟨ret1b (monB_noR HR.out).symm, HB.out⟩
  have HR : Hid (rightB c = true) := hr
  clear hr
  go_wp2
  obtain ⟨wb, hwb⟩ : ∃ wb, wb = w.alloc (.cells #[.slice ao c.length cap, .slice bo es.length cap'] 46) := ⟨_, rfl⟩
  have hc0 : wb.cell? ⟨w.heap.size, 0, none⟩ = some (.slice ao c.length cap) := by rw [hwb]; simp
  have hc1 : wb.cell? ⟨w.heap.size, 1, none⟩ = some (.slice bo es.length cap') := by rw [hwb]; simp
  rw [← hwb] at HB HS hcl ⊢
  clear hwb
  go_loopw [18] (fun i wr => ∃ k : Nat, k ≤ es.length ∧ i = .int .i64 k ∧ (∀ (j : Nat) (x : Int), j < k → es[j]? = some x → 0 ≤ x) ∧ wr = wb) (fun i _ => es.length - (intOf i).toNat)
  case atStart => exact ⟨0, by omega, rfl, fun j x hj => absurd hj (by omega), rfl⟩
  case round =>
    obtain ⟨k, hk, rfl, hp, hw⟩ := hrel
    subst hw
    have HP : Hid (∀ (j : Nat) (x : Int), j < k → es[j]? = some x → 0 ≤ x) := hp
    clear hp
    by_cases hlt : k < es.length
    · obtain ⟨g, off, x, rfl, hx1, hx2, hx3, hx4⟩ := hcl k hlt
      have HX : Hid (es[k]? = some x) := hx1
      rw [Nat.mul_one] at hx4
      clear hx1 hcl
      by_cases hx : x < 0
      · go_wp2
        go_ret
        exact ⟨ret1b (monB_neg HX.out hx).symm, HB.out⟩
      · go_wp2
        go_roundw
        case rel =>
          refine ⟨k + 1, by omega, by go_num, fun j y hj hy => ?_, trivial⟩
          by_cases hjk : j = k
          · subst hjk; rw [HX.out] at hy; cases hy; omega
          · exact HP.out j y (by omega) hy
        case measure => simp [intOf]; omega
    · have hke : k = es.length := by omega
      subst hke
      have HY : Hid (monB (c, es) = (es.length == 0 || !(es[es.length - 1]? == some 0))) := monB_yes h0 HR.out (fun j x hx => HP.out j x (List.getElem?_eq_some_iff.1 hx).1 hx)
      by_cases hz : es.length = 0
      · have hb1 : ((es.length : Int) == 0) = true := by rw [beq_iff_eq]; omega
        clear hcl
        go_wp2
        go_ret
        exact ⟨ret1b (by rw [HY.out, hz]; rfl), HB.out⟩
      · have hb1 : ((es.length : Int) == 0) = false := by rw [beq_eq_false_iff_ne]; omega
        obtain ⟨g, off, x, rfl, hx1, hx2, hx3, hx4⟩ := hcl (es.length - 1) (by omega)
        rw [Nat.mul_one] at hx4
        have HX : Hid (es[es.length - 1]? = some x) := hx1
        have hpos : 0 < es.length := by omega
        clear hx1 hcl
        go_wp2
        go_ret
        refine ⟨ret1b ?_, HB.out⟩
        have hz' : (es.length == 0) = false := by simpa using hz
        rw [HY.out, HX.out, hz', Bool.false_or, bne, Option.some_beq_some]

end Go.Proofs.Ytfifgmcjilkigaa
