/- The document's small calls of layer 2, and sameNat of the law file. -/
import Derived.Test.YtfifgmcjilkigaaPLeast
namespace Go.Proofs.Ytfifgmcjilkigaa
open Go.RowKit Go.Maps

set_option maxHeartbeats 400000 in
theorem sameNat_any (v u : Value) (xs ys : List Nat) (w : World) (h : Sl w v xs) (h' : Sl w u ys) :
    Calls Try.prog 27 #[v, u] w fun e w' => e = .returned (.bool (decide (xs = ys))) ∧ ∃ n, w' = w.drewN n := by
  obtain ⟨ao, cap, rfl, hao, hca, hcl⟩ := h.flat
  obtain ⟨bo, cap', rfl, hbo, hcb, hcl'⟩ := h'.flat
  unfold maxLen at hca hcb
  clear h h'
  by_cases hl : xs.length = ys.length
  · have hle : ((xs.length : Int) != ys.length) = false := by simp; omega
    go_enter Try.func27, Try.ntmps27
    go_wp2
    go_loopw [5] (fun i wr => ∃ k : Nat, k ≤ xs.length ∧ i = .int .i64 k ∧ xs.take k = ys.take k ∧ ∃ n, wr = w.drewN n) (fun i _ => xs.length - (intOf i).toNat)
    case atStart => exact ⟨0, Nat.zero_le _, rfl, rfl, 0, rfl⟩
    case round =>
      obtain ⟨k, hk, rfl, ht, n, rfl⟩ := hrel
      have HT : Hid (xs.take k = ys.take k) := ht
      clear ht
      by_cases hlt : k < xs.length
      · obtain ⟨g, off, x, rfl, hx1, hx2, hx3⟩ := hcl k hlt
        obtain ⟨g', off', y, rfl, hy1, hy2, hy3⟩ := hcl' k (by omega)
        have HX : Hid (xs[k]? = some x) := hx1
        have HY : Hid (ys[k]? = some y) := hy1
        have hlt' : k < ys.length := by omega
        clear hx1 hy1 hcl hcl'
        by_cases hxy : x = y
        · subst hxy
          have hxx : ((x : Int) != x) = false := by simp
          go_wp2
          go_quiet (fail)
          go_wp2
          go_roundw
          case rel => exact ⟨k + 1, by omega, by go_num, by rw [take_get HX.out, take_get HY.out, HT.out], _, rfl⟩
          case measure => simp [intOf]; omega
        · have hne : ((x : Int) != y) = true := by rw [bne_iff_ne]; omega
          go_wp2
          go_quiet (fail)
          go_wp2
          go_ret
          exact ⟨ret1b (by rw [eq_comm, decide_eq_false_iff_not]; rintro rfl; have := HX.out.symm.trans HY.out; simp at this; exact hxy this), _, World.drewN_drewN _ _ _⟩
      · have hk' : k = xs.length := by omega
        go_wp2
        go_ret
        refine ⟨ret1b ?_, n, rfl⟩
        have := HT.out
        rw [List.take_of_length_le (by omega), List.take_of_length_le (by omega)] at this
        simp [this]
  · have hle : ((xs.length : Int) != ys.length) = true := by rw [bne_iff_ne]; omega
    go_enter Try.func27, Try.ntmps27
    go_wp2
    go_ret
    exact ⟨ret1b (by rw [eq_comm, decide_eq_false_iff_not]; rintro rfl; exact hl rfl), 0, rfl⟩

/-- A variable's exponent. -/
def expI (es : List Int) (k : Nat) : Int := (es[k]?).getD 0

set_option maxRecDepth 100000 in
theorem refExp_any (v : Value) (es : List Int) (k : Nat) (w : World) (h : Is w v es) (_hk : k ≤ 9223372036854775807) :
    Calls Try.prog 59 #[v, .int .i64 (k : Int)] w fun e w' => e = .returned (.int .i64 (expI es k)) ∧ w' = w := by
  obtain ⟨ao, cap, rfl, hao, hca, q0⟩ := Row.flat h
  unfold maxLen at hca
  have HI : Hid (Is w (.slice ao es.length cap) es) := h
  clear h q0
  by_cases hlt : k < es.length
  · obtain ⟨g, off, x, rfl, hx1, hx2, hx3, hx4⟩ := HI.out.at hlt
    have HX : Hid (expI es k = x) := by
      show _ = _
      unfold expI
      rw [hx1]
      rfl
    clear hx1
    go_enter Try.func59, Try.ntmps59
    go_wp2
    go_ret
    exact ⟨ret1i HX.out.symm, rfl⟩
  · have HX : Hid (expI es k = 0) := by
      show _ = _
      unfold expI
      rw [List.getElem?_eq_none (by omega)]
      rfl
    go_enter Try.func59, Try.ntmps59
    go_wp2
    go_ret
    exact ⟨ret1i HX.out.symm, rfl⟩

set_option maxHeartbeats 1000000 in
theorem refForm_any (cv ev : Value) (m : Mn) (w : World) (h : Mo w cv ev m) :
    Calls Try.prog 33 #[.agg #[cv, ev]] w fun e w' => e = .returned (.bool (monB m)) ∧ Below w.heap.size w w' := by
  obtain ⟨c, es⟩ := m
  obtain ⟨hs, hi⟩ := h
  simp only at hs hi
  have hB := below_alloc (w := w) (.cells #[cv, ev] 46)
  have HB : Hid (Below w.heap.size w (w.alloc (.cells #[cv, ev] 46))) := hB
  have HS : Hid (Sl (w.alloc (.cells #[cv, ev] 46)) cv c) := hs.kp (Kp.of_below hB)
  have hi2 := hi.kp (Kp.of_below hB)
  obtain ⟨ao, cap, rfl, hao, hca, q0⟩ := hs.flat
  obtain ⟨bo, cap', rfl, hbo, hcb, hcl⟩ := hi2.flat
  unfold maxLen at hca hcb
  clear q0 hs hi hi2 hB
  go_enter Try.func33, Try.ntmps33
  go_wp2_with fail
  refine (refRight_any _ _ _ HS.out).mono ?_
  rintro e w9 ⟨rfl, hw9⟩
  have hw8 := hw9.symm
  subst hw8
  clear hw9
  cases hr : rightB c
  · have HR : Hid (rightB c = false) := hr
    clear hr hcl
    go_wp2
    go_ret
    exact ⟨ret1b (monB_noR HR.out).symm, HB.out⟩
  have HR : Hid (rightB c = true) := hr
  clear hr
  obtain ⟨wb, hwb⟩ : ∃ wb, wb = w.alloc (.cells #[.slice ao c.length cap, .slice bo es.length cap'] 46) := ⟨_, rfl⟩
  have hc0 : wb.cell? ⟨w.heap.size, 0, none⟩ = some (.slice ao c.length cap) := by rw [hwb]; simp
  have hc1 : wb.cell? ⟨w.heap.size, 1, none⟩ = some (.slice bo es.length cap') := by rw [hwb]; simp
  rw [← hwb] at HB HS hcl ⊢
  clear hwb
  by_cases h0 : c.length = 0
  · have H0 : Hid (c.length = 0) := h0
    have hb0 : ((c.length : Int) == 0) = true := by rw [beq_iff_eq]; omega
    clear hcl h0
    go_wp2
    go_ret
    exact ⟨ret1b (monB_no0 H0.out).symm, HB.out⟩
  have hb0 : ((c.length : Int) == 0) = false := by rw [beq_eq_false_iff_ne]; omega
  go_wp2
  go_loopw [3] (fun i wr => ∃ k : Nat, k ≤ es.length ∧ i = .int .i64 k ∧ (∀ (j : Nat) (x : Int), j < k → es[j]? = some x → 0 ≤ x) ∧ wr = wb) (fun i _ => es.length - (intOf i).toNat)
  case atStart => exact ⟨0, by omega, rfl, fun j x hj => absurd hj (by omega), rfl⟩
  case round =>
    obtain ⟨k, hk, rfl, hp, hw⟩ := hrel
    subst hw
    have HP : Hid (∀ (j : Nat) (x : Int), j < k → es[j]? = some x → 0 ≤ x) := hp
    clear hp
    by_cases hlt : k < es.length
    · obtain ⟨g, off, x, rfl, hx1, hx2, hx3, hx4⟩ := hcl k hlt
      have HX : Hid (es[k]? = some x) := hx1
      rw [Nat.mul_one] at hx4
      clear hx1 hcl
      by_cases hx : x < 0
      · go_wp2
        go_ret
        exact ⟨ret1b (monB_neg HX.out hx).symm, HB.out⟩
      · go_wp2
        go_roundw
        case rel =>
          refine ⟨k + 1, by omega, by go_num, fun j y hj hy => ?_, trivial⟩
          by_cases hjk : j = k
          · subst hjk; rw [HX.out] at hy; cases hy; omega
          · exact HP.out j y (by omega) hy
        case measure => simp [intOf]; omega
    · have hke : k = es.length := by omega
      subst hke
      have HY : Hid (monB (c, es) = (es.length == 0 || !(es[es.length - 1]? == some 0))) := monB_yes h0 HR.out (fun j x hx => HP.out j x (List.getElem?_eq_some_iff.1 hx).1 hx)
      by_cases hz : es.length = 0
      · have hb1 : ((es.length : Int) == 0) = true := by rw [beq_iff_eq]; omega
        clear hcl
        go_wp2
        go_ret
        exact ⟨ret1b (by rw [HY.out, hz]; rfl), HB.out⟩
      · have hb1 : ((es.length : Int) == 0) = false := by rw [beq_eq_false_iff_ne]; omega
        obtain ⟨g, off, x, rfl, hx1, hx2, hx3, hx4⟩ := hcl (es.length - 1) (by omega)
        rw [Nat.mul_one] at hx4
        have HX : Hid (es[es.length - 1]? = some x) := hx1
        have hpos : 0 < es.length := by omega
        clear hx1 hcl
        go_wp2
        go_ret
        refine ⟨ret1b ?_, HB.out⟩
        have hz' : (es.length == 0) = false := by simpa using hz
        rw [HY.out, HX.out, hz', Bool.false_or, bne, Option.some_beq_some]

end Go.Proofs.Ytfifgmcjilkigaa
