/- The document's small calls of layer 2, and sameNat of the law file. -/
import Derived.Test.YtfifgmcjilkigabPLeast
namespace Go.Proofs.Ytfifgmcjilkigab
open Go.RowKit Go.Maps

set_option maxHeartbeats 400000 in
theorem sameNat_any (v u : Value) (xs ys : List Nat) (w : World) (h : Sl w v xs) (h' : Sl w u ys) :
    Calls Try.prog 11 #[v, u] w fun e w' => e = .returned (.bool (decide (xs = ys))) ∧ ∃ n, w' = w.drewN n := by
  obtain ⟨ao, cap, rfl, hao, hca, hcl⟩ := h.flat
  obtain ⟨bo, cap', rfl, hbo, hcb, hcl'⟩ := h'.flat
  unfold maxLen at hca hcb
  clear h h'
  by_cases hl : xs.length = ys.length
  · have hle : ((xs.length : Int) != ys.length) = false := by simp; omega
    go_enter Try.func11, Try.ntmps11
    go_wp2
    go_loopw [5] (fun i wr => ∃ k : Nat, k ≤ xs.length ∧ i = .int .i64 k ∧ xs.take k = ys.take k ∧ ∃ n, wr = w.drewN n) (fun i _ => xs.length - (intOf i).toNat)
    case atStart => exact ⟨0, Nat.zero_le _, rfl, rfl, 0, rfl⟩
    case round =>
      obtain ⟨k, hk, rfl, ht, n, rfl⟩ := hrel
      have HT : Hid (xs.take k = ys.take k) := ht
      clear ht
      by_cases hlt : k < xs.length
      · obtain ⟨g, off, x, rfl, hx1, hx2, hx3⟩ := hcl k hlt
        obtain ⟨g', off', y, rfl, hy1, hy2, hy3⟩ := hcl' k (by omega)
        have HX : Hid (xs[k]? = some x) := hx1
        have HY : Hid (ys[k]? = some y) := hy1
        have hlt' : k < ys.length := by omega
        clear hx1 hy1 hcl hcl'
        by_cases hxy : x = y
        · subst hxy
          have hxx : ((x : Int) != x) = false := by simp
          go_wp2
          go_quiet (fail)
          go_wp2
          go_roundw
          case rel => exact ⟨k + 1, by omega, by go_num, by rw [take_get HX.out, take_get HY.out, HT.out], _, rfl⟩
          case measure => simp [intOf]; omega
        · have hne : ((x : Int) != y) = true := by rw [bne_iff_ne]; omega
          go_wp2
          go_quiet (fail)
          go_wp2
          go_ret
          exact ⟨ret1b (by rw [eq_comm, decide_eq_false_iff_not]; rintro rfl; have := HX.out.symm.trans HY.out; simp at this; exact hxy this), _, World.drewN_drewN _ _ _⟩
      · have hk' : k = xs.length := by omega
        go_wp2
        go_ret
        refine ⟨ret1b ?_, n, rfl⟩
        have := HT.out
        rw [List.take_of_length_le (by omega), List.take_of_length_le (by omega)] at this
        simp [this]
  · have hle : ((xs.length : Int) != ys.length) = true := by rw [bne_iff_ne]; omega
    go_enter Try.func11, Try.ntmps11
    go_wp2
    go_ret
    exact ⟨ret1b (by rw [eq_comm, decide_eq_false_iff_not]; rintro rfl; exact hl rfl), 0, rfl⟩

/-- A variable's exponent. -/
def expI (es : List Int) (k : Nat) : Int := (es[k]?).getD 0

end Go.Proofs.Ytfifgmcjilkigab
