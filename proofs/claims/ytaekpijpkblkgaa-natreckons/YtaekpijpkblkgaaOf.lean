/- What Of answers, of the program's and of the document's; and whether two rows are the same. -/
import Derived.Test.YtaekpijpkblkgaaTrim
namespace Go.Proofs.Ytaekpijpkblkgaa
open Go.RowKit

set_option maxHeartbeats 400000 in
theorem of_any (n : Nat) (w : World) (hn : n ≤ 18446744073709551615) :
    Calls Try.prog 12 #[.int .u64 (n : Int)] w fun e w' => ∃ v', e = .returned v' ∧ Ow w' w.heap.size v' (limbs n) ∧ Below w.heap.size w w' := by
  have ho : Ow (w.alloc (.cells #[.int .u32 ((n : Int) % 4294967296), .int .u32 ((n : Int) / 4294967296)] 42)) w.heap.size (.slice (some ⟨w.heap.size, 0, none⟩) 2 2) [n % 4294967296, n / 4294967296] :=
    Ow.lit (Lim.cons (by omega) (Lim.cons (by omega) Lim.nil)) (Nat.le_refl _) (by simp [U]) (by simp [maxLen])
  have HO : Hid (Ow (w.alloc (.cells #[.int .u32 ((n : Int) % 4294967296), .int .u32 ((n : Int) / 4294967296)] 42)) w.heap.size (.slice (some ⟨w.heap.size, 0, none⟩) 2 2) [n % 4294967296, n / 4294967296]) := ho
  clear ho
  go_enter Try.func12, Try.ntmps12
  go_wp2_with fail
  refine (trimmed_any _ _ _ _ HO.out).mono ?_
  rintro e w' ⟨v', rfl, ho, _, rfl⟩
  have hv : val [n % 4294967296, n / 4294967296] = n := by simp [val]; omega
  rw [hv] at ho
  go_wp2
  go_ret
  exact ⟨v', rfl, ho, (Below.refl _ _).alloc (Nat.le_refl _) _⟩

set_option maxHeartbeats 400000 in
theorem refOf_any (n : Nat) (w : World) (hn : n ≤ 18446744073709551615) :
    Calls Try.prog 14 #[.int .u64 (n : Int)] w fun e w' => ∃ v', e = .returned v' ∧ Ow w' w.heap.size v' (limbs n) ∧ Below w.heap.size w w' := by
  have ho : Ow (w.alloc (.cells #[.int .u32 ((n : Int) % 4294967296), .int .u32 ((n : Int) / 4294967296)] 42)) w.heap.size (.slice (some ⟨w.heap.size, 0, none⟩) 2 2) [n % 4294967296, n / 4294967296] :=
    Ow.lit (Lim.cons (by omega) (Lim.cons (by omega) Lim.nil)) (Nat.le_refl _) (by simp [U]) (by simp [maxLen])
  have HO : Hid (Ow (w.alloc (.cells #[.int .u32 ((n : Int) % 4294967296), .int .u32 ((n : Int) / 4294967296)] 42)) w.heap.size (.slice (some ⟨w.heap.size, 0, none⟩) 2 2) [n % 4294967296, n / 4294967296]) := ho
  clear ho
  go_enter Try.func14, Try.ntmps14
  go_wp2_with fail
  refine (refTrim_any _ _ _ _ HO.out).mono ?_
  rintro e w' ⟨v', rfl, ho, _, rfl⟩
  have hv : val [n % 4294967296, n / 4294967296] = n := by simp [val]; omega
  rw [hv] at ho
  go_wp2
  go_ret
  exact ⟨v', rfl, ho, (Below.refl _ _).alloc (Nat.le_refl _) _⟩

set_option maxHeartbeats 400000 in
theorem same_any (v u : Value) (xs ys : List Nat) (w : World) (h : Sl w v xs) (h' : Sl w u ys) :
    Calls Try.prog 13 #[v, u] w fun e w' => e = .returned (.bool (decide (xs = ys))) ∧ ∃ n, w' = w.drewN n := by
  obtain ⟨ao, cap, rfl, hao, hca, hcl⟩ := h.flat
  obtain ⟨bo, cap', rfl, hbo, hcb, hcl'⟩ := h'.flat
  unfold maxLen at hca hcb
  clear h h'
  by_cases hl : xs.length = ys.length
  · have hle : ((xs.length : Int) == ys.length) = true := by rw [beq_iff_eq]; omega
    go_enter Try.func13, Try.ntmps13
    go_wp2
    go_loopw [5] (fun i wr => ∃ k : Nat, k ≤ xs.length ∧ i = .int .i64 k ∧ xs.take k = ys.take k ∧ ∃ n, wr = w.drewN n) (fun i _ => xs.length - (intOf i).toNat)
    case atStart => exact ⟨0, Nat.zero_le _, rfl, rfl, 0, rfl⟩
    case round =>
      obtain ⟨k, hk, rfl, ht, n, rfl⟩ := hrel
      have HT : Hid (xs.take k = ys.take k) := ht
      clear ht
      by_cases hlt : k < xs.length
      · obtain ⟨g, off, x, rfl, hx1, hx2, hx3⟩ := hcl k hlt
        obtain ⟨g', off', y, rfl, hy1, hy2, hy3⟩ := hcl' k (by omega)
        have HX : Hid (xs[k]? = some x) := hx1
        have HY : Hid (ys[k]? = some y) := hy1
        have hlt' : k < ys.length := by omega
        clear hx1 hy1 hcl hcl'
        by_cases hxy : x = y
        · subst hxy
          go_wp2
          go_quiet (fail)
          go_wp2
          go_roundw
          case rel => exact ⟨k + 1, by omega, by go_num, by rw [take_snoc? HX.out, take_snoc? HY.out, HT.out], _, rfl⟩
          case measure => simp [intOf]; omega
        · have hne : ((x : Int) == y) = false := by rw [beq_eq_false_iff_ne]; omega
          go_wp2
          go_quiet (fail)
          go_wp2
          go_ret
          exact ⟨ret1b (by rw [eq_comm, decide_eq_false_iff_not]; rintro rfl; have := HX.out.symm.trans HY.out; simp at this; exact hxy this), _, World.drewN_drewN _ _ _⟩
      · have hk' : k = xs.length := by omega
        go_wp2
        go_ret
        refine ⟨ret1b ?_, n, rfl⟩
        have := HT.out
        rw [List.take_of_length_le (by omega), List.take_of_length_le (by omega)] at this
        simp [this]
  · have hle : ((xs.length : Int) == ys.length) = false := by rw [beq_eq_false_iff_ne]; omega
    go_enter Try.func13, Try.ntmps13
    go_wp2
    go_ret
    exact ⟨ret1b (by rw [eq_comm, decide_eq_false_iff_not]; rintro rfl; exact hl rfl), 0, rfl⟩

end Go.Proofs.Ytaekpijpkblkgaa
