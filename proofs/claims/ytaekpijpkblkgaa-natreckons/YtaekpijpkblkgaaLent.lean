/- A row that is lent with marks behind its length, and whether it is still as it was. -/
import Derived.Test.YtaekpijpkblkgaaOf
import Derived.Test.YtaekpijpkblkgaaSum
namespace Go.Proofs.Ytaekpijpkblkgaa
open Go.RowKit

/-- A row and three marks behind it. -/
def marked (xs : List Nat) : List Nat := xs ++ [77, 77, 77]

theorem mark_step (xs R : List Nat) (k : Nat) : (xs ++ List.replicate k 77) ++ 77 :: R = (xs ++ List.replicate (k + 1) 77) ++ R := by
  rw [List.replicate_succ']; simp

set_option maxHeartbeats 800000 in
theorem lent_any (v : Value) (xs : List Nat) (w : World) (h : Sl w v xs) (hlen : xs.length * 4 ≤ 140737488351232) :
    Calls Try.prog 16 #[v] w fun e w' => ∃ g, e = .returned (.slice (some ⟨g, 0, none⟩) xs.length (xs.length + 3)) ∧ Ow w' w.heap.size (.slice (some ⟨g, 0, none⟩) (xs.length + 3) (xs.length + 3)) (marked xs) ∧ Below w.heap.size w w' := by
  obtain ⟨ao, cap, rfl, hao, hca, hcl⟩ := h.flat
  unfold maxLen at hca
  obtain ⟨i0, hi, hz0, hz1, hz2⟩ := info_parts info_u32
  have HS : Hid (Sl w (.slice ao xs.length cap) xs) := h
  clear h hcl
  go_enter Try.func16, Try.ntmps16
  go_wp2_with (first
    | (at_make; refine wpList_make_full _ rfl _ _ 22 rfl w.heap.size 42 i0 (.int .u32 0) 1 under_row hi hz0 hz1 .i64 .i64 _ _ (xs.length + 3) rfl rfl (by omega) (by omega) (by rw [hz2]; omega) (by unfold maxLen; omega) (Nat.le_refl _) ?_; intro w0 hown0 hgrow0))
  have hb0 : Below w.heap.size w w0 := (Below.refl _ _).grown hgrow0 (Nat.le_refl _) (by intro k hk; cases hk)
  obtain ⟨w1, hrun, ho1, hg1⟩ := run_copy_own (Ow.made hown0) (by simp) (HS.out.later hb0) (by omega)
  have hb1 : Below w.heap.size w w1 := hb0.grown hg1 hb0.size (by intro k hk; simp at hk; omega)
  have HO : Hid (Ow w1 w.heap.size (.slice (some ⟨w.heap.size, 0, none⟩) (xs.length + 3) (xs.length + 3)) ((xs ++ List.replicate (xs.length - xs.length) 77) ++ List.replicate (xs.length + 3 - xs.length) 0)) := by
    have := ho1
    rw [List.drop_replicate] at this
    rw [Nat.sub_self, List.replicate_zero, List.append_nil]
    exact this
  rw [hrun]
  clear hown0 hgrow0 ho1 hg1 hb0
  go_wp2
  clear hrun
  go_loopw [4] (fun i wr => ∃ p : Nat, xs.length ≤ p ∧ p ≤ xs.length + 3 ∧ i = .int .i64 p ∧ Ow wr w.heap.size (.slice (some ⟨w.heap.size, 0, none⟩) (xs.length + 3) (xs.length + 3)) ((xs ++ List.replicate (p - xs.length) 77) ++ List.replicate (xs.length + 3 - p) 0) ∧ Below w.heap.size w wr)
    (fun i _ => xs.length + 3 - (intOf i).toNat)
  case atStart => exact ⟨xs.length, Nat.le_refl _, by omega, rfl, HO.out, hb1⟩
  case round =>
    obtain ⟨p, hp1, hp2, rfl, hown, hbl⟩ := hrel
    have HW : Hid (Ow wr w.heap.size (.slice (some ⟨w.heap.size, 0, none⟩) (xs.length + 3) (xs.length + 3)) ((xs ++ List.replicate (p - xs.length) 77) ++ List.replicate (xs.length + 3 - p) 0)) := hown
    clear hown HO hb1
    by_cases hlt : p < xs.length + 3
    · have hw := HW.out
      rw [show xs.length + 3 - p = (xs.length + 3 - (p + 1)) + 1 by omega, List.replicate_succ] at hw
      have hlp : (xs ++ List.replicate (p - xs.length) 77).length = p := by simp; omega
      obtain ⟨hcell, hfr⟩ := hw.at (k := p) (get_mid hlp)
      have hq := hw.put hbl (Nat.le_refl _) (by simp; omega) (k := p) (z := 77) (V := 77) rfl (by omega) (ys := (xs ++ List.replicate (p + 1 - xs.length) 77) ++ List.replicate (xs.length + 3 - (p + 1)) 0) (by rw [set_mid _ _ _ _ _ hlp, mark_step, show p - xs.length + 1 = p + 1 - xs.length by omega])
      have HP : Hid (Ow (wr.setCell ⟨w.heap.size, p, none⟩ (.int .u32 77)) w.heap.size (.slice (some ⟨w.heap.size, 0, none⟩) (xs.length + 3) (xs.length + 3)) ((xs ++ List.replicate (p + 1 - xs.length) 77) ++ List.replicate (xs.length + 3 - (p + 1)) 0) ∧ Below w.heap.size w (wr.setCell ⟨w.heap.size, p, none⟩ (.int .u32 77))) := hq
      clear hq hw hlp
      go_wp2
      go_roundw
      case rel => exact ⟨p + 1, by omega, by omega, by go_num, HP.out.1, HP.out.2⟩
      case measure => simp [intOf]; omega
    · have hp' : p = xs.length + 3 := by omega
      subst hp'
      have hw := HW.out
      rw [Nat.sub_self, List.replicate_zero, List.append_nil, show xs.length + 3 - xs.length = 3 by omega] at hw
      have HW2 : Hid (Ow wr w.heap.size (.slice (some ⟨w.heap.size, 0, none⟩) (xs.length + 3) (xs.length + 3)) (marked xs)) := hw
      clear hw HW
      go_wp2
      go_ret
      exact ⟨_, rfl, HW2.out, hbl⟩

theorem marked_lo {xs : List Nat} {k x : Nat} (h : xs[k]? = some x) : (marked xs)[k]? = some x := by
  have hk := (List.getElem?_eq_some_iff.1 h).1
  unfold marked
  rw [List.getElem?_append_left hk, h]

theorem marked_hi {xs : List Nat} {k : Nat} (h1 : ¬ k < xs.length) (h2 : k < xs.length + 3) : (marked xs)[k]? = some 77 := by
  unfold marked
  rw [List.getElem?_append_right (by omega)]
  obtain ⟨j, rfl⟩ : ∃ j, k = xs.length + j := ⟨k - xs.length, by omega⟩
  rw [Nat.add_sub_cancel_left]
  match j, (by omega : j < 3) with
  | 0, _ => rfl
  | 1, _ => rfl
  | 2, _ => rfl

set_option maxHeartbeats 800000 in
theorem kept_any (g base : Nat) (u : Value) (xs : List Nat) (w : World) (h : Ow w base (.slice (some ⟨g, 0, none⟩) (xs.length + 3) (xs.length + 3)) (marked xs)) (h' : Sl w u xs) (hlen : xs.length * 4 ≤ 140737488351232) :
    Calls Try.prog 23 #[.slice (some ⟨g, 0, none⟩) xs.length (xs.length + 3), u] w fun e w' => e = .returned (.bool true) ∧ ∃ n, w' = w.drewN n := by
  obtain ⟨bo, cap', rfl, hbo, hcb, hcl'⟩ := h'.flat
  unfold maxLen at hcb
  have HO : Hid (Ow w base (.slice (some ⟨g, 0, none⟩) (xs.length + 3) (xs.length + 3)) (marked xs)) := h
  clear h h'
  go_enter Try.func23, Try.ntmps23
  go_wp2
  go_loopw [5] (fun i wr => ∃ k : Nat, k ≤ xs.length + 3 ∧ i = .int .i64 k ∧ ∃ n, wr = w.drewN n) (fun i _ => xs.length + 3 - (intOf i).toNat)
  case atStart => exact ⟨0, Nat.zero_le _, rfl, 0, rfl⟩
  case round =>
    obtain ⟨k, hk, rfl, n, rfl⟩ := hrel
    by_cases hlt : k < xs.length + 3
    · by_cases hkx : k < xs.length
      · obtain ⟨g', off', x, rfl, hx1, hx2, hx3⟩ := hcl' k hkx
        obtain ⟨hcell, _⟩ := HO.out.at (marked_lo hx1)
        clear hx1 hcl'
        have d2 : decide (xs.length ≤ k) = false := by simp; omega
        go_wp2
        go_quiet (fail)
        go_wp2
        go_roundw
        case rel => exact ⟨k + 1, by omega, by go_num, _, rfl⟩
        case measure => simp [intOf]; omega
      · obtain ⟨hcell, _⟩ := HO.out.at (marked_hi hkx hlt)
        have hcell0 : w.cell? ⟨g, k, none⟩ = some (.int .u32 77) := hcell
        clear hcell hcl'
        have d1 : decide (k < xs.length) = false := by simp; omega
        have d2 : decide (xs.length ≤ k) = true := by simp; omega
        go_wp2
        go_quiet (fail)
        go_wp2
        go_roundw
        case rel => exact ⟨k + 1, by omega, by go_num, _, rfl⟩
        case measure => simp [intOf]; omega
    · have hk' : k = xs.length + 3 := by omega
      clear hcl'
      go_wp2
      go_ret
      exact ⟨rfl, n, rfl⟩

end Go.Proofs.Ytaekpijpkblkgaa
