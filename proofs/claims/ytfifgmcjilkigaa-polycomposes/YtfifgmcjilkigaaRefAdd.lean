/- What the document's adding and multiplying answer. -/
import Derived.Test.YtfifgmcjilkigaaProd
namespace Go.Proofs.Ytfifgmcjilkigaa
open Go.RowKit

theorem carry_zero {a b z P C : Nat} (ha : a < P) (hb : b < P) (h : z + P * 4294967296 * C = a + b) : C = 0 := by
  apply Nat.eq_zero_of_not_pos
  intro hpos
  have h5 : P * 4294967296 ≤ P * 4294967296 * C := Nat.le_mul_of_pos_right _ hpos
  generalize P * 4294967296 * C = Q at h h5
  omega

theorem add_carry {xs ys Z : List Nat} {M C : Nat} (hx : Lim xs) (hy : Lim ys) (hxl : xs.length ≤ M) (hyl : ys.length ≤ M) (h : val Z + 4294967296 ^ (M + 1) * C = val xs + val ys) : val Z = val xs + val ys := by
  have h1 := Nat.lt_of_lt_of_le (val_lt hx) (Nat.pow_le_pow_right (by decide) hxl)
  have h2 := Nat.lt_of_lt_of_le (val_lt hy) (Nat.pow_le_pow_right (by decide) hyl)
  rw [Nat.pow_succ] at h
  have hC := carry_zero h1 h2 h
  rw [hC, Nat.mul_zero, Nat.add_zero] at h
  exact h

theorem take_all {xs : List Nat} {k : Nat} (h : ¬ k < xs.length) : xs.take (k + 1) = xs.take k := by rw [List.take_of_length_le (by omega), List.take_of_length_le (by omega)]

theorem val_take_snoc {xs : List Nat} {k x : Nat} (h : xs[k]? = some x) : val (xs.take (k + 1)) = val (xs.take k) + 4294967296 ^ k * x := by
  have hk := (List.getElem?_eq_some_iff.1 h).1
  rw [take_snoc? h, val_snoc, List.length_take, Nat.min_eq_left (by omega)]
theorem val_take_all {xs : List Nat} {k : Nat} (h : ¬ k < xs.length) : val (xs.take (k + 1)) = val (xs.take k) + 4294967296 ^ k * 0 := by rw [take_all h]; simp

set_option maxRecDepth 100000 in
set_option maxHeartbeats 1600000 in
theorem refAdd_any (v u : Value) (xs ys : List Nat) (w : World) (h : Sl w v xs) (h' : Sl w u ys) :
    Calls Try.prog 57 #[v, u] w fun e w' => ∃ v', e = .returned (.tuple #[v', .int .i64 (addE xs ys)]) ∧ Ow w' w.heap.size v' (addL xs ys) ∧ Below w.heap.size w w' := by
  obtain ⟨i0, hi, hz0, hz1, hz2⟩ := info_parts info_u32
  go_enter Try.func57, Try.ntmps57
  go_wp2_with fail
  refine (refRight_any v xs _ h).mono ?_
  rintro e w1 ⟨rfl, rfl⟩
  cases hr : rightB xs
  · go_wp2
    go_ret2
    exact ⟨_, ret2i (by simp [addE, hr]), by simp [addL, hr]; exact Ow.nil _ _, Below.refl _ _⟩
  go_wp2_with fail
  refine (refRight_any u ys _ h').mono ?_
  rintro e w1 ⟨rfl, rfl⟩
  cases hr' : rightB ys
  · go_wp2
    go_ret2
    exact ⟨_, ret2i (by simp [addE, hr']), by simp [addL, hr']; exact Ow.nil _ _, Below.refl _ _⟩
  have h64 := length_le_of_right hr
  have h64' := length_le_of_right hr'
  have HE : Hid (addE xs ys = resE (val xs + val ys)) := by show _ = _; simp [addE, hr, hr']
  have HLL : Hid (addL xs ys = resL (val xs + val ys)) := by show _ = _; simp [addL, hr, hr']
  obtain ⟨ao, cap, rfl, hao, hca, q1⟩ := h.flat
  obtain ⟨bo, cap', rfl, hbo, hcb, q2⟩ := h'.flat
  unfold maxLen at hca hcb
  have HS : Hid (Sl w1 (.slice ao xs.length cap) xs) := h
  have HS' : Hid (Sl w1 (.slice bo ys.length cap') ys) := h'
  clear h h' hr hr' q1 q2
  obtain ⟨N, hN⟩ : ∃ N : Nat, max (xs.length : Int) (ys.length : Int) = (N : Int) := ⟨max xs.length ys.length, by omega⟩
  have hN1 : xs.length ≤ N := by omega
  have hN2 : ys.length ≤ N := by omega
  have hN3 : N ≤ 64 := by omega
  go_wp2_with (first
    | (at_make; refine wpList_make_full _ rfl _ _ 36 rfl w1.heap.size 43 i0 (.int .u32 0) 1 under_row hi hz0 hz1 .i64 .i64 _ _ (N + 1) rfl rfl (by omega) (by omega) (by rw [hz2]; omega) (by unfold maxLen; omega) (Nat.le_refl _) ?_; intro w0 hown0 hgrow0))
  all_goals
    have hb0 : Below w1.heap.size w1 w0 := (Below.refl _ _).grown hgrow0 (Nat.le_refl _) (by intro k hk; cases hk)
    have HO : Hid (Ow w0 w1.heap.size (.slice (some ⟨w1.heap.size, 0, none⟩) (N + 1) (N + 1)) (List.replicate (N + 1) 0)) := Ow.made hown0
    clear hown0 hgrow0 hN
    go_loopw [7, 8] (fun c i wr => ∃ (k C : Nat) (Z : List Nat), k ≤ N + 1 ∧ i = .int .i64 k ∧ c = .int .u64 C ∧ C ≤ 1 ∧ Z.length = k ∧ val Z + 4294967296 ^ k * C = val (xs.take k) + val (ys.take k) ∧
        Ow wr w1.heap.size (.slice (some ⟨w1.heap.size, 0, none⟩) (N + 1) (N + 1)) (Z ++ List.replicate (N + 1 - k) 0) ∧ Below w1.heap.size w1 wr) (fun _ i _ => N + 1 - (intOf i).toNat)
    case atStart => exact ⟨0, 0, [], Nat.zero_le _, rfl, rfl, by omega, rfl, by simp [val], by simpa using HO.out, hb0⟩
    case round =>
      obtain ⟨k, C, Z, hk, rfl, rfl, hC, hZ, hval, hown, hbl⟩ := hrel
      have HV : Hid (val Z + 4294967296 ^ k * C = val (xs.take k) + val (ys.take k)) := hval
      have HZ : Hid (Z.length = k) := hZ
      have HW : Hid (Ow wr w1.heap.size (.slice (some ⟨w1.heap.size, 0, none⟩) (N + 1) (N + 1)) (Z ++ List.replicate (N + 1 - k) 0)) := hown
      clear hval hZ hown HO hb0
      by_cases hlt : k < N + 1
      · have hw := HW.out
        rw [show N + 1 - k = (N + 1 - (k + 1)) + 1 by omega, List.replicate_succ] at hw
        obtain ⟨hcell, hfr⟩ := hw.at (k := k) (get_mid HZ.out)
        have HW2 : Hid (Ow wr w1.heap.size (.slice (some ⟨w1.heap.size, 0, none⟩) (N + 1) (N + 1)) (Z ++ 0 :: List.replicate (N + 1 - (k + 1)) 0)) := hw
        clear hw HW
        by_cases hkx : k < xs.length
        · by_cases hky : k < ys.length
          · skip
            obtain ⟨ga, offa, x, rfl, hx1, hx2, hx3⟩ := (HS.out.later hbl).flat'.2 k hkx
            have HX : Hid (val (xs.take (k + 1)) = val (xs.take k) + 4294967296 ^ k * x) := val_take_snoc hx1
            obtain ⟨gb, offb, y, rfl, hy1, hy2, hy3⟩ := (HS'.out.later hbl).flat'.2 k hky
            have HY : Hid (val (ys.take (k + 1)) = val (ys.take k) + 4294967296 ^ k * y) := val_take_snoc hy1
            have hp := HW2.out.put hbl (Nat.le_refl _) (by simp [HZ.out]; omega) (k := k) (z := (C + x + y) % 4294967296) (V := ((C : Int) + x + y) % 4294967296) (by omega) (by omega) (ys := Z ++ [(C + x + y) % 4294967296] ++ List.replicate (N + 1 - (k + 1)) 0) (by rw [set_mid _ _ _ _ _ HZ.out]; simp)
            have HP : Hid (Ow (wr.setCell ⟨w1.heap.size, k, none⟩ (.int .u32 (((C : Int) + x + y) % 4294967296))) w1.heap.size (.slice (some ⟨w1.heap.size, 0, none⟩) (N + 1) (N + 1)) (Z ++ [(C + x + y) % 4294967296] ++ List.replicate (N + 1 - (k + 1)) 0) ∧ Below w1.heap.size w1 (wr.setCell ⟨w1.heap.size, k, none⟩ (.int .u32 (((C : Int) + x + y) % 4294967296)))) := hp
            clear hp hx1 hy1
            go_wp2
            all_goals
              go_roundw
              case rel =>
                refine ⟨k + 1, (C + x + y) / 4294967296, Z ++ [(C + x + y) % 4294967296], by omega, by go_num, by go_num, by omega, by simp [HZ.out], ?_, HP.out.1, HP.out.2⟩
                rw [HX.out, HY.out]
                exact add_step HZ.out HV.out
              case measure => simp [intOf]; omega
          · skip
            obtain ⟨ga, offa, x, rfl, hx1, hx2, hx3⟩ := (HS.out.later hbl).flat'.2 k hkx
            have HX : Hid (val (xs.take (k + 1)) = val (xs.take k) + 4294967296 ^ k * x) := val_take_snoc hx1
            have HY : Hid (val (ys.take (k + 1)) = val (ys.take k) + 4294967296 ^ k * 0) := val_take_all hky
            have hp := HW2.out.put hbl (Nat.le_refl _) (by simp [HZ.out]; omega) (k := k) (z := (C + x + 0) % 4294967296) (V := ((C : Int) + x) % 4294967296) (by omega) (by omega) (ys := Z ++ [(C + x + 0) % 4294967296] ++ List.replicate (N + 1 - (k + 1)) 0) (by rw [set_mid _ _ _ _ _ HZ.out]; simp)
            have HP : Hid (Ow (wr.setCell ⟨w1.heap.size, k, none⟩ (.int .u32 (((C : Int) + x) % 4294967296))) w1.heap.size (.slice (some ⟨w1.heap.size, 0, none⟩) (N + 1) (N + 1)) (Z ++ [(C + x + 0) % 4294967296] ++ List.replicate (N + 1 - (k + 1)) 0) ∧ Below w1.heap.size w1 (wr.setCell ⟨w1.heap.size, k, none⟩ (.int .u32 (((C : Int) + x) % 4294967296)))) := hp
            clear hp hx1
            go_wp2
            all_goals
              go_roundw
              case rel =>
                refine ⟨k + 1, (C + x + 0) / 4294967296, Z ++ [(C + x + 0) % 4294967296], by omega, by go_num, by go_num, by omega, by simp [HZ.out], ?_, HP.out.1, HP.out.2⟩
                rw [HX.out, HY.out]
                exact add_step HZ.out HV.out
              case measure => simp [intOf]; omega
        · by_cases hky : k < ys.length
          · skip
            have HX : Hid (val (xs.take (k + 1)) = val (xs.take k) + 4294967296 ^ k * 0) := val_take_all hkx
            obtain ⟨gb, offb, y, rfl, hy1, hy2, hy3⟩ := (HS'.out.later hbl).flat'.2 k hky
            have HY : Hid (val (ys.take (k + 1)) = val (ys.take k) + 4294967296 ^ k * y) := val_take_snoc hy1
            have hp := HW2.out.put hbl (Nat.le_refl _) (by simp [HZ.out]; omega) (k := k) (z := (C + 0 + y) % 4294967296) (V := ((C : Int) + y) % 4294967296) (by omega) (by omega) (ys := Z ++ [(C + 0 + y) % 4294967296] ++ List.replicate (N + 1 - (k + 1)) 0) (by rw [set_mid _ _ _ _ _ HZ.out]; simp)
            have HP : Hid (Ow (wr.setCell ⟨w1.heap.size, k, none⟩ (.int .u32 (((C : Int) + y) % 4294967296))) w1.heap.size (.slice (some ⟨w1.heap.size, 0, none⟩) (N + 1) (N + 1)) (Z ++ [(C + 0 + y) % 4294967296] ++ List.replicate (N + 1 - (k + 1)) 0) ∧ Below w1.heap.size w1 (wr.setCell ⟨w1.heap.size, k, none⟩ (.int .u32 (((C : Int) + y) % 4294967296)))) := hp
            clear hp hy1
            go_wp2
            all_goals
              go_roundw
              case rel =>
                refine ⟨k + 1, (C + 0 + y) / 4294967296, Z ++ [(C + 0 + y) % 4294967296], by omega, by go_num, by go_num, by omega, by simp [HZ.out], ?_, HP.out.1, HP.out.2⟩
                rw [HX.out, HY.out]
                exact add_step HZ.out HV.out
              case measure => simp [intOf]; omega
          · skip
            have HX : Hid (val (xs.take (k + 1)) = val (xs.take k) + 4294967296 ^ k * 0) := val_take_all hkx
            have HY : Hid (val (ys.take (k + 1)) = val (ys.take k) + 4294967296 ^ k * 0) := val_take_all hky
            have hp := HW2.out.put hbl (Nat.le_refl _) (by simp [HZ.out]; omega) (k := k) (z := (C + 0 + 0) % 4294967296) (V := (C : Int)) (by omega) (by omega) (ys := Z ++ [(C + 0 + 0) % 4294967296] ++ List.replicate (N + 1 - (k + 1)) 0) (by rw [set_mid _ _ _ _ _ HZ.out]; simp)
            have HP : Hid (Ow (wr.setCell ⟨w1.heap.size, k, none⟩ (.int .u32 ((C : Int)))) w1.heap.size (.slice (some ⟨w1.heap.size, 0, none⟩) (N + 1) (N + 1)) (Z ++ [(C + 0 + 0) % 4294967296] ++ List.replicate (N + 1 - (k + 1)) 0) ∧ Below w1.heap.size w1 (wr.setCell ⟨w1.heap.size, k, none⟩ (.int .u32 ((C : Int))))) := hp
            clear hp
            go_wp2
            all_goals
              go_roundw
              case rel =>
                refine ⟨k + 1, (C + 0 + 0) / 4294967296, Z ++ [(C + 0 + 0) % 4294967296], by omega, by go_num, by go_num, by omega, by simp [HZ.out], ?_, HP.out.1, HP.out.2⟩
                rw [HX.out, HY.out]
                exact add_step HZ.out HV.out
              case measure => simp [intOf]; omega
      · have hk' : k = N + 1 := by omega
        subst hk'
        have hv := HV.out
        rw [List.take_of_length_le (by omega), List.take_of_length_le (by omega)] at hv
        have hc := add_carry HS.out.1 HS'.out.1 hN1 hN2 hv
        have HVZ : Hid (val Z = val xs + val ys) := hc
        have hw := HW.out
        rw [Nat.sub_self, List.replicate_zero, List.append_nil] at hw
        have HW2 : Hid (Ow wr w1.heap.size (.slice (some ⟨w1.heap.size, 0, none⟩) (N + 1) (N + 1)) Z) := hw
        clear hv hc hw HW HV
        go_wp2_with fail
        refine (told_any _ Z _ _ HW2.out).mono ?_
        rintro e w3 ⟨v3, rfl, ho3, hw3⟩
        rw [HVZ.out] at ho3 ⊢
        have hb3 : Below w1.heap.size w1 w3 := by rw [hw3]; exact hbl
        have ho4 : Ow w3 w1.heap.size v3 (resL (val xs + val ys)) := by rw [hw3]; exact ho3
        clear hw3 ho3
        go_wp2
        go_ret2
        exact ⟨_, ret2i HE.out.symm, by rw [HLL.out]; exact ho4, hb3⟩

end Go.Proofs.Ytfifgmcjilkigaa
