/- Texts of the proof, one behind the other. -/
import Derived.Test.YtdjmjhlbjcgoiaaGreatDoorOwn8
import Derived.Test.YtdjmjhlbjcgoiaaGreatDoorOwn11
import Derived.Deep.Quiet
import Derived.BigQuiet
/- What the document's adding and multiplying answer. -/
namespace Go.Proofs.YtdjmjhlbjcgoiaaGreatDoor
open Go.RowKit

theorem carry_zero {a b z P C : Nat} (ha : a < P) (hb : b < P) (h : z + P * 4294967296 * C = a + b) : C = 0 := by
  apply Nat.eq_zero_of_not_pos
  intro hpos
  have h5 : P * 4294967296 ≤ P * 4294967296 * C := Nat.le_mul_of_pos_right _ hpos
  generalize P * 4294967296 * C = Q at h h5
  omega

theorem add_carry {xs ys Z : List Nat} {M C : Nat} (hx : Lim xs) (hy : Lim ys) (hxl : xs.length ≤ M) (hyl : ys.length ≤ M) (h : val Z + 4294967296 ^ (M + 1) * C = val xs + val ys) : val Z = val xs + val ys := by
  have h1 := Nat.lt_of_lt_of_le (val_lt hx) (Nat.pow_le_pow_right (by decide) hxl)
  have h2 := Nat.lt_of_lt_of_le (val_lt hy) (Nat.pow_le_pow_right (by decide) hyl)
  rw [Nat.pow_succ] at h
  have hC := carry_zero h1 h2 h
  rw [hC, Nat.mul_zero, Nat.add_zero] at h
  exact h

theorem take_all {xs : List Nat} {k : Nat} (h : ¬ k < xs.length) : xs.take (k + 1) = xs.take k := by rw [List.take_of_length_le (by omega), List.take_of_length_le (by omega)]

theorem val_take_snoc {xs : List Nat} {k x : Nat} (h : xs[k]? = some x) : val (xs.take (k + 1)) = val (xs.take k) + 4294967296 ^ k * x := by
  have hk := (List.getElem?_eq_some_iff.1 h).1
  rw [take_snoc? h, val_snoc, List.length_take, Nat.min_eq_left (by omega)]

theorem val_take_all {xs : List Nat} {k : Nat} (h : ¬ k < xs.length) : val (xs.take (k + 1)) = val (xs.take k) + 4294967296 ^ k * 0 := by rw [take_all h]; simp

set_option maxRecDepth 100000 in
set_option maxHeartbeats 1600000 in
theorem refAdd_any (v u : Value) (xs ys : List Nat) (w : World) (h : Sl w v xs) (h' : Sl w u ys) :
    Calls Tryz.prog 197 #[v, u] w fun e w' => ∃ v', e = .returned (.tuple #[v', .int .i64 (addE xs ys)]) ∧ Ow w' w.heap.size v' (addL xs ys) ∧ Below w.heap.size w w' := by
  obtain ⟨i0, hi, hz0, hz1, hz2⟩ := info_parts info_u32
  go_enter Tryz.func197, Tryz.ntmps197
  go_wp2_with fail
  refine (refRight_anyY v xs _ h).mono ?_
  rintro e w1 ⟨rfl, rfl⟩
  cases hr : rightB xs
  · go_wp2
    go_ret2
    exact ⟨_, ret2i (by simp [addE, hr]), by simp [addL, hr]; exact Ow.nil _ _, Below.refl _ _⟩
  go_wp2_with fail
  refine (refRight_anyY u ys _ h').mono ?_
  rintro e w1 ⟨rfl, rfl⟩
  cases hr' : rightB ys
  · go_wp2
    go_ret2
    exact ⟨_, ret2i (by simp [addE, hr']), by simp [addL, hr']; exact Ow.nil _ _, Below.refl _ _⟩
  have h64 := length_le_of_right hr
  have h64' := length_le_of_right hr'
  have HE : Hid (addE xs ys = resE (val xs + val ys)) := by show _ = _; simp [addE, hr, hr']
  have HLL : Hid (addL xs ys = resL (val xs + val ys)) := by show _ = _; simp [addL, hr, hr']
  obtain ⟨ao, cap, rfl, hao, hca, q1⟩ := h.flat
  obtain ⟨bo, cap', rfl, hbo, hcb, q2⟩ := h'.flat
  unfold maxLen at hca hcb
  have HS : Hid (Sl w1 (.slice ao xs.length cap) xs) := h
  have HS' : Hid (Sl w1 (.slice bo ys.length cap') ys) := h'
  clear h h' hr hr' q1 q2
  obtain ⟨N, hN⟩ : ∃ N : Nat, max (xs.length : Int) (ys.length : Int) = (N : Int) := ⟨max xs.length ys.length, by omega⟩
  have hN1 : xs.length ≤ N := by omega
  have hN2 : ys.length ≤ N := by omega
  have hN3 : N ≤ 64 := by omega
  go_wp2_with (first
    | (at_make; refine wpList_make_full _ rfl _ _ 35 rfl w1.heap.size 38 i0 (.int .u32 0) 1 under_rowY hi hz0 hz1 .i64 .i64 _ _ (N + 1) rfl rfl (by omega) (by omega) (by rw [hz2]; omega) (by unfold maxLen; omega) (Nat.le_refl _) ?_; intro w0 hown0 hgrow0))
  all_goals
    have hb0 : Below w1.heap.size w1 w0 := (Below.refl _ _).grown hgrow0 (Nat.le_refl _) (by intro k hk; cases hk)
    have HO : Hid (Ow w0 w1.heap.size (.slice (some ⟨w1.heap.size, 0, none⟩) (N + 1) (N + 1)) (List.replicate (N + 1) 0)) := Ow.made hown0
    clear hown0 hgrow0 hN
    go_loopw [7, 8] (fun c i wr => ∃ (k C : Nat) (Z : List Nat), k ≤ N + 1 ∧ i = .int .i64 k ∧ c = .int .u64 C ∧ C ≤ 1 ∧ Z.length = k ∧ val Z + 4294967296 ^ k * C = val (xs.take k) + val (ys.take k) ∧
        Ow wr w1.heap.size (.slice (some ⟨w1.heap.size, 0, none⟩) (N + 1) (N + 1)) (Z ++ List.replicate (N + 1 - k) 0) ∧ Below w1.heap.size w1 wr) (fun _ i _ => N + 1 - (intOf i).toNat)
    case atStart => exact ⟨0, 0, [], Nat.zero_le _, rfl, rfl, by omega, rfl, by simp [val], by simpa using HO.out, hb0⟩
    case round =>
      obtain ⟨k, C, Z, hk, rfl, rfl, hC, hZ, hval, hown, hbl⟩ := hrel
      have HV : Hid (val Z + 4294967296 ^ k * C = val (xs.take k) + val (ys.take k)) := hval
      have HZ : Hid (Z.length = k) := hZ
      have HW : Hid (Ow wr w1.heap.size (.slice (some ⟨w1.heap.size, 0, none⟩) (N + 1) (N + 1)) (Z ++ List.replicate (N + 1 - k) 0)) := hown
      clear hval hZ hown HO hb0
      by_cases hlt : k < N + 1
      · have hw := HW.out
        rw [show N + 1 - k = (N + 1 - (k + 1)) + 1 by omega, List.replicate_succ] at hw
        obtain ⟨hcell, hfr⟩ := hw.at (k := k) (get_mid HZ.out)
        have HW2 : Hid (Ow wr w1.heap.size (.slice (some ⟨w1.heap.size, 0, none⟩) (N + 1) (N + 1)) (Z ++ 0 :: List.replicate (N + 1 - (k + 1)) 0)) := hw
        clear hw HW
        by_cases hkx : k < xs.length
        · by_cases hky : k < ys.length
          · skip
            obtain ⟨ga, offa, x, rfl, hx1, hx2, hx3⟩ := (HS.out.later hbl).flat'.2 k hkx
            have HX : Hid (val (xs.take (k + 1)) = val (xs.take k) + 4294967296 ^ k * x) := val_take_snoc hx1
            obtain ⟨gb, offb, y, rfl, hy1, hy2, hy3⟩ := (HS'.out.later hbl).flat'.2 k hky
            have HY : Hid (val (ys.take (k + 1)) = val (ys.take k) + 4294967296 ^ k * y) := val_take_snoc hy1
            have hp := HW2.out.put hbl (Nat.le_refl _) (by simp [HZ.out]; omega) (k := k) (z := (C + x + y) % 4294967296) (V := ((C : Int) + x + y) % 4294967296) (by omega) (by omega) (ys := Z ++ [(C + x + y) % 4294967296] ++ List.replicate (N + 1 - (k + 1)) 0) (by rw [set_mid _ _ _ _ _ HZ.out]; simp)
            have HP : Hid (Ow (wr.setCell ⟨w1.heap.size, k, none⟩ (.int .u32 (((C : Int) + x + y) % 4294967296))) w1.heap.size (.slice (some ⟨w1.heap.size, 0, none⟩) (N + 1) (N + 1)) (Z ++ [(C + x + y) % 4294967296] ++ List.replicate (N + 1 - (k + 1)) 0) ∧ Below w1.heap.size w1 (wr.setCell ⟨w1.heap.size, k, none⟩ (.int .u32 (((C : Int) + x + y) % 4294967296)))) := hp
            clear hp hx1 hy1
            go_wp2
            all_goals
              go_roundw
              case rel =>
                refine ⟨k + 1, (C + x + y) / 4294967296, Z ++ [(C + x + y) % 4294967296], by omega, by go_num, by go_num, by omega, by simp [HZ.out], ?_, HP.out.1, HP.out.2⟩
                rw [HX.out, HY.out]
                exact add_step HZ.out HV.out
              case measure => simp [intOf]; omega
          · skip
            obtain ⟨ga, offa, x, rfl, hx1, hx2, hx3⟩ := (HS.out.later hbl).flat'.2 k hkx
            have HX : Hid (val (xs.take (k + 1)) = val (xs.take k) + 4294967296 ^ k * x) := val_take_snoc hx1
            have HY : Hid (val (ys.take (k + 1)) = val (ys.take k) + 4294967296 ^ k * 0) := val_take_all hky
            have hp := HW2.out.put hbl (Nat.le_refl _) (by simp [HZ.out]; omega) (k := k) (z := (C + x + 0) % 4294967296) (V := ((C : Int) + x) % 4294967296) (by omega) (by omega) (ys := Z ++ [(C + x + 0) % 4294967296] ++ List.replicate (N + 1 - (k + 1)) 0) (by rw [set_mid _ _ _ _ _ HZ.out]; simp)
            have HP : Hid (Ow (wr.setCell ⟨w1.heap.size, k, none⟩ (.int .u32 (((C : Int) + x) % 4294967296))) w1.heap.size (.slice (some ⟨w1.heap.size, 0, none⟩) (N + 1) (N + 1)) (Z ++ [(C + x + 0) % 4294967296] ++ List.replicate (N + 1 - (k + 1)) 0) ∧ Below w1.heap.size w1 (wr.setCell ⟨w1.heap.size, k, none⟩ (.int .u32 (((C : Int) + x) % 4294967296)))) := hp
            clear hp hx1
            go_wp2
            all_goals
              go_roundw
              case rel =>
                refine ⟨k + 1, (C + x + 0) / 4294967296, Z ++ [(C + x + 0) % 4294967296], by omega, by go_num, by go_num, by omega, by simp [HZ.out], ?_, HP.out.1, HP.out.2⟩
                rw [HX.out, HY.out]
                exact add_step HZ.out HV.out
              case measure => simp [intOf]; omega
        · by_cases hky : k < ys.length
          · skip
            have HX : Hid (val (xs.take (k + 1)) = val (xs.take k) + 4294967296 ^ k * 0) := val_take_all hkx
            obtain ⟨gb, offb, y, rfl, hy1, hy2, hy3⟩ := (HS'.out.later hbl).flat'.2 k hky
            have HY : Hid (val (ys.take (k + 1)) = val (ys.take k) + 4294967296 ^ k * y) := val_take_snoc hy1
            have hp := HW2.out.put hbl (Nat.le_refl _) (by simp [HZ.out]; omega) (k := k) (z := (C + 0 + y) % 4294967296) (V := ((C : Int) + y) % 4294967296) (by omega) (by omega) (ys := Z ++ [(C + 0 + y) % 4294967296] ++ List.replicate (N + 1 - (k + 1)) 0) (by rw [set_mid _ _ _ _ _ HZ.out]; simp)
            have HP : Hid (Ow (wr.setCell ⟨w1.heap.size, k, none⟩ (.int .u32 (((C : Int) + y) % 4294967296))) w1.heap.size (.slice (some ⟨w1.heap.size, 0, none⟩) (N + 1) (N + 1)) (Z ++ [(C + 0 + y) % 4294967296] ++ List.replicate (N + 1 - (k + 1)) 0) ∧ Below w1.heap.size w1 (wr.setCell ⟨w1.heap.size, k, none⟩ (.int .u32 (((C : Int) + y) % 4294967296)))) := hp
            clear hp hy1
            go_wp2
            all_goals
              go_roundw
              case rel =>
                refine ⟨k + 1, (C + 0 + y) / 4294967296, Z ++ [(C + 0 + y) % 4294967296], by omega, by go_num, by go_num, by omega, by simp [HZ.out], ?_, HP.out.1, HP.out.2⟩
                rw [HX.out, HY.out]
                exact add_step HZ.out HV.out
              case measure => simp [intOf]; omega
          · skip
            have HX : Hid (val (xs.take (k + 1)) = val (xs.take k) + 4294967296 ^ k * 0) := val_take_all hkx
            have HY : Hid (val (ys.take (k + 1)) = val (ys.take k) + 4294967296 ^ k * 0) := val_take_all hky
            have hp := HW2.out.put hbl (Nat.le_refl _) (by simp [HZ.out]; omega) (k := k) (z := (C + 0 + 0) % 4294967296) (V := (C : Int)) (by omega) (by omega) (ys := Z ++ [(C + 0 + 0) % 4294967296] ++ List.replicate (N + 1 - (k + 1)) 0) (by rw [set_mid _ _ _ _ _ HZ.out]; simp)
            have HP : Hid (Ow (wr.setCell ⟨w1.heap.size, k, none⟩ (.int .u32 ((C : Int)))) w1.heap.size (.slice (some ⟨w1.heap.size, 0, none⟩) (N + 1) (N + 1)) (Z ++ [(C + 0 + 0) % 4294967296] ++ List.replicate (N + 1 - (k + 1)) 0) ∧ Below w1.heap.size w1 (wr.setCell ⟨w1.heap.size, k, none⟩ (.int .u32 ((C : Int))))) := hp
            clear hp
            go_wp2
            all_goals
              go_roundw
              case rel =>
                refine ⟨k + 1, (C + 0 + 0) / 4294967296, Z ++ [(C + 0 + 0) % 4294967296], by omega, by go_num, by go_num, by omega, by simp [HZ.out], ?_, HP.out.1, HP.out.2⟩
                rw [HX.out, HY.out]
                exact add_step HZ.out HV.out
              case measure => simp [intOf]; omega
      · have hk' : k = N + 1 := by omega
        subst hk'
        have hv := HV.out
        rw [List.take_of_length_le (by omega), List.take_of_length_le (by omega)] at hv
        have hc := add_carry HS.out.1 HS'.out.1 hN1 hN2 hv
        have HVZ : Hid (val Z = val xs + val ys) := hc
        have hw := HW.out
        rw [Nat.sub_self, List.replicate_zero, List.append_nil] at hw
        have HW2 : Hid (Ow wr w1.heap.size (.slice (some ⟨w1.heap.size, 0, none⟩) (N + 1) (N + 1)) Z) := hw
        clear hv hc hw HW HV
        go_wp2_with fail
        refine (told_any _ Z _ _ HW2.out).mono ?_
        rintro e w3 ⟨v3, rfl, ho3, hw3⟩
        rw [HVZ.out] at ho3 ⊢
        have hb3 : Below w1.heap.size w1 w3 := by rw [hw3]; exact hbl
        have ho4 : Ow w3 w1.heap.size v3 (resL (val xs + val ys)) := by rw [hw3]; exact ho3
        clear hw3 ho3
        go_wp2
        go_ret2
        exact ⟨_, ret2i HE.out.symm, by rw [HLL.out]; exact ho4, hb3⟩

end Go.Proofs.YtdjmjhlbjcgoiaaGreatDoor

/- What the document's Check answers. -/
namespace Go.Proofs.YtdjmjhlbjcgoiaaGreatDoor
open Go.RowKit Go.Maps Go.BigFrame

theorem okR_no {p : List Mn} {vars : Int} {k : Nat} {m : Mn} (hk : p[k]? = some m) (h : (monB m && decide ((m.2.length : Int) ≤ vars)) = false) : okR p vars k = false := by
  unfold okR
  rw [hk]
  simp only [h, Bool.false_and]

theorem okR_0 {p : List Mn} {vars : Int} {m : Mn} (hk : p[0]? = some m) (h : (monB m && decide ((m.2.length : Int) ≤ vars)) = true) : okR p vars 0 = true := by
  unfold okR
  rw [hk]
  simp only [h]
  rfl

theorem okR_s {p : List Mn} {vars : Int} {j : Nat} {m n : Mn} (hk : p[j + 1]? = some m) (hj : p[j]? = some n) (h : (monB m && decide ((m.2.length : Int) ≤ vars)) = true) : okR p vars (j + 1) = decide (ordX n.2 m.2 < 0) := by
  unfold okR expsAt
  rw [hk, Nat.add_sub_cancel, hj]
  simp only [h, Bool.true_and, Option.map_some, Option.getD_some]
  rw [show (j + 1 == 0) = false from rfl, Bool.false_or]

theorem polyR_no {p : List Mn} {vars : Int} {k : Nat} (hk : k < p.length) (h : okR p vars k = false) : polyR p vars = false := by
  rw [Bool.eq_false_iff]
  intro hh
  rw [polyR_iff.1 hh k hk] at h
  cases h

theorem region_belowY {P : Program} {id : Nat} {Q : Exit → Act → World → Prop} {a : Act} {w : World} {l : List Oper} (hm : P.follows .mixedOrders = true) (hB : Region.lexB .any l.toArray = true)
    (h : wpQuiet P l.toArray (fun w' => Below w.heap.size w w') (fun a' => ∀ w', Below w.heap.size w w' → Q .normal a' w') l a) : (Code.region id l.toArray true).wp P Q a w :=
  wp_region_quiet (C := fun w' => Below w.heap.size w w') hm hB (Below.refl _ _).drew (by simpa using h)

set_option maxRecDepth 100000 in
set_option maxHeartbeats 40000000 in
theorem refCheck_anyY (v : Value) (p : List Mn) (vars : Int) (w : World) (h : Ms w v p) (hv1 : -9223372036854775808 ≤ vars) (hv2 : vars ≤ 9223372036854775807) :
    Calls Tryz.prog 42 #[v, .int .i64 vars] w fun e w' => e = .returned (.int .i64 (checkR p vars)) ∧ Below w.heap.size w w' := by
  by_cases h0 : vars < 0
  · have HF : Hid (checkR p vars = 1) := by show _ = _; unfold checkR; rw [if_pos h0]
    go_enter Tryz.func42, Tryz.ntmps42
    go_wp2
    go_ret
    exact ⟨ret1i HF.out.symm, Below.refl _ _⟩
  have H0 : Hid (0 ≤ vars) := by show _ ≤ _; omega
  have hnn : 0 ≤ vars := by omega
  obtain ⟨ao, cap, rfl, hao, hca, q0⟩ := Row.flat h
  unfold maxLen at hca
  have HM : Hid (Ms w (.slice ao p.length cap) p) := h
  clear h q0 h0
  go_enter Tryz.func42, Tryz.ntmps42
  go_wp2
  go_loopw [5] (fun i wr => ∃ k : Nat, k ≤ p.length ∧ i = .int .i64 k ∧ (∀ j : Nat, j < k → okR p vars j = true) ∧ Below w.heap.size w wr) (fun i _ => p.length - (intOf i).toNat)
  case atStart => exact ⟨0, by omega, rfl, fun j hj => absurd hj (by omega), Below.refl _ _⟩
  case round =>
    obtain ⟨k, hk, rfl, hp, hbl⟩ := hrel
    have HP : Hid (∀ j : Nat, j < k → okR p vars j = true) := hp
    clear hp
    by_cases hlt : k < p.length
    · have HMr : Hid (Ms wr (.slice ao p.length cap) p) := HM.out.kp (Kp.of_below hbl)
      obtain ⟨g, off, c, es, a1, c1, a2, c2, rfl, hm1, hc0, hc1, hmo, hl1, hl2, hl3, hl4⟩ := HMr.out.at hlt
      have HX : Hid (p[k]? = some (c, es)) := hm1
      have HMo : Hid (Mo wr (.slice a1 c.length c1) (.slice a2 es.length c2) (c, es)) := hmo
      have HBd : Hid (Below w.heap.size w wr) := hbl
      clear hm1 hmo
      cases hmb : monB (c, es)
      · have HF : Hid (checkR p vars = 20) := by
          show _ = _
          unfold checkR
          rw [if_neg (Int.not_lt.2 H0.out), if_pos (polyR_no hlt (okR_no HX.out (by rw [hmb]; rfl)))]
        have HMb : Hid (monB (c, es) = false) := hmb
        clear hmb
        go_wp2_with fail
        refine region_belowY (by kernel_rfl) (by kernel_rfl) ?_
        (go_big_quiet_want; go_big_quiet_op; go_big_quiet_on)
        (go_big_quiet_want; go_big_quiet_op; go_big_quiet_on)
        go_big_quiet_want
        refine ⟨.pointer (some ⟨g, off + k * 2, none⟩), fun w' hw' => ?_, ?_⟩
        · unfold Oper.quietAt; go_simp
        simp only [Act.put, List.setIfInBounds_toArray, List.set_cons_zero, List.set_cons_succ]
        go_big_quiet_on
        go_big_quiet_want
        refine ⟨.agg #[.slice a1 c.length c1, .slice a2 es.length c2], fun w' hw' => ?_, ?_⟩
        · have hh0 := (Kp.of_below hw').cell _ _ hc0; have hh1 := (Kp.of_below hw').cell _ _ hc1; unfold Oper.quietAt; go_simp
        simp only [Act.put, List.setIfInBounds_toArray, List.set_cons_zero, List.set_cons_succ]
        go_big_quiet_on
        go_big_quiet_want
        refine ⟨.bool false, fun w' hw' => ?_, ?_⟩
        · unfold Oper.quietAt; go_simp; exact (refForm_any _ _ (c, es) _ (HMo.out.kp (Kp.of_below hw'))).mono (fun e w1 ⟨he, hb⟩ => ⟨by rw [he, HMb.out], below_step hw' hb⟩)
        simp only [Act.put, List.setIfInBounds_toArray, List.set_cons_zero, List.set_cons_succ]
        go_big_quiet_on
        go_big_quiet_want
        refine ⟨.bool true, fun w' hw' => ?_, ?_⟩
        · unfold Oper.quietAt; go_simp
        simp only [Act.put, List.setIfInBounds_toArray, List.set_cons_zero, List.set_cons_succ]
        go_big_quiet_on
        (go_big_quiet_want; go_big_quiet_op; go_big_quiet_on)
        go_big_quiet_skip
        go_big_quiet_skip
        go_big_quiet_skip
        go_big_quiet_skip
        go_big_quiet_skip
        go_big_quiet_skip
        go_big_quiet_skip
        go_big_quiet_skip
        go_big_quiet_want
        refine ⟨.bool true, fun w' hw' => ?_, ?_⟩
        · unfold Oper.quietAt; go_simp
        simp only [Act.put, List.setIfInBounds_toArray, List.set_cons_zero, List.set_cons_succ]
        go_big_quiet_on
        (go_big_quiet_want; go_big_quiet_op; go_big_quiet_on)
        go_big_quiet_skip
        go_big_quiet_skip
        go_big_quiet_skip
        go_big_quiet_skip
        go_big_quiet_skip
        go_big_quiet_skip
        go_big_quiet_skip
        go_big_quiet_skip
        go_big_quiet_skip
        go_big_quiet_skip
        go_big_quiet_skip
        go_big_quiet_skip
        go_big_quiet_skip
        go_big_quiet_skip
        go_big_quiet_skip
        go_big_quiet_skip
        go_big_quiet_skip
        go_big_quiet_want
        refine ⟨.bool true, fun w' hw' => ?_, ?_⟩
        · unfold Oper.quietAt; go_simp
        simp only [Act.put, List.setIfInBounds_toArray, List.set_cons_zero, List.set_cons_succ]
        go_big_quiet_on
        refine wpQuiet_nil ?_
        intro w1 hb1
        go_wp2
        go_ret
        exact ⟨ret1i HF.out.symm, below_step HBd.out hb1⟩
      have HMb : Hid (monB (c, es) = true) := hmb
      clear hmb
      by_cases hv : (es.length : Int) ≤ vars
      · have hT : (monB (c, es) && decide (((c, es).2.length : Int) ≤ vars)) = true := by rw [HMb.out]; simpa using hv
        have HT : Hid ((monB (c, es) && decide (((c, es).2.length : Int) ≤ vars)) = true) := hT
        clear hT
        by_cases hk0 : k = 0
        · subst hk0
          have HO : Hid (okR p vars 0 = true) := okR_0 HX.out HT.out
          rw [Nat.zero_mul, Nat.add_zero] at hc0 hc1
          go_wp2_with fail
          refine region_belowY (by kernel_rfl) (by kernel_rfl) ?_
          (go_big_quiet_want; go_big_quiet_op; go_big_quiet_on)
          (go_big_quiet_want; go_big_quiet_op; go_big_quiet_on)
          go_big_quiet_want
          refine ⟨.pointer (some ⟨g, off, none⟩), fun w' hw' => ?_, ?_⟩
          · unfold Oper.quietAt; go_simp
          simp only [Act.put, List.setIfInBounds_toArray, List.set_cons_zero, List.set_cons_succ]
          go_big_quiet_on
          go_big_quiet_want
          refine ⟨.agg #[.slice a1 c.length c1, .slice a2 es.length c2], fun w' hw' => ?_, ?_⟩
          · have hh0 := (Kp.of_below hw').cell _ _ hc0; have hh1 := (Kp.of_below hw').cell _ _ hc1; unfold Oper.quietAt; go_simp
          simp only [Act.put, List.setIfInBounds_toArray, List.set_cons_zero, List.set_cons_succ]
          go_big_quiet_on
          go_big_quiet_want
          refine ⟨.bool true, fun w' hw' => ?_, ?_⟩
          · unfold Oper.quietAt; go_simp; exact (refForm_any _ _ (c, es) _ (HMo.out.kp (Kp.of_below hw'))).mono (fun e w1 ⟨he, hb⟩ => ⟨by rw [he, HMb.out], below_step hw' hb⟩)
          simp only [Act.put, List.setIfInBounds_toArray, List.set_cons_zero, List.set_cons_succ]
          go_big_quiet_on
          go_big_quiet_want
          refine ⟨.bool false, fun w' hw' => ?_, ?_⟩
          · unfold Oper.quietAt; go_simp
          simp only [Act.put, List.setIfInBounds_toArray, List.set_cons_zero, List.set_cons_succ]
          go_big_quiet_on
          (go_big_quiet_want; go_big_quiet_op; go_big_quiet_on)
          (go_big_quiet_want; go_big_quiet_op; go_big_quiet_on)
          (go_big_quiet_want; go_big_quiet_op; go_big_quiet_on)
          go_big_quiet_want
          refine ⟨.pointer (some ⟨g, off, none⟩), fun w' hw' => ?_, ?_⟩
          · unfold Oper.quietAt; go_simp
          simp only [Act.put, List.setIfInBounds_toArray, List.set_cons_zero, List.set_cons_succ]
          go_big_quiet_on
          go_big_quiet_want
          refine ⟨.pointer (some ⟨g, off + 1, none⟩), fun w' hw' => ?_, ?_⟩
          · unfold Oper.quietAt; go_simp
          simp only [Act.put, List.setIfInBounds_toArray, List.set_cons_zero, List.set_cons_succ]
          go_big_quiet_on
          go_big_quiet_want
          refine ⟨.slice a2 es.length c2, fun w' hw' => ?_, ?_⟩
          · have hh := (Kp.of_below hw').cell _ _ hc1; unfold Oper.quietAt; go_simp
          simp only [Act.put, List.setIfInBounds_toArray, List.set_cons_zero, List.set_cons_succ]
          go_big_quiet_on
          go_big_quiet_want
          refine ⟨.int .i64 (es.length : Int), fun w' hw' => ?_, ?_⟩
          · unfold Oper.quietAt; go_simp
          simp only [Act.put, List.setIfInBounds_toArray, List.set_cons_zero, List.set_cons_succ]
          go_big_quiet_on
          (go_big_quiet_want; go_big_quiet_op; go_big_quiet_on)
          go_big_quiet_want
          refine ⟨.bool false, fun w' hw' => ?_, ?_⟩
          · unfold Oper.quietAt; go_simp
          simp only [Act.put, List.setIfInBounds_toArray, List.set_cons_zero, List.set_cons_succ]
          go_big_quiet_on
          go_big_quiet_want
          refine ⟨.bool false, fun w' hw' => ?_, ?_⟩
          · unfold Oper.quietAt; go_simp
          simp only [Act.put, List.setIfInBounds_toArray, List.set_cons_zero, List.set_cons_succ]
          go_big_quiet_on
          (go_big_quiet_want; go_big_quiet_op; go_big_quiet_on)
          (go_big_quiet_want; go_big_quiet_op; go_big_quiet_on)
          go_big_quiet_want
          refine ⟨.bool false, fun w' hw' => ?_, ?_⟩
          · unfold Oper.quietAt; go_simp
          simp only [Act.put, List.setIfInBounds_toArray, List.set_cons_zero, List.set_cons_succ]
          go_big_quiet_on
          (go_big_quiet_want; go_big_quiet_op; go_big_quiet_on)
          go_big_quiet_skip
          go_big_quiet_skip
          go_big_quiet_skip
          go_big_quiet_skip
          go_big_quiet_skip
          go_big_quiet_skip
          go_big_quiet_skip
          go_big_quiet_skip
          go_big_quiet_skip
          go_big_quiet_skip
          go_big_quiet_skip
          go_big_quiet_skip
          go_big_quiet_skip
          go_big_quiet_want
          refine ⟨.bool false, fun w' hw' => ?_, ?_⟩
          · unfold Oper.quietAt; go_simp
          simp only [Act.put, List.setIfInBounds_toArray, List.set_cons_zero, List.set_cons_succ]
          go_big_quiet_on
          go_big_quiet_want
          refine ⟨.bool false, fun w' hw' => ?_, ?_⟩
          · unfold Oper.quietAt; go_simp
          simp only [Act.put, List.setIfInBounds_toArray, List.set_cons_zero, List.set_cons_succ]
          go_big_quiet_on
          refine wpQuiet_nil ?_
          intro w1 hb1
          have HB1 : Hid (Below w.heap.size w w1) := below_step HBd.out hb1
          clear hb1
          go_wp2
          go_roundw
          case rel => exact ⟨1, by omega, by go_num, fun j hj => by obtain rfl : j = 0 := Nat.lt_one_iff.1 hj; exact HO.out, HB1.out⟩
          case measure => simp [intOf]; omega
        · obtain ⟨j, rfl⟩ : ∃ j, k = j + 1 := ⟨k - 1, by omega⟩
          clear hk0
          obtain ⟨g', off', d, fs, b1, d1, b2, d2, hq, hm2, he0, he1, hmo2, hk1, hk2, hk3, hk4⟩ := HMr.out.at (k := j) (by omega)
          obtain ⟨rfl, rfl⟩ : g = g' ∧ off = off' := by simpa using hq
          have HX2 : Hid (p[j]? = some (d, fs)) := hm2
          have HI2 : Hid (Is wr (.slice b2 fs.length d2) fs) := hmo2.2
          have HO : Hid (okR p vars (j + 1) = decide (ordX fs es < 0)) := okR_s HX.out HX2.out HT.out
          obtain ⟨O, hO⟩ : ∃ O, O = ordX fs es := ⟨_, rfl⟩
          have HOe : Hid (O = ordX fs es) := hO
          rw [← hO] at HO
          clear hm2 hmo2 he0 hq hO
          have hg0 : (0 : Int) < (j : Int) + 1 := by omega
          have hg1 : (0 : Int) ≤ (j : Int) + 1 := by omega
          have HJw : Hid (IntKind.i64.wrap (j : Int) = (j : Int)) := IntWalk.i64_in _ ⟨by omega, by omega⟩
          have hjl : j < p.length := by omega
          by_cases hneg : O < 0
          · obtain ⟨BO, hBO⟩ : ∃ B, B = false := ⟨_, rfl⟩
            have hdn : decide (0 ≤ O) = BO := by rw [hBO]; exact decide_eq_false (by omega)
            have HOk : Hid (okR p vars (j + 1) = true) := by show _ = _; rw [HO.out]; exact decide_eq_true hneg
            clear hneg
            go_wp2_with fail
            refine region_belowY (by kernel_rfl) (by kernel_rfl) ?_
            (go_big_quiet_want; go_big_quiet_op; go_big_quiet_on)
            (go_big_quiet_want; go_big_quiet_op; go_big_quiet_on)
            go_big_quiet_want
            refine ⟨.pointer (some ⟨g, off + (j + 1) * 2, none⟩), fun w' hw' => ?_, ?_⟩
            · unfold Oper.quietAt; go_simp
            simp only [Act.put, List.setIfInBounds_toArray, List.set_cons_zero, List.set_cons_succ]
            go_big_quiet_on
            go_big_quiet_want
            refine ⟨.agg #[.slice a1 c.length c1, .slice a2 es.length c2], fun w' hw' => ?_, ?_⟩
            · have hh0 := (Kp.of_below hw').cell _ _ hc0; have hh1 := (Kp.of_below hw').cell _ _ hc1; unfold Oper.quietAt; go_simp
            simp only [Act.put, List.setIfInBounds_toArray, List.set_cons_zero, List.set_cons_succ]
            go_big_quiet_on
            go_big_quiet_want
            refine ⟨.bool true, fun w' hw' => ?_, ?_⟩
            · unfold Oper.quietAt; go_simp; exact (refForm_any _ _ (c, es) _ (HMo.out.kp (Kp.of_below hw'))).mono (fun e w1 ⟨he, hb⟩ => ⟨by rw [he, HMb.out], below_step hw' hb⟩)
            simp only [Act.put, List.setIfInBounds_toArray, List.set_cons_zero, List.set_cons_succ]
            go_big_quiet_on
            go_big_quiet_want
            refine ⟨.bool false, fun w' hw' => ?_, ?_⟩
            · unfold Oper.quietAt; go_simp
            simp only [Act.put, List.setIfInBounds_toArray, List.set_cons_zero, List.set_cons_succ]
            go_big_quiet_on
            (go_big_quiet_want; go_big_quiet_op; go_big_quiet_on)
            (go_big_quiet_want; go_big_quiet_op; go_big_quiet_on)
            (go_big_quiet_want; go_big_quiet_op; go_big_quiet_on)
            go_big_quiet_want
            refine ⟨.pointer (some ⟨g, off + (j + 1) * 2, none⟩), fun w' hw' => ?_, ?_⟩
            · unfold Oper.quietAt; go_simp
            simp only [Act.put, List.setIfInBounds_toArray, List.set_cons_zero, List.set_cons_succ]
            go_big_quiet_on
            go_big_quiet_want
            refine ⟨.pointer (some ⟨g, off + (j + 1) * 2 + 1, none⟩), fun w' hw' => ?_, ?_⟩
            · unfold Oper.quietAt; go_simp
            simp only [Act.put, List.setIfInBounds_toArray, List.set_cons_zero, List.set_cons_succ]
            go_big_quiet_on
            go_big_quiet_want
            refine ⟨.slice a2 es.length c2, fun w' hw' => ?_, ?_⟩
            · have hh := (Kp.of_below hw').cell _ _ hc1; unfold Oper.quietAt; go_simp
            simp only [Act.put, List.setIfInBounds_toArray, List.set_cons_zero, List.set_cons_succ]
            go_big_quiet_on
            go_big_quiet_want
            refine ⟨.int .i64 (es.length : Int), fun w' hw' => ?_, ?_⟩
            · unfold Oper.quietAt; go_simp
            simp only [Act.put, List.setIfInBounds_toArray, List.set_cons_zero, List.set_cons_succ]
            go_big_quiet_on
            (go_big_quiet_want; go_big_quiet_op; go_big_quiet_on)
            go_big_quiet_want
            refine ⟨.bool false, fun w' hw' => ?_, ?_⟩
            · unfold Oper.quietAt; go_simp
            simp only [Act.put, List.setIfInBounds_toArray, List.set_cons_zero, List.set_cons_succ]
            go_big_quiet_on
            go_big_quiet_want
            refine ⟨.bool false, fun w' hw' => ?_, ?_⟩
            · unfold Oper.quietAt; go_simp
            simp only [Act.put, List.setIfInBounds_toArray, List.set_cons_zero, List.set_cons_succ]
            go_big_quiet_on
            (go_big_quiet_want; go_big_quiet_op; go_big_quiet_on)
            (go_big_quiet_want; go_big_quiet_op; go_big_quiet_on)
            go_big_quiet_want
            refine ⟨.bool true, fun w' hw' => ?_, ?_⟩
            · unfold Oper.quietAt; go_simp
            simp only [Act.put, List.setIfInBounds_toArray, List.set_cons_zero, List.set_cons_succ]
            go_big_quiet_on
            (go_big_quiet_want; go_big_quiet_op; go_big_quiet_on)
            (go_big_quiet_want; go_big_quiet_op; go_big_quiet_on)
            (go_big_quiet_want; go_big_quiet_op; go_big_quiet_on)
            go_big_quiet_want
            refine ⟨.int .i64 (j : Int), fun w' hw' => ?_, ?_⟩
            · unfold Oper.quietAt; go_simp; exact HJw.out
            simp only [Act.put, List.setIfInBounds_toArray, List.set_cons_zero, List.set_cons_succ]
            go_big_quiet_on
            go_big_quiet_want
            refine ⟨.pointer (some ⟨g, off + j * 2, none⟩), fun w' hw' => ?_, ?_⟩
            · unfold Oper.quietAt; go_simp
            simp only [Act.put, List.setIfInBounds_toArray, List.set_cons_zero, List.set_cons_succ]
            go_big_quiet_on
            go_big_quiet_want
            refine ⟨.pointer (some ⟨g, off + j * 2 + 1, none⟩), fun w' hw' => ?_, ?_⟩
            · unfold Oper.quietAt; go_simp
            simp only [Act.put, List.setIfInBounds_toArray, List.set_cons_zero, List.set_cons_succ]
            go_big_quiet_on
            go_big_quiet_want
            refine ⟨.slice b2 fs.length d2, fun w' hw' => ?_, ?_⟩
            · have hh := (Kp.of_below hw').cell _ _ he1; unfold Oper.quietAt; go_simp
            simp only [Act.put, List.setIfInBounds_toArray, List.set_cons_zero, List.set_cons_succ]
            go_big_quiet_on
            (go_big_quiet_want; go_big_quiet_op; go_big_quiet_on)
            (go_big_quiet_want; go_big_quiet_op; go_big_quiet_on)
            go_big_quiet_want
            refine ⟨.pointer (some ⟨g, off + (j + 1) * 2, none⟩), fun w' hw' => ?_, ?_⟩
            · unfold Oper.quietAt; go_simp
            simp only [Act.put, List.setIfInBounds_toArray, List.set_cons_zero, List.set_cons_succ]
            go_big_quiet_on
            go_big_quiet_want
            refine ⟨.pointer (some ⟨g, off + (j + 1) * 2 + 1, none⟩), fun w' hw' => ?_, ?_⟩
            · unfold Oper.quietAt; go_simp
            simp only [Act.put, List.setIfInBounds_toArray, List.set_cons_zero, List.set_cons_succ]
            go_big_quiet_on
            go_big_quiet_want
            refine ⟨.slice a2 es.length c2, fun w' hw' => ?_, ?_⟩
            · have hh := (Kp.of_below hw').cell _ _ hc1; unfold Oper.quietAt; go_simp
            simp only [Act.put, List.setIfInBounds_toArray, List.set_cons_zero, List.set_cons_succ]
            go_big_quiet_on
            go_big_quiet_want
            refine ⟨.int .i64 O, fun w' hw' => ?_, ?_⟩
            · unfold Oper.quietAt; go_simp; exact (refOrder_any _ _ fs es _ (HI2.out.kp (Kp.of_below hw')) (HMo.out.2.kp (Kp.of_below hw'))).mono (fun e w1 ⟨he, hw9⟩ => ⟨by rw [he, ← HOe.out], by rw [hw9]; exact hw'⟩)
            simp only [Act.put, List.setIfInBounds_toArray, List.set_cons_zero, List.set_cons_succ]
            go_big_quiet_on
            go_big_quiet_want
            refine ⟨.bool BO, fun w' hw' => ?_, ?_⟩
            · unfold Oper.quietAt; go_simp
            simp only [Act.put, List.setIfInBounds_toArray, List.set_cons_zero, List.set_cons_succ]
            go_big_quiet_on
            go_big_quiet_want
            refine ⟨.bool BO, fun w' hw' => ?_, ?_⟩
            · unfold Oper.quietAt; go_simp
            simp only [Act.put, List.setIfInBounds_toArray, List.set_cons_zero, List.set_cons_succ]
            go_big_quiet_on
            go_big_quiet_want
            refine ⟨.bool BO, fun w' hw' => ?_, ?_⟩
            · unfold Oper.quietAt; go_simp
            simp only [Act.put, List.setIfInBounds_toArray, List.set_cons_zero, List.set_cons_succ]
            go_big_quiet_on
            refine wpQuiet_nil ?_
            intro w1 hb1
            subst hBO
            have HB1 : Hid (Below w.heap.size w w1) := below_step HBd.out hb1
            clear hb1
            go_wp2
            go_roundw
            case rel =>
              refine ⟨j + 1 + 1, by omega, by go_num, fun i hi => ?_, HB1.out⟩
              by_cases hij : i = j + 1
              · subst hij; exact HOk.out
              · exact HP.out i (by omega)
            case measure => simp [intOf]; omega
          · obtain ⟨BO, hBO⟩ : ∃ B, B = true := ⟨_, rfl⟩
            have hdn : decide (0 ≤ O) = BO := by rw [hBO]; exact decide_eq_true (by omega)
            have HF : Hid (checkR p vars = 20) := by
              show _ = _
              unfold checkR
              rw [if_neg (Int.not_lt.2 H0.out), if_pos (polyR_no hlt (HO.out.trans (decide_eq_false hneg)))]
            clear hneg
            go_wp2_with fail
            refine region_belowY (by kernel_rfl) (by kernel_rfl) ?_
            (go_big_quiet_want; go_big_quiet_op; go_big_quiet_on)
            (go_big_quiet_want; go_big_quiet_op; go_big_quiet_on)
            go_big_quiet_want
            refine ⟨.pointer (some ⟨g, off + (j + 1) * 2, none⟩), fun w' hw' => ?_, ?_⟩
            · unfold Oper.quietAt; go_simp
            simp only [Act.put, List.setIfInBounds_toArray, List.set_cons_zero, List.set_cons_succ]
            go_big_quiet_on
            go_big_quiet_want
            refine ⟨.agg #[.slice a1 c.length c1, .slice a2 es.length c2], fun w' hw' => ?_, ?_⟩
            · have hh0 := (Kp.of_below hw').cell _ _ hc0; have hh1 := (Kp.of_below hw').cell _ _ hc1; unfold Oper.quietAt; go_simp
            simp only [Act.put, List.setIfInBounds_toArray, List.set_cons_zero, List.set_cons_succ]
            go_big_quiet_on
            go_big_quiet_want
            refine ⟨.bool true, fun w' hw' => ?_, ?_⟩
            · unfold Oper.quietAt; go_simp; exact (refForm_any _ _ (c, es) _ (HMo.out.kp (Kp.of_below hw'))).mono (fun e w1 ⟨he, hb⟩ => ⟨by rw [he, HMb.out], below_step hw' hb⟩)
            simp only [Act.put, List.setIfInBounds_toArray, List.set_cons_zero, List.set_cons_succ]
            go_big_quiet_on
            go_big_quiet_want
            refine ⟨.bool false, fun w' hw' => ?_, ?_⟩
            · unfold Oper.quietAt; go_simp
            simp only [Act.put, List.setIfInBounds_toArray, List.set_cons_zero, List.set_cons_succ]
            go_big_quiet_on
            (go_big_quiet_want; go_big_quiet_op; go_big_quiet_on)
            (go_big_quiet_want; go_big_quiet_op; go_big_quiet_on)
            (go_big_quiet_want; go_big_quiet_op; go_big_quiet_on)
            go_big_quiet_want
            refine ⟨.pointer (some ⟨g, off + (j + 1) * 2, none⟩), fun w' hw' => ?_, ?_⟩
            · unfold Oper.quietAt; go_simp
            simp only [Act.put, List.setIfInBounds_toArray, List.set_cons_zero, List.set_cons_succ]
            go_big_quiet_on
            go_big_quiet_want
            refine ⟨.pointer (some ⟨g, off + (j + 1) * 2 + 1, none⟩), fun w' hw' => ?_, ?_⟩
            · unfold Oper.quietAt; go_simp
            simp only [Act.put, List.setIfInBounds_toArray, List.set_cons_zero, List.set_cons_succ]
            go_big_quiet_on
            go_big_quiet_want
            refine ⟨.slice a2 es.length c2, fun w' hw' => ?_, ?_⟩
            · have hh := (Kp.of_below hw').cell _ _ hc1; unfold Oper.quietAt; go_simp
            simp only [Act.put, List.setIfInBounds_toArray, List.set_cons_zero, List.set_cons_succ]
            go_big_quiet_on
            go_big_quiet_want
            refine ⟨.int .i64 (es.length : Int), fun w' hw' => ?_, ?_⟩
            · unfold Oper.quietAt; go_simp
            simp only [Act.put, List.setIfInBounds_toArray, List.set_cons_zero, List.set_cons_succ]
            go_big_quiet_on
            (go_big_quiet_want; go_big_quiet_op; go_big_quiet_on)
            go_big_quiet_want
            refine ⟨.bool false, fun w' hw' => ?_, ?_⟩
            · unfold Oper.quietAt; go_simp
            simp only [Act.put, List.setIfInBounds_toArray, List.set_cons_zero, List.set_cons_succ]
            go_big_quiet_on
            go_big_quiet_want
            refine ⟨.bool false, fun w' hw' => ?_, ?_⟩
            · unfold Oper.quietAt; go_simp
            simp only [Act.put, List.setIfInBounds_toArray, List.set_cons_zero, List.set_cons_succ]
            go_big_quiet_on
            (go_big_quiet_want; go_big_quiet_op; go_big_quiet_on)
            (go_big_quiet_want; go_big_quiet_op; go_big_quiet_on)
            go_big_quiet_want
            refine ⟨.bool true, fun w' hw' => ?_, ?_⟩
            · unfold Oper.quietAt; go_simp
            simp only [Act.put, List.setIfInBounds_toArray, List.set_cons_zero, List.set_cons_succ]
            go_big_quiet_on
            (go_big_quiet_want; go_big_quiet_op; go_big_quiet_on)
            (go_big_quiet_want; go_big_quiet_op; go_big_quiet_on)
            (go_big_quiet_want; go_big_quiet_op; go_big_quiet_on)
            go_big_quiet_want
            refine ⟨.int .i64 (j : Int), fun w' hw' => ?_, ?_⟩
            · unfold Oper.quietAt; go_simp; exact HJw.out
            simp only [Act.put, List.setIfInBounds_toArray, List.set_cons_zero, List.set_cons_succ]
            go_big_quiet_on
            go_big_quiet_want
            refine ⟨.pointer (some ⟨g, off + j * 2, none⟩), fun w' hw' => ?_, ?_⟩
            · unfold Oper.quietAt; go_simp
            simp only [Act.put, List.setIfInBounds_toArray, List.set_cons_zero, List.set_cons_succ]
            go_big_quiet_on
            go_big_quiet_want
            refine ⟨.pointer (some ⟨g, off + j * 2 + 1, none⟩), fun w' hw' => ?_, ?_⟩
            · unfold Oper.quietAt; go_simp
            simp only [Act.put, List.setIfInBounds_toArray, List.set_cons_zero, List.set_cons_succ]
            go_big_quiet_on
            go_big_quiet_want
            refine ⟨.slice b2 fs.length d2, fun w' hw' => ?_, ?_⟩
            · have hh := (Kp.of_below hw').cell _ _ he1; unfold Oper.quietAt; go_simp
            simp only [Act.put, List.setIfInBounds_toArray, List.set_cons_zero, List.set_cons_succ]
            go_big_quiet_on
            (go_big_quiet_want; go_big_quiet_op; go_big_quiet_on)
            (go_big_quiet_want; go_big_quiet_op; go_big_quiet_on)
            go_big_quiet_want
            refine ⟨.pointer (some ⟨g, off + (j + 1) * 2, none⟩), fun w' hw' => ?_, ?_⟩
            · unfold Oper.quietAt; go_simp
            simp only [Act.put, List.setIfInBounds_toArray, List.set_cons_zero, List.set_cons_succ]
            go_big_quiet_on
            go_big_quiet_want
            refine ⟨.pointer (some ⟨g, off + (j + 1) * 2 + 1, none⟩), fun w' hw' => ?_, ?_⟩
            · unfold Oper.quietAt; go_simp
            simp only [Act.put, List.setIfInBounds_toArray, List.set_cons_zero, List.set_cons_succ]
            go_big_quiet_on
            go_big_quiet_want
            refine ⟨.slice a2 es.length c2, fun w' hw' => ?_, ?_⟩
            · have hh := (Kp.of_below hw').cell _ _ hc1; unfold Oper.quietAt; go_simp
            simp only [Act.put, List.setIfInBounds_toArray, List.set_cons_zero, List.set_cons_succ]
            go_big_quiet_on
            go_big_quiet_want
            refine ⟨.int .i64 O, fun w' hw' => ?_, ?_⟩
            · unfold Oper.quietAt; go_simp; exact (refOrder_any _ _ fs es _ (HI2.out.kp (Kp.of_below hw')) (HMo.out.2.kp (Kp.of_below hw'))).mono (fun e w1 ⟨he, hw9⟩ => ⟨by rw [he, ← HOe.out], by rw [hw9]; exact hw'⟩)
            simp only [Act.put, List.setIfInBounds_toArray, List.set_cons_zero, List.set_cons_succ]
            go_big_quiet_on
            go_big_quiet_want
            refine ⟨.bool BO, fun w' hw' => ?_, ?_⟩
            · unfold Oper.quietAt; go_simp
            simp only [Act.put, List.setIfInBounds_toArray, List.set_cons_zero, List.set_cons_succ]
            go_big_quiet_on
            go_big_quiet_want
            refine ⟨.bool BO, fun w' hw' => ?_, ?_⟩
            · unfold Oper.quietAt; go_simp
            simp only [Act.put, List.setIfInBounds_toArray, List.set_cons_zero, List.set_cons_succ]
            go_big_quiet_on
            go_big_quiet_want
            refine ⟨.bool BO, fun w' hw' => ?_, ?_⟩
            · unfold Oper.quietAt; go_simp
            simp only [Act.put, List.setIfInBounds_toArray, List.set_cons_zero, List.set_cons_succ]
            go_big_quiet_on
            refine wpQuiet_nil ?_
            intro w1 hb1
            subst hBO
            have HB1 : Hid (Below w.heap.size w w1) := below_step HBd.out hb1
            clear hb1
            go_wp2
            go_ret
            exact ⟨ret1i HF.out.symm, HB1.out⟩
      · have HF : Hid (checkR p vars = 20) := by
          show _ = _
          unfold checkR
          rw [if_neg (Int.not_lt.2 H0.out), if_pos (polyR_no hlt (okR_no HX.out (by rw [HMb.out]; simpa using hv)))]
        go_wp2_with fail
        refine region_belowY (by kernel_rfl) (by kernel_rfl) ?_
        (go_big_quiet_want; go_big_quiet_op; go_big_quiet_on)
        (go_big_quiet_want; go_big_quiet_op; go_big_quiet_on)
        go_big_quiet_want
        refine ⟨.pointer (some ⟨g, off + k * 2, none⟩), fun w' hw' => ?_, ?_⟩
        · unfold Oper.quietAt; go_simp
        simp only [Act.put, List.setIfInBounds_toArray, List.set_cons_zero, List.set_cons_succ]
        go_big_quiet_on
        go_big_quiet_want
        refine ⟨.agg #[.slice a1 c.length c1, .slice a2 es.length c2], fun w' hw' => ?_, ?_⟩
        · have hh0 := (Kp.of_below hw').cell _ _ hc0; have hh1 := (Kp.of_below hw').cell _ _ hc1; unfold Oper.quietAt; go_simp
        simp only [Act.put, List.setIfInBounds_toArray, List.set_cons_zero, List.set_cons_succ]
        go_big_quiet_on
        go_big_quiet_want
        refine ⟨.bool true, fun w' hw' => ?_, ?_⟩
        · unfold Oper.quietAt; go_simp; exact (refForm_any _ _ (c, es) _ (HMo.out.kp (Kp.of_below hw'))).mono (fun e w1 ⟨he, hb⟩ => ⟨by rw [he, HMb.out], below_step hw' hb⟩)
        simp only [Act.put, List.setIfInBounds_toArray, List.set_cons_zero, List.set_cons_succ]
        go_big_quiet_on
        go_big_quiet_want
        refine ⟨.bool false, fun w' hw' => ?_, ?_⟩
        · unfold Oper.quietAt; go_simp
        simp only [Act.put, List.setIfInBounds_toArray, List.set_cons_zero, List.set_cons_succ]
        go_big_quiet_on
        (go_big_quiet_want; go_big_quiet_op; go_big_quiet_on)
        (go_big_quiet_want; go_big_quiet_op; go_big_quiet_on)
        (go_big_quiet_want; go_big_quiet_op; go_big_quiet_on)
        go_big_quiet_want
        refine ⟨.pointer (some ⟨g, off + k * 2, none⟩), fun w' hw' => ?_, ?_⟩
        · unfold Oper.quietAt; go_simp
        simp only [Act.put, List.setIfInBounds_toArray, List.set_cons_zero, List.set_cons_succ]
        go_big_quiet_on
        go_big_quiet_want
        refine ⟨.pointer (some ⟨g, off + k * 2 + 1, none⟩), fun w' hw' => ?_, ?_⟩
        · unfold Oper.quietAt; go_simp
        simp only [Act.put, List.setIfInBounds_toArray, List.set_cons_zero, List.set_cons_succ]
        go_big_quiet_on
        go_big_quiet_want
        refine ⟨.slice a2 es.length c2, fun w' hw' => ?_, ?_⟩
        · have hh := (Kp.of_below hw').cell _ _ hc1; unfold Oper.quietAt; go_simp
        simp only [Act.put, List.setIfInBounds_toArray, List.set_cons_zero, List.set_cons_succ]
        go_big_quiet_on
        go_big_quiet_want
        refine ⟨.int .i64 (es.length : Int), fun w' hw' => ?_, ?_⟩
        · unfold Oper.quietAt; go_simp
        simp only [Act.put, List.setIfInBounds_toArray, List.set_cons_zero, List.set_cons_succ]
        go_big_quiet_on
        (go_big_quiet_want; go_big_quiet_op; go_big_quiet_on)
        go_big_quiet_want
        refine ⟨.bool true, fun w' hw' => ?_, ?_⟩
        · unfold Oper.quietAt; go_simp
        simp only [Act.put, List.setIfInBounds_toArray, List.set_cons_zero, List.set_cons_succ]
        go_big_quiet_on
        go_big_quiet_want
        refine ⟨.bool true, fun w' hw' => ?_, ?_⟩
        · unfold Oper.quietAt; go_simp
        simp only [Act.put, List.setIfInBounds_toArray, List.set_cons_zero, List.set_cons_succ]
        go_big_quiet_on
        (go_big_quiet_want; go_big_quiet_op; go_big_quiet_on)
        go_big_quiet_skip
        go_big_quiet_skip
        go_big_quiet_skip
        go_big_quiet_skip
        go_big_quiet_skip
        go_big_quiet_skip
        go_big_quiet_skip
        go_big_quiet_skip
        go_big_quiet_skip
        go_big_quiet_skip
        go_big_quiet_skip
        go_big_quiet_skip
        go_big_quiet_skip
        go_big_quiet_skip
        go_big_quiet_skip
        go_big_quiet_skip
        go_big_quiet_skip
        go_big_quiet_want
        refine ⟨.bool true, fun w' hw' => ?_, ?_⟩
        · unfold Oper.quietAt; go_simp
        simp only [Act.put, List.setIfInBounds_toArray, List.set_cons_zero, List.set_cons_succ]
        go_big_quiet_on
        refine wpQuiet_nil ?_
        intro w1 hb1
        go_wp2
        go_ret
        exact ⟨ret1i HF.out.symm, below_step HBd.out hb1⟩
    · have HR : Hid (polyR p vars = true) := polyR_iff.2 fun j hj => HP.out j (by omega)
      have HBw : Hid (Below w.heap.size w wr) := hbl
      clear hbl
      go_wp2
      go_loopw [6] (fun i ws => ∃ l : Nat, l ≤ p.length ∧ i = .int .i64 l ∧ (∀ (j : Nat) (m : Mn), j < l → p[j]? = some m → smallR m = true) ∧ Below w.heap.size w ws) (fun i _ => p.length - (intOf i).toNat)
      case atStart => exact ⟨0, by omega, rfl, fun j m hj => absurd hj (by omega), HBw.out⟩
      case round =>
        obtain ⟨l, hl, rfl, hq, hbl⟩ := hrel
        have HQ : Hid (∀ (j : Nat) (m : Mn), j < l → p[j]? = some m → smallR m = true) := hq
        clear hq
        by_cases hll : l < p.length
        · obtain ⟨g, off, c, es, a1, c1, a2, c2, rfl, hm1, hc0, hc1, hmo, hl1, hl2, hl3, hl4⟩ := (HM.out.kp (Kp.of_below hbl)).at hll
          have HX : Hid (p[l]? = some (c, es)) := hm1
          have HMo : Hid (Mo wr (.slice a1 c.length c1) (.slice a2 es.length c2) (c, es)) := hmo
          have HBs : Hid (Below w.heap.size w wr) := hbl
          clear hm1 hmo hbl
          go_wp2_with fail
          refine (refSmall_any _ _ (c, es) _ HMo.out).mono ?_
          rintro e w1 ⟨rfl, hb1⟩
          have HB1 : Hid (Below w.heap.size w w1) := below_step HBs.out hb1
          clear hb1 hc0 hc1
          cases hs : smallR (c, es)
          · have HF : Hid (checkR p vars = 2) := by
              show _ = _
              unfold checkR
              have : p.all smallR = false := by rw [List.all_eq_false]; exact ⟨_, List.mem_of_getElem? HX.out, by rw [hs]; simp⟩
              rw [if_neg (Int.not_lt.2 H0.out), HR.out, this, if_neg (by simp), if_pos rfl]
            clear hs
            go_wp2
            go_ret
            exact ⟨ret1i HF.out.symm, HB1.out⟩
          · have HSm : Hid (smallR (c, es) = true) := hs
            clear hs
            go_wp2
            go_roundw
            case rel =>
              refine ⟨l + 1, by omega, by go_num, fun j m hj hm => ?_, HB1.out⟩
              by_cases hjl : j = l
              · subst hjl; rw [HX.out] at hm; cases hm; exact HSm.out
              · exact HQ.out j m (by omega) hm
            case measure => simp [intOf]; omega
        · have HAll : Hid (p.all smallR = true) := by
            show _ = _
            rw [List.all_eq_true]
            intro m hm
            obtain ⟨j, hj⟩ := List.mem_iff_getElem?.1 hm
            exact HQ.out j m (by have := (List.getElem?_eq_some_iff.1 hj).1; omega) hj
          have HBs : Hid (Below w.heap.size w wr) := hbl
          clear hbl
          by_cases h256 : p.length ≤ 256
          · have HF : Hid (checkR p vars = 0) := by
              show _ = _
              unfold checkR
              rw [if_neg (Int.not_lt.2 H0.out), HR.out, HAll.out, if_neg (by simp), if_neg (by simp), if_pos h256]
            go_wp2
            go_ret
            exact ⟨ret1i HF.out.symm, HBs.out⟩
          · have HF : Hid (checkR p vars = 2) := by
              show _ = _
              unfold checkR
              rw [if_neg (Int.not_lt.2 H0.out), HR.out, HAll.out, if_neg (by simp), if_neg (by simp), if_neg h256]
            go_wp2
            go_ret
            exact ⟨ret1i HF.out.symm, HBs.out⟩

end Go.Proofs.YtdjmjhlbjcgoiaaGreatDoor
