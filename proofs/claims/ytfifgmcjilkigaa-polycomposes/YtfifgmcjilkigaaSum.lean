/- What adding answers, of the program's and of the document's. -/
import Derived.Test.YtfifgmcjilkigaaTrim
namespace Go.Proofs.Ytfifgmcjilkigaa
open Go.RowKit

theorem made_zero (n : Nat) : (madeCells (Value.int .u32 0).cells (n * 1)).toList = (List.replicate n 0).map U := by
  have : (Value.int .u32 0).cells = #[Value.int .u32 0] := rfl
  rw [this, toList_madeCells_one]
  simp [U]

theorem Ow.made {w : World} {base n : Nat} {v : Value} (h : w.ownsRow base 43 1 v n (madeCells (Value.int .u32 0).cells (n * 1)).toList) : Ow w base v (List.replicate n 0) := by
  rw [made_zero] at h
  exact ⟨by intro x hx; have := (List.mem_replicate.1 hx).2; omega, by simpa using h⟩

set_option maxRecDepth 100000 in
set_option maxHeartbeats 800000 in
theorem sum_le (v u : Value) (xs ys : List Nat) (w : World) (h : Sl w v xs) (h' : Sl w u ys) (hle : ys.length ≤ xs.length) (h64 : xs.length ≤ 64) :
    Calls Try.prog 73 #[v, u] w fun e w' => ∃ v' zs, e = .returned v' ∧ Ow w' w.heap.size v' zs ∧ val zs = val xs + val ys ∧ Below w.heap.size w w' := by
  obtain ⟨ao, cap, rfl, hao, hca, hcl⟩ := h.flat
  obtain ⟨bo, cap', rfl, hbo, hcb, hcl'⟩ := h'.flat
  unfold maxLen at hca hcb
  obtain ⟨i0, hi, hz0, hz1, hz2⟩ := info_parts info_u32
  have HS : Hid (Sl w (.slice ao xs.length cap) xs) := h
  have HS' : Hid (Sl w (.slice bo ys.length cap') ys) := h'
  clear h h' hcl hcl'
  go_enter Try.func73, Try.ntmps73
  go_wp2_with (first
    | (at_make; refine wpList_make_full _ rfl _ _ 36 rfl w.heap.size 43 i0 (.int .u32 0) 1 under_row hi hz0 hz1 .i64 .i64 _ _ (xs.length + 1) rfl rfl (by omega) (by omega) (by rw [hz2]; omega) (by unfold maxLen; omega) (Nat.le_refl _) ?_; intro w0 hown0 hgrow0))
  have hb0 : Below w.heap.size w w0 := (Below.refl _ _).grown hgrow0 (Nat.le_refl _) (by intro k hk; cases hk)
  obtain ⟨w1, hrun, ho1, hg1⟩ := run_copy_own (Ow.made hown0) (by simp) (HS.out.later hb0) (by omega)
  have hb1 : Below w.heap.size w w1 := hb0.grown hg1 hb0.size (by intro k hk; simp at hk; omega)
  have HO : Hid (Ow w1 w.heap.size (.slice (some ⟨w.heap.size, 0, none⟩) (xs.length + 1) (xs.length + 1)) (xs ++ [0])) := by
    have := ho1
    rw [List.drop_replicate, show xs.length + 1 - xs.length = 1 by omega] at this
    exact this
  clear hown0 hgrow0 ho1 hg1 hb0
  rw [hrun]
  go_wp2
  clear hrun
  go_loopw [6, 24] (fun c i wr => ∃ (k C : Nat) (Z : List Nat), k ≤ xs.length ∧ i = .int .i64 k ∧ c = .int .u64 C ∧ C ≤ 1 ∧ Z.length = k ∧ val Z + 4294967296 ^ k * C = val (xs.take k) + val (ys.take k) ∧
      Ow wr w.heap.size (.slice (some ⟨w.heap.size, 0, none⟩) (xs.length + 1) (xs.length + 1)) (Z ++ (xs.drop k ++ [0])) ∧ Below w.heap.size w wr) (fun _ i _ => xs.length - (intOf i).toNat)
  case atStart => exact ⟨0, 0, [], Nat.zero_le _, rfl, rfl, by omega, rfl, by simp [val], by simpa using HO.out, hb1⟩
  case round =>
    obtain ⟨k, C, Z, hk, rfl, rfl, hC, hZ, hval, hown, hbl⟩ := hrel
    have HV : Hid (val Z + 4294967296 ^ k * C = val (xs.take k) + val (ys.take k)) := hval
    have HZ : Hid (Z.length = k) := hZ
    have HW : Hid (Ow wr w.heap.size (.slice (some ⟨w.heap.size, 0, none⟩) (xs.length + 1) (xs.length + 1)) (Z ++ (xs.drop k ++ [0]))) := hown
    clear hval hZ hown HO hb1
    by_cases hlt : k < xs.length
    · obtain ⟨x, hx⟩ := exists_get hlt
      have hx32 : x < 4294967296 := HS.out.1.get hx
      have hd : xs.drop k = x :: xs.drop (k + 1) := drop_cons? hx
      have hw := HW.out
      rw [hd] at hw
      obtain ⟨hcell, hfr⟩ := hw.at (k := k) (get_mid HZ.out)
      have HX : Hid (xs.take (k + 1) = xs.take k ++ [x]) := take_snoc? hx
      have HW2 : Hid (Ow wr w.heap.size (.slice (some ⟨w.heap.size, 0, none⟩) (xs.length + 1) (xs.length + 1)) (Z ++ x :: (xs.drop (k + 1) ++ [0]))) := hw
      clear hw hd hx HW
      have HLX : Hid ((xs.take k).length = k) := by show _ = _; simp; omega
      by_cases hlt' : k < ys.length
      · obtain ⟨g, off, y, rfl, hy1, hy2, hy3⟩ := ((HS'.out.later hbl).flat').2 k hlt'
        have HY : Hid (ys.take (k + 1) = ys.take k ++ [y]) := take_snoc? hy1
        have HLY : Hid ((ys.take k).length = k) := by show _ = _; simp; omega
        have hp := HW2.out.put hbl (Nat.le_refl _) (by simp [HZ.out]; omega) (k := k) (z := (C + x + y) % 4294967296) (V := ((C : Int) + x + y) % 4294967296) (by omega) (by omega) (ys := Z ++ [(C + x + y) % 4294967296] ++ (xs.drop (k + 1) ++ [0])) (by rw [set_mid _ _ _ _ _ HZ.out]; simp)
        have HP : Hid (Ow (wr.setCell ⟨w.heap.size, k, none⟩ (.int .u32 (((C : Int) + x + y) % 4294967296))) w.heap.size (.slice (some ⟨w.heap.size, 0, none⟩) (xs.length + 1) (xs.length + 1)) (Z ++ [(C + x + y) % 4294967296] ++ (xs.drop (k + 1) ++ [0])) ∧ Below w.heap.size w (wr.setCell ⟨w.heap.size, k, none⟩ (.int .u32 (((C : Int) + x + y) % 4294967296)))) := hp
        clear hp hy1
        go_wp2
        go_roundw
        case rel =>
          refine ⟨k + 1, (C + x + y) / 4294967296, Z ++ [(C + x + y) % 4294967296], by omega, by go_num, by go_num, by omega, by simp [HZ.out], ?_, HP.out.1, HP.out.2⟩
          rw [HX.out, HY.out, val_snoc (xs.take k), val_snoc (ys.take k), HLX.out, HLY.out]
          exact add_step HZ.out HV.out
        case measure => simp [intOf]; omega
      · have HY : Hid (ys.take (k + 1) = ys.take k) := by show _ = _; rw [List.take_of_length_le (by omega), List.take_of_length_le (by omega)]
        have hp := HW2.out.put hbl (Nat.le_refl _) (by simp [HZ.out]; omega) (k := k) (z := (C + x + 0) % 4294967296) (V := ((C : Int) + x) % 4294967296) (by omega) (by omega) (ys := Z ++ [(C + x + 0) % 4294967296] ++ (xs.drop (k + 1) ++ [0])) (by rw [set_mid _ _ _ _ _ HZ.out]; simp)
        have HP : Hid (Ow (wr.setCell ⟨w.heap.size, k, none⟩ (.int .u32 (((C : Int) + x) % 4294967296))) w.heap.size (.slice (some ⟨w.heap.size, 0, none⟩) (xs.length + 1) (xs.length + 1)) (Z ++ [(C + x + 0) % 4294967296] ++ (xs.drop (k + 1) ++ [0])) ∧ Below w.heap.size w (wr.setCell ⟨w.heap.size, k, none⟩ (.int .u32 (((C : Int) + x) % 4294967296)))) := hp
        clear hp
        go_wp2
        go_roundw
        case rel =>
          refine ⟨k + 1, (C + x + 0) / 4294967296, Z ++ [(C + x + 0) % 4294967296], by omega, by go_num, by go_num, by omega, by simp [HZ.out], ?_, HP.out.1, HP.out.2⟩
          have := add_step (x := x) (y := 0) HZ.out HV.out
          rw [HX.out, HY.out, val_snoc (xs.take k), HLX.out]
          simpa using this
        case measure => simp [intOf]; omega
    · have hk' : k = xs.length := by omega
      have hw := HW.out
      rw [List.drop_of_length_le (by omega), List.nil_append] at hw
      obtain ⟨hcell, hfr⟩ := hw.at (k := k) (get_mid HZ.out)
      have hp := hw.put hbl (Nat.le_refl _) (by simp [HZ.out]; omega) (k := k) (z := C) (V := (C : Int)) rfl (by omega) (ys := Z ++ [C]) (set_mid _ _ _ _ _ HZ.out)
      subst hk'
      have HP : Hid (Ow (wr.setCell ⟨w.heap.size, xs.length, none⟩ (.int .u32 (C : Int))) w.heap.size (.slice (some ⟨w.heap.size, 0, none⟩) (xs.length + 1) (xs.length + 1)) (Z ++ [C]) ∧ Below w.heap.size w (wr.setCell ⟨w.heap.size, xs.length, none⟩ (.int .u32 (C : Int)))) := hp
      clear hp hw HW
      go_wp2
      go_ret
      refine ⟨_, Z ++ [C], rfl, HP.out.1, ?_, HP.out.2⟩
      have := HV.out
      rw [List.take_length, List.take_of_length_le hle] at this
      rw [val_snoc, HZ.out]; exact this

set_option maxRecDepth 100000 in
set_option maxHeartbeats 800000 in
theorem sum_lt (v u : Value) (xs ys : List Nat) (w : World) (h : Sl w v xs) (h' : Sl w u ys) (hle : ys.length < xs.length) (h64 : xs.length ≤ 64) :
    Calls Try.prog 73 #[u, v] w fun e w' => ∃ v' zs, e = .returned v' ∧ Ow w' w.heap.size v' zs ∧ val zs = val xs + val ys ∧ Below w.heap.size w w' := by
  obtain ⟨ao, cap, rfl, hao, hca, hcl⟩ := h.flat
  obtain ⟨bo, cap', rfl, hbo, hcb, hcl'⟩ := h'.flat
  unfold maxLen at hca hcb
  obtain ⟨i0, hi, hz0, hz1, hz2⟩ := info_parts info_u32
  have HS : Hid (Sl w (.slice ao xs.length cap) xs) := h
  have HS' : Hid (Sl w (.slice bo ys.length cap') ys) := h'
  clear h h' hcl hcl'
  go_enter Try.func73, Try.ntmps73
  go_wp2_with (first
    | (at_make; refine wpList_make_full _ rfl _ _ 36 rfl w.heap.size 43 i0 (.int .u32 0) 1 under_row hi hz0 hz1 .i64 .i64 _ _ (xs.length + 1) rfl rfl (by omega) (by omega) (by rw [hz2]; omega) (by unfold maxLen; omega) (Nat.le_refl _) ?_; intro w0 hown0 hgrow0))
  have hb0 : Below w.heap.size w w0 := (Below.refl _ _).grown hgrow0 (Nat.le_refl _) (by intro k hk; cases hk)
  obtain ⟨w1, hrun, ho1, hg1⟩ := run_copy_own (Ow.made hown0) (by simp) (HS.out.later hb0) (by omega)
  have hb1 : Below w.heap.size w w1 := hb0.grown hg1 hb0.size (by intro k hk; simp at hk; omega)
  have HO : Hid (Ow w1 w.heap.size (.slice (some ⟨w.heap.size, 0, none⟩) (xs.length + 1) (xs.length + 1)) (xs ++ [0])) := by
    have := ho1
    rw [List.drop_replicate, show xs.length + 1 - xs.length = 1 by omega] at this
    exact this
  clear hown0 hgrow0 ho1 hg1 hb0
  rw [hrun]
  go_wp2
  clear hrun
  go_loopw [6, 24] (fun c i wr => ∃ (k C : Nat) (Z : List Nat), k ≤ xs.length ∧ i = .int .i64 k ∧ c = .int .u64 C ∧ C ≤ 1 ∧ Z.length = k ∧ val Z + 4294967296 ^ k * C = val (xs.take k) + val (ys.take k) ∧
      Ow wr w.heap.size (.slice (some ⟨w.heap.size, 0, none⟩) (xs.length + 1) (xs.length + 1)) (Z ++ (xs.drop k ++ [0])) ∧ Below w.heap.size w wr) (fun _ i _ => xs.length - (intOf i).toNat)
  case atStart => exact ⟨0, 0, [], Nat.zero_le _, rfl, rfl, by omega, rfl, by simp [val], by simpa using HO.out, hb1⟩
  case round =>
    obtain ⟨k, C, Z, hk, rfl, rfl, hC, hZ, hval, hown, hbl⟩ := hrel
    have HV : Hid (val Z + 4294967296 ^ k * C = val (xs.take k) + val (ys.take k)) := hval
    have HZ : Hid (Z.length = k) := hZ
    have HW : Hid (Ow wr w.heap.size (.slice (some ⟨w.heap.size, 0, none⟩) (xs.length + 1) (xs.length + 1)) (Z ++ (xs.drop k ++ [0]))) := hown
    clear hval hZ hown HO hb1
    by_cases hlt : k < xs.length
    · obtain ⟨x, hx⟩ := exists_get hlt
      have hx32 : x < 4294967296 := HS.out.1.get hx
      have hd : xs.drop k = x :: xs.drop (k + 1) := drop_cons? hx
      have hw := HW.out
      rw [hd] at hw
      obtain ⟨hcell, hfr⟩ := hw.at (k := k) (get_mid HZ.out)
      have HX : Hid (xs.take (k + 1) = xs.take k ++ [x]) := take_snoc? hx
      have HW2 : Hid (Ow wr w.heap.size (.slice (some ⟨w.heap.size, 0, none⟩) (xs.length + 1) (xs.length + 1)) (Z ++ x :: (xs.drop (k + 1) ++ [0]))) := hw
      clear hw hd hx HW
      have HLX : Hid ((xs.take k).length = k) := by show _ = _; simp; omega
      by_cases hlt' : k < ys.length
      · obtain ⟨g, off, y, rfl, hy1, hy2, hy3⟩ := ((HS'.out.later hbl).flat').2 k hlt'
        have HY : Hid (ys.take (k + 1) = ys.take k ++ [y]) := take_snoc? hy1
        have HLY : Hid ((ys.take k).length = k) := by show _ = _; simp; omega
        have hp := HW2.out.put hbl (Nat.le_refl _) (by simp [HZ.out]; omega) (k := k) (z := (C + x + y) % 4294967296) (V := ((C : Int) + x + y) % 4294967296) (by omega) (by omega) (ys := Z ++ [(C + x + y) % 4294967296] ++ (xs.drop (k + 1) ++ [0])) (by rw [set_mid _ _ _ _ _ HZ.out]; simp)
        have HP : Hid (Ow (wr.setCell ⟨w.heap.size, k, none⟩ (.int .u32 (((C : Int) + x + y) % 4294967296))) w.heap.size (.slice (some ⟨w.heap.size, 0, none⟩) (xs.length + 1) (xs.length + 1)) (Z ++ [(C + x + y) % 4294967296] ++ (xs.drop (k + 1) ++ [0])) ∧ Below w.heap.size w (wr.setCell ⟨w.heap.size, k, none⟩ (.int .u32 (((C : Int) + x + y) % 4294967296)))) := hp
        clear hp hy1
        go_wp2
        go_roundw
        case rel =>
          refine ⟨k + 1, (C + x + y) / 4294967296, Z ++ [(C + x + y) % 4294967296], by omega, by go_num, by go_num, by omega, by simp [HZ.out], ?_, HP.out.1, HP.out.2⟩
          rw [HX.out, HY.out, val_snoc (xs.take k), val_snoc (ys.take k), HLX.out, HLY.out]
          exact add_step HZ.out HV.out
        case measure => simp [intOf]; omega
      · have HY : Hid (ys.take (k + 1) = ys.take k) := by show _ = _; rw [List.take_of_length_le (by omega), List.take_of_length_le (by omega)]
        have hp := HW2.out.put hbl (Nat.le_refl _) (by simp [HZ.out]; omega) (k := k) (z := (C + x + 0) % 4294967296) (V := ((C : Int) + x) % 4294967296) (by omega) (by omega) (ys := Z ++ [(C + x + 0) % 4294967296] ++ (xs.drop (k + 1) ++ [0])) (by rw [set_mid _ _ _ _ _ HZ.out]; simp)
        have HP : Hid (Ow (wr.setCell ⟨w.heap.size, k, none⟩ (.int .u32 (((C : Int) + x) % 4294967296))) w.heap.size (.slice (some ⟨w.heap.size, 0, none⟩) (xs.length + 1) (xs.length + 1)) (Z ++ [(C + x + 0) % 4294967296] ++ (xs.drop (k + 1) ++ [0])) ∧ Below w.heap.size w (wr.setCell ⟨w.heap.size, k, none⟩ (.int .u32 (((C : Int) + x) % 4294967296)))) := hp
        clear hp
        go_wp2
        go_roundw
        case rel =>
          refine ⟨k + 1, (C + x + 0) / 4294967296, Z ++ [(C + x + 0) % 4294967296], by omega, by go_num, by go_num, by omega, by simp [HZ.out], ?_, HP.out.1, HP.out.2⟩
          have := add_step (x := x) (y := 0) HZ.out HV.out
          rw [HX.out, HY.out, val_snoc (xs.take k), HLX.out]
          simpa using this
        case measure => simp [intOf]; omega
    · have hk' : k = xs.length := by omega
      have hw := HW.out
      rw [List.drop_of_length_le (by omega), List.nil_append] at hw
      obtain ⟨hcell, hfr⟩ := hw.at (k := k) (get_mid HZ.out)
      have hp := hw.put hbl (Nat.le_refl _) (by simp [HZ.out]; omega) (k := k) (z := C) (V := (C : Int)) rfl (by omega) (ys := Z ++ [C]) (set_mid _ _ _ _ _ HZ.out)
      subst hk'
      have HP : Hid (Ow (wr.setCell ⟨w.heap.size, xs.length, none⟩ (.int .u32 (C : Int))) w.heap.size (.slice (some ⟨w.heap.size, 0, none⟩) (xs.length + 1) (xs.length + 1)) (Z ++ [C]) ∧ Below w.heap.size w (wr.setCell ⟨w.heap.size, xs.length, none⟩ (.int .u32 (C : Int)))) := hp
      clear hp hw HW
      go_wp2
      go_ret
      refine ⟨_, Z ++ [C], rfl, HP.out.1, ?_, HP.out.2⟩
      have := HV.out
      rw [List.take_length, List.take_of_length_le (Nat.le_of_lt hle)] at this
      rw [val_snoc, HZ.out]; exact this

theorem sum_any (v u : Value) (xs ys : List Nat) (w : World) (h : Sl w v xs) (h' : Sl w u ys) (h64 : xs.length ≤ 64) (h64' : ys.length ≤ 64) :
    Calls Try.prog 73 #[v, u] w fun e w' => ∃ v' zs, e = .returned v' ∧ Ow w' w.heap.size v' zs ∧ val zs = val xs + val ys ∧ Below w.heap.size w w' := by
  by_cases hle : ys.length ≤ xs.length
  · exact sum_le v u xs ys w h h' hle h64
  · refine (sum_lt u v ys xs w h' h (by omega) h64').mono ?_
    rintro e w' ⟨v', zs, he, ho, hv, hb⟩
    exact ⟨v', zs, he, ho, by omega, hb⟩

set_option maxHeartbeats 400000 in
theorem add_any (v u : Value) (xs ys : List Nat) (w : World) (h : Sl w v xs) (h' : Sl w u ys) :
    Calls Try.prog 54 #[v, u] w fun e w' => ∃ v', e = .returned (.tuple #[v', .int .i64 (addE xs ys)]) ∧ Ow w' w.heap.size v' (addL xs ys) ∧ Below w.heap.size w w' := by
  go_enter Try.func54, Try.ntmps54
  go_wp2_with fail
  refine (right_any v xs _ h).mono ?_
  rintro e w1 ⟨rfl, rfl⟩
  cases hr : rightB xs
  · go_wp2
    go_ret2
    exact ⟨_, ret2i (by simp [addE, hr]), by simp [addL, hr]; exact Ow.nil _ _, Below.refl _ _⟩
  go_wp2_with fail
  refine (right_any u ys _ h').mono ?_
  rintro e w1 ⟨rfl, rfl⟩
  cases hr' : rightB ys
  · go_wp2
    go_ret2
    exact ⟨_, ret2i (by simp [addE, hr']), by simp [addL, hr']; exact Ow.nil _ _, Below.refl _ _⟩
  go_wp2_with fail
  refine (sum_any v u xs ys _ h h' (length_le_of_right hr) (length_le_of_right hr')).mono ?_
  rintro e w2 ⟨v2, zs, rfl, ho, hv, hb⟩
  have HV : Hid (val zs = val xs + val ys) := hv
  clear hv
  go_wp2_with fail
  refine (inBounds_any v2 zs _ _ ho).mono ?_
  rintro e w3 ⟨v3, rfl, ho3, rfl⟩
  rw [HV.out] at ho3 ⊢
  go_wp2
  go_ret2
  exact ⟨_, ret2i (by simp [addE, hr, hr']), by simp only [addL, hr, hr', Bool.and_self, if_true]; exact ho3, hb⟩

end Go.Proofs.Ytfifgmcjilkigaa
