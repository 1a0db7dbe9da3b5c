/- Texts of the proof, one behind the other. -/
import Derived.Test.YtdjmjhlbjcgoiaaGreatDoorOwn2
import Derived.Test.YtdjmjhlbjcgoiaaGreatDoorOwn1
import Derived.Test.YtdjmjhlbjcgoiaaGreatDoorOwn5
import Derived.Maps.Own
import Derived.Maps.OwnOps
import Derived.Maps.OwnSet
import Derived.Maps.Range
import Derived.Maps.RangeWalk
import Derived.DeepKeys4
import Derived.Lib.Bytealg
import Derived.Laws.Externs
import Derived.Shelf.SlSortCmp.NoneTotal
import Derived.Shelf.SlGeneric
import Derived.Ground.SlsfProg
/- What adding answers, of the program's and of the document's. -/
namespace Go.Proofs.YtdjmjhlbjcgoiaaGreatDoor
open Go.RowKit

theorem made_zero (n : Nat) : (madeCells (Value.int .u32 0).cells (n * 1)).toList = (List.replicate n 0).map U := by
  have : (Value.int .u32 0).cells = #[Value.int .u32 0] := rfl
  rw [this, toList_madeCells_one]
  simp [U]

theorem Ow.made {w : World} {base n : Nat} {v : Value} (h : w.ownsRow base 38 1 v n (madeCells (Value.int .u32 0).cells (n * 1)).toList) : Ow w base v (List.replicate n 0) := by
  rw [made_zero] at h
  exact ⟨by intro x hx; have := (List.mem_replicate.1 hx).2; omega, by simpa using h⟩

set_option maxRecDepth 100000 in
set_option maxHeartbeats 800000 in
theorem sum_leY (v u : Value) (xs ys : List Nat) (w : World) (h : Sl w v xs) (h' : Sl w u ys) (hle : ys.length ≤ xs.length) (h64 : xs.length ≤ 64) :
    Calls Tryz.prog 125 #[v, u] w fun e w' => ∃ v' zs, e = .returned v' ∧ Ow w' w.heap.size v' zs ∧ val zs = val xs + val ys ∧ Below w.heap.size w w' := by
  obtain ⟨ao, cap, rfl, hao, hca, hcl⟩ := h.flat
  obtain ⟨bo, cap', rfl, hbo, hcb, hcl'⟩ := h'.flat
  unfold maxLen at hca hcb
  obtain ⟨i0, hi, hz0, hz1, hz2⟩ := info_parts info_u32
  have HS : Hid (Sl w (.slice ao xs.length cap) xs) := h
  have HS' : Hid (Sl w (.slice bo ys.length cap') ys) := h'
  clear h h' hcl hcl'
  go_enter Tryz.func125, Tryz.ntmps125
  go_wp2_with (first
    | (at_make; refine wpList_make_full _ rfl _ _ 35 rfl w.heap.size 38 i0 (.int .u32 0) 1 under_rowY hi hz0 hz1 .i64 .i64 _ _ (xs.length + 1) rfl rfl (by omega) (by omega) (by rw [hz2]; omega) (by unfold maxLen; omega) (Nat.le_refl _) ?_; intro w0 hown0 hgrow0))
  have hb0 : Below w.heap.size w w0 := (Below.refl _ _).grown hgrow0 (Nat.le_refl _) (by intro k hk; cases hk)
  obtain ⟨w1, hrun, ho1, hg1⟩ := run_copy_own (Ow.made hown0) (by simp) (HS.out.later hb0) (by omega)
  have hb1 : Below w.heap.size w w1 := hb0.grown hg1 hb0.size (by intro k hk; simp at hk; omega)
  have HO : Hid (Ow w1 w.heap.size (.slice (some ⟨w.heap.size, 0, none⟩) (xs.length + 1) (xs.length + 1)) (xs ++ [0])) := by
    have := ho1
    rw [List.drop_replicate, show xs.length + 1 - xs.length = 1 by omega] at this
    exact this
  clear hown0 hgrow0 ho1 hg1 hb0
  rw [hrun]
  go_wp2
  clear hrun
  go_loopw [6, 24] (fun c i wr => ∃ (k C : Nat) (Z : List Nat), k ≤ xs.length ∧ i = .int .i64 k ∧ c = .int .u64 C ∧ C ≤ 1 ∧ Z.length = k ∧ val Z + 4294967296 ^ k * C = val (xs.take k) + val (ys.take k) ∧
      Ow wr w.heap.size (.slice (some ⟨w.heap.size, 0, none⟩) (xs.length + 1) (xs.length + 1)) (Z ++ (xs.drop k ++ [0])) ∧ Below w.heap.size w wr) (fun _ i _ => xs.length - (intOf i).toNat)
  case atStart => exact ⟨0, 0, [], Nat.zero_le _, rfl, rfl, by omega, rfl, by simp [val], by simpa using HO.out, hb1⟩
  case round =>
    obtain ⟨k, C, Z, hk, rfl, rfl, hC, hZ, hval, hown, hbl⟩ := hrel
    have HV : Hid (val Z + 4294967296 ^ k * C = val (xs.take k) + val (ys.take k)) := hval
    have HZ : Hid (Z.length = k) := hZ
    have HW : Hid (Ow wr w.heap.size (.slice (some ⟨w.heap.size, 0, none⟩) (xs.length + 1) (xs.length + 1)) (Z ++ (xs.drop k ++ [0]))) := hown
    clear hval hZ hown HO hb1
    by_cases hlt : k < xs.length
    · obtain ⟨x, hx⟩ := exists_get hlt
      have hx32 : x < 4294967296 := HS.out.1.get hx
      have hd : xs.drop k = x :: xs.drop (k + 1) := drop_cons? hx
      have hw := HW.out
      rw [hd] at hw
      obtain ⟨hcell, hfr⟩ := hw.at (k := k) (get_mid HZ.out)
      have HX : Hid (xs.take (k + 1) = xs.take k ++ [x]) := take_snoc? hx
      have HW2 : Hid (Ow wr w.heap.size (.slice (some ⟨w.heap.size, 0, none⟩) (xs.length + 1) (xs.length + 1)) (Z ++ x :: (xs.drop (k + 1) ++ [0]))) := hw
      clear hw hd hx HW
      have HLX : Hid ((xs.take k).length = k) := by show _ = _; simp; omega
      by_cases hlt' : k < ys.length
      · obtain ⟨g, off, y, rfl, hy1, hy2, hy3⟩ := ((HS'.out.later hbl).flat').2 k hlt'
        have HY : Hid (ys.take (k + 1) = ys.take k ++ [y]) := take_snoc? hy1
        have HLY : Hid ((ys.take k).length = k) := by show _ = _; simp; omega
        have hp := HW2.out.put hbl (Nat.le_refl _) (by simp [HZ.out]; omega) (k := k) (z := (C + x + y) % 4294967296) (V := ((C : Int) + x + y) % 4294967296) (by omega) (by omega) (ys := Z ++ [(C + x + y) % 4294967296] ++ (xs.drop (k + 1) ++ [0])) (by rw [set_mid _ _ _ _ _ HZ.out]; simp)
        have HP : Hid (Ow (wr.setCell ⟨w.heap.size, k, none⟩ (.int .u32 (((C : Int) + x + y) % 4294967296))) w.heap.size (.slice (some ⟨w.heap.size, 0, none⟩) (xs.length + 1) (xs.length + 1)) (Z ++ [(C + x + y) % 4294967296] ++ (xs.drop (k + 1) ++ [0])) ∧ Below w.heap.size w (wr.setCell ⟨w.heap.size, k, none⟩ (.int .u32 (((C : Int) + x + y) % 4294967296)))) := hp
        clear hp hy1
        go_wp2
        go_roundw
        case rel =>
          refine ⟨k + 1, (C + x + y) / 4294967296, Z ++ [(C + x + y) % 4294967296], by omega, by go_num, by go_num, by omega, by simp [HZ.out], ?_, HP.out.1, HP.out.2⟩
          rw [HX.out, HY.out, val_snoc (xs.take k), val_snoc (ys.take k), HLX.out, HLY.out]
          exact add_step HZ.out HV.out
        case measure => simp [intOf]; omega
      · have HY : Hid (ys.take (k + 1) = ys.take k) := by show _ = _; rw [List.take_of_length_le (by omega), List.take_of_length_le (by omega)]
        have hp := HW2.out.put hbl (Nat.le_refl _) (by simp [HZ.out]; omega) (k := k) (z := (C + x + 0) % 4294967296) (V := ((C : Int) + x) % 4294967296) (by omega) (by omega) (ys := Z ++ [(C + x + 0) % 4294967296] ++ (xs.drop (k + 1) ++ [0])) (by rw [set_mid _ _ _ _ _ HZ.out]; simp)
        have HP : Hid (Ow (wr.setCell ⟨w.heap.size, k, none⟩ (.int .u32 (((C : Int) + x) % 4294967296))) w.heap.size (.slice (some ⟨w.heap.size, 0, none⟩) (xs.length + 1) (xs.length + 1)) (Z ++ [(C + x + 0) % 4294967296] ++ (xs.drop (k + 1) ++ [0])) ∧ Below w.heap.size w (wr.setCell ⟨w.heap.size, k, none⟩ (.int .u32 (((C : Int) + x) % 4294967296)))) := hp
        clear hp
        go_wp2
        go_roundw
        case rel =>
          refine ⟨k + 1, (C + x + 0) / 4294967296, Z ++ [(C + x + 0) % 4294967296], by omega, by go_num, by go_num, by omega, by simp [HZ.out], ?_, HP.out.1, HP.out.2⟩
          have := add_step (x := x) (y := 0) HZ.out HV.out
          rw [HX.out, HY.out, val_snoc (xs.take k), HLX.out]
          simpa using this
        case measure => simp [intOf]; omega
    · have hk' : k = xs.length := by omega
      have hw := HW.out
      rw [List.drop_of_length_le (by omega), List.nil_append] at hw
      obtain ⟨hcell, hfr⟩ := hw.at (k := k) (get_mid HZ.out)
      have hp := hw.put hbl (Nat.le_refl _) (by simp [HZ.out]; omega) (k := k) (z := C) (V := (C : Int)) rfl (by omega) (ys := Z ++ [C]) (set_mid _ _ _ _ _ HZ.out)
      subst hk'
      have HP : Hid (Ow (wr.setCell ⟨w.heap.size, xs.length, none⟩ (.int .u32 (C : Int))) w.heap.size (.slice (some ⟨w.heap.size, 0, none⟩) (xs.length + 1) (xs.length + 1)) (Z ++ [C]) ∧ Below w.heap.size w (wr.setCell ⟨w.heap.size, xs.length, none⟩ (.int .u32 (C : Int)))) := hp
      clear hp hw HW
      go_wp2
      go_ret
      refine ⟨_, Z ++ [C], rfl, HP.out.1, ?_, HP.out.2⟩
      have := HV.out
      rw [List.take_length, List.take_of_length_le hle] at this
      rw [val_snoc, HZ.out]; exact this

set_option maxRecDepth 100000 in
set_option maxHeartbeats 800000 in
theorem sum_ltY (v u : Value) (xs ys : List Nat) (w : World) (h : Sl w v xs) (h' : Sl w u ys) (hle : ys.length < xs.length) (h64 : xs.length ≤ 64) :
    Calls Tryz.prog 125 #[u, v] w fun e w' => ∃ v' zs, e = .returned v' ∧ Ow w' w.heap.size v' zs ∧ val zs = val xs + val ys ∧ Below w.heap.size w w' := by
  obtain ⟨ao, cap, rfl, hao, hca, hcl⟩ := h.flat
  obtain ⟨bo, cap', rfl, hbo, hcb, hcl'⟩ := h'.flat
  unfold maxLen at hca hcb
  obtain ⟨i0, hi, hz0, hz1, hz2⟩ := info_parts info_u32
  have HS : Hid (Sl w (.slice ao xs.length cap) xs) := h
  have HS' : Hid (Sl w (.slice bo ys.length cap') ys) := h'
  clear h h' hcl hcl'
  go_enter Tryz.func125, Tryz.ntmps125
  go_wp2_with (first
    | (at_make; refine wpList_make_full _ rfl _ _ 35 rfl w.heap.size 38 i0 (.int .u32 0) 1 under_rowY hi hz0 hz1 .i64 .i64 _ _ (xs.length + 1) rfl rfl (by omega) (by omega) (by rw [hz2]; omega) (by unfold maxLen; omega) (Nat.le_refl _) ?_; intro w0 hown0 hgrow0))
  have hb0 : Below w.heap.size w w0 := (Below.refl _ _).grown hgrow0 (Nat.le_refl _) (by intro k hk; cases hk)
  obtain ⟨w1, hrun, ho1, hg1⟩ := run_copy_own (Ow.made hown0) (by simp) (HS.out.later hb0) (by omega)
  have hb1 : Below w.heap.size w w1 := hb0.grown hg1 hb0.size (by intro k hk; simp at hk; omega)
  have HO : Hid (Ow w1 w.heap.size (.slice (some ⟨w.heap.size, 0, none⟩) (xs.length + 1) (xs.length + 1)) (xs ++ [0])) := by
    have := ho1
    rw [List.drop_replicate, show xs.length + 1 - xs.length = 1 by omega] at this
    exact this
  clear hown0 hgrow0 ho1 hg1 hb0
  rw [hrun]
  go_wp2
  clear hrun
  go_loopw [6, 24] (fun c i wr => ∃ (k C : Nat) (Z : List Nat), k ≤ xs.length ∧ i = .int .i64 k ∧ c = .int .u64 C ∧ C ≤ 1 ∧ Z.length = k ∧ val Z + 4294967296 ^ k * C = val (xs.take k) + val (ys.take k) ∧
      Ow wr w.heap.size (.slice (some ⟨w.heap.size, 0, none⟩) (xs.length + 1) (xs.length + 1)) (Z ++ (xs.drop k ++ [0])) ∧ Below w.heap.size w wr) (fun _ i _ => xs.length - (intOf i).toNat)
  case atStart => exact ⟨0, 0, [], Nat.zero_le _, rfl, rfl, by omega, rfl, by simp [val], by simpa using HO.out, hb1⟩
  case round =>
    obtain ⟨k, C, Z, hk, rfl, rfl, hC, hZ, hval, hown, hbl⟩ := hrel
    have HV : Hid (val Z + 4294967296 ^ k * C = val (xs.take k) + val (ys.take k)) := hval
    have HZ : Hid (Z.length = k) := hZ
    have HW : Hid (Ow wr w.heap.size (.slice (some ⟨w.heap.size, 0, none⟩) (xs.length + 1) (xs.length + 1)) (Z ++ (xs.drop k ++ [0]))) := hown
    clear hval hZ hown HO hb1
    by_cases hlt : k < xs.length
    · obtain ⟨x, hx⟩ := exists_get hlt
      have hx32 : x < 4294967296 := HS.out.1.get hx
      have hd : xs.drop k = x :: xs.drop (k + 1) := drop_cons? hx
      have hw := HW.out
      rw [hd] at hw
      obtain ⟨hcell, hfr⟩ := hw.at (k := k) (get_mid HZ.out)
      have HX : Hid (xs.take (k + 1) = xs.take k ++ [x]) := take_snoc? hx
      have HW2 : Hid (Ow wr w.heap.size (.slice (some ⟨w.heap.size, 0, none⟩) (xs.length + 1) (xs.length + 1)) (Z ++ x :: (xs.drop (k + 1) ++ [0]))) := hw
      clear hw hd hx HW
      have HLX : Hid ((xs.take k).length = k) := by show _ = _; simp; omega
      by_cases hlt' : k < ys.length
      · obtain ⟨g, off, y, rfl, hy1, hy2, hy3⟩ := ((HS'.out.later hbl).flat').2 k hlt'
        have HY : Hid (ys.take (k + 1) = ys.take k ++ [y]) := take_snoc? hy1
        have HLY : Hid ((ys.take k).length = k) := by show _ = _; simp; omega
        have hp := HW2.out.put hbl (Nat.le_refl _) (by simp [HZ.out]; omega) (k := k) (z := (C + x + y) % 4294967296) (V := ((C : Int) + x + y) % 4294967296) (by omega) (by omega) (ys := Z ++ [(C + x + y) % 4294967296] ++ (xs.drop (k + 1) ++ [0])) (by rw [set_mid _ _ _ _ _ HZ.out]; simp)
        have HP : Hid (Ow (wr.setCell ⟨w.heap.size, k, none⟩ (.int .u32 (((C : Int) + x + y) % 4294967296))) w.heap.size (.slice (some ⟨w.heap.size, 0, none⟩) (xs.length + 1) (xs.length + 1)) (Z ++ [(C + x + y) % 4294967296] ++ (xs.drop (k + 1) ++ [0])) ∧ Below w.heap.size w (wr.setCell ⟨w.heap.size, k, none⟩ (.int .u32 (((C : Int) + x + y) % 4294967296)))) := hp
        clear hp hy1
        go_wp2
        go_roundw
        case rel =>
          refine ⟨k + 1, (C + x + y) / 4294967296, Z ++ [(C + x + y) % 4294967296], by omega, by go_num, by go_num, by omega, by simp [HZ.out], ?_, HP.out.1, HP.out.2⟩
          rw [HX.out, HY.out, val_snoc (xs.take k), val_snoc (ys.take k), HLX.out, HLY.out]
          exact add_step HZ.out HV.out
        case measure => simp [intOf]; omega
      · have HY : Hid (ys.take (k + 1) = ys.take k) := by show _ = _; rw [List.take_of_length_le (by omega), List.take_of_length_le (by omega)]
        have hp := HW2.out.put hbl (Nat.le_refl _) (by simp [HZ.out]; omega) (k := k) (z := (C + x + 0) % 4294967296) (V := ((C : Int) + x) % 4294967296) (by omega) (by omega) (ys := Z ++ [(C + x + 0) % 4294967296] ++ (xs.drop (k + 1) ++ [0])) (by rw [set_mid _ _ _ _ _ HZ.out]; simp)
        have HP : Hid (Ow (wr.setCell ⟨w.heap.size, k, none⟩ (.int .u32 (((C : Int) + x) % 4294967296))) w.heap.size (.slice (some ⟨w.heap.size, 0, none⟩) (xs.length + 1) (xs.length + 1)) (Z ++ [(C + x + 0) % 4294967296] ++ (xs.drop (k + 1) ++ [0])) ∧ Below w.heap.size w (wr.setCell ⟨w.heap.size, k, none⟩ (.int .u32 (((C : Int) + x) % 4294967296)))) := hp
        clear hp
        go_wp2
        go_roundw
        case rel =>
          refine ⟨k + 1, (C + x + 0) / 4294967296, Z ++ [(C + x + 0) % 4294967296], by omega, by go_num, by go_num, by omega, by simp [HZ.out], ?_, HP.out.1, HP.out.2⟩
          have := add_step (x := x) (y := 0) HZ.out HV.out
          rw [HX.out, HY.out, val_snoc (xs.take k), HLX.out]
          simpa using this
        case measure => simp [intOf]; omega
    · have hk' : k = xs.length := by omega
      have hw := HW.out
      rw [List.drop_of_length_le (by omega), List.nil_append] at hw
      obtain ⟨hcell, hfr⟩ := hw.at (k := k) (get_mid HZ.out)
      have hp := hw.put hbl (Nat.le_refl _) (by simp [HZ.out]; omega) (k := k) (z := C) (V := (C : Int)) rfl (by omega) (ys := Z ++ [C]) (set_mid _ _ _ _ _ HZ.out)
      subst hk'
      have HP : Hid (Ow (wr.setCell ⟨w.heap.size, xs.length, none⟩ (.int .u32 (C : Int))) w.heap.size (.slice (some ⟨w.heap.size, 0, none⟩) (xs.length + 1) (xs.length + 1)) (Z ++ [C]) ∧ Below w.heap.size w (wr.setCell ⟨w.heap.size, xs.length, none⟩ (.int .u32 (C : Int)))) := hp
      clear hp hw HW
      go_wp2
      go_ret
      refine ⟨_, Z ++ [C], rfl, HP.out.1, ?_, HP.out.2⟩
      have := HV.out
      rw [List.take_length, List.take_of_length_le (Nat.le_of_lt hle)] at this
      rw [val_snoc, HZ.out]; exact this

theorem sum_anyY (v u : Value) (xs ys : List Nat) (w : World) (h : Sl w v xs) (h' : Sl w u ys) (h64 : xs.length ≤ 64) (h64' : ys.length ≤ 64) :
    Calls Tryz.prog 125 #[v, u] w fun e w' => ∃ v' zs, e = .returned v' ∧ Ow w' w.heap.size v' zs ∧ val zs = val xs + val ys ∧ Below w.heap.size w w' := by
  by_cases hle : ys.length ≤ xs.length
  · exact sum_leY v u xs ys w h h' hle h64
  · refine (sum_ltY u v ys xs w h' h (by omega) h64').mono ?_
    rintro e w' ⟨v', zs, he, ho, hv, hb⟩
    exact ⟨v', zs, he, ho, by omega, hb⟩

set_option maxHeartbeats 400000 in
theorem add_any (v u : Value) (xs ys : List Nat) (w : World) (h : Sl w v xs) (h' : Sl w u ys) :
    Calls Tryz.prog 71 #[v, u] w fun e w' => ∃ v', e = .returned (.tuple #[v', .int .i64 (addE xs ys)]) ∧ Ow w' w.heap.size v' (addL xs ys) ∧ Below w.heap.size w w' := by
  go_enter Tryz.func71, Tryz.ntmps71
  go_wp2_with fail
  refine (right_any v xs _ h).mono ?_
  rintro e w1 ⟨rfl, rfl⟩
  cases hr : rightB xs
  · go_wp2
    go_ret2
    exact ⟨_, ret2i (by simp [addE, hr]), by simp [addL, hr]; exact Ow.nil _ _, Below.refl _ _⟩
  go_wp2_with fail
  refine (right_any u ys _ h').mono ?_
  rintro e w1 ⟨rfl, rfl⟩
  cases hr' : rightB ys
  · go_wp2
    go_ret2
    exact ⟨_, ret2i (by simp [addE, hr']), by simp [addL, hr']; exact Ow.nil _ _, Below.refl _ _⟩
  go_wp2_with fail
  refine (sum_anyY v u xs ys _ h h' (length_le_of_right hr) (length_le_of_right hr')).mono ?_
  rintro e w2 ⟨v2, zs, rfl, ho, hv, hb⟩
  have HV : Hid (val zs = val xs + val ys) := hv
  clear hv
  go_wp2_with fail
  refine (inBounds_any v2 zs _ _ ho).mono ?_
  rintro e w3 ⟨v3, rfl, ho3, rfl⟩
  rw [HV.out] at ho3 ⊢
  go_wp2
  go_ret2
  exact ⟨_, ret2i (by simp [addE, hr, hr']), by simp only [addL, hr, hr', Bool.and_self, if_true]; exact ho3, hb⟩

end Go.Proofs.YtdjmjhlbjcgoiaaGreatDoor

/- Rows of numbers that a call owns. -/
namespace Go.Proofs.YtdjmjhlbjcgoiaaGreatDoor
open Go.RowKit

theorem Ow.held {w w' : World} {base : Nat} {v : Value} {xs : List Nat} {row : Option Nat} (h : Ow w base v xs) (hg : w.grownBy w' row) (hne : v.ownBlock = none ∨ v.ownBlock ≠ row) : Ow w' base v xs := ⟨h.1, h.2.kept hg hne⟩

theorem Ow.since {w w' : World} {base : Nat} {v : Value} {xs : List Nat} (h : Ow w base v xs) (hb : Below w.heap.size w w') : Ow w' base v xs :=
  h.held (row := none) ⟨hb.os, hb.tape, hb.output, hb.size, fun k hk _ => hb.block k hk⟩ (by cases hv : v.ownBlock <;> simp)

theorem Ow.slice {w : World} {base : Nat} {v : Value} {xs : List Nat} (h : Ow w base v xs) : ∃ ao n cap, v = .slice ao n cap := by
  rcases h.2.2 with ⟨rfl, hn⟩ | ⟨g, cap, cur, rfl, _⟩
  · exact ⟨_, _, _, rfl⟩
  · exact ⟨_, _, _, rfl⟩

/-- The slice value v is the call's own and holds the monomials p, whose rows are the call's own too. -/
def OM (w : World) (base : Nat) (v : Value) (p : List Mn) : Prop :=
  ∃ cs : List (Value × Value), cs.length = p.length ∧ (∀ (i : Nat) (c : Value × Value) (m : Mn), cs[i]? = some c → p[i]? = some m → Ow w base c.1 m.1 ∧ OwI w base c.2 m.2) ∧
    w.ownsRow base 37 2 v p.length (cs.flatMap fun c => [c.1, c.2])

theorem flat2_get {cs : List (Value × Value)} : ∀ {i : Nat} {c : Value × Value}, cs[i]? = some c → (cs.flatMap fun c => [c.1, c.2])[i * 2]? = some c.1 ∧ (cs.flatMap fun c => [c.1, c.2])[i * 2 + 1]? = some c.2 := by
  induction cs with
  | nil => intro i c h; simp at h
  | cons a r ih =>
    intro i c h
    cases i with
    | zero => simp at h; subst h; simp
    | succ i =>
      rw [List.getElem?_cons_succ] at h
      obtain ⟨h1, h2⟩ := ih h
      rw [List.flatMap_cons]
      refine ⟨?_, ?_⟩
      · rw [show (i + 1) * 2 = i * 2 + 1 + 1 by omega]; simpa using h1
      · rw [show (i + 1) * 2 + 1 = i * 2 + 1 + 1 + 1 by omega]; simpa using h2

theorem OM.ms {w : World} {base : Nat} {v : Value} {p : List Mn} (h : OM w base v p) : Ms w v p := by
  obtain ⟨cs, hl, hc, ho⟩ := h
  have ho2 := ho
  rcases ho2.2 with ⟨rfl, hn⟩ | ⟨g, cap, cur, rfl, hb, hg, hcap, hm, hs, ht⟩
  · exact ⟨none, 0, by rw [hn], by omega, by simp [maxLen], by omega⟩
  · refine ⟨_, cap, rfl, hcap, hm, fun _ => ⟨g, 0, rfl, (Array.getElem?_eq_some_iff.1 hg).1, ?_⟩⟩
    intro k m hk
    have hlt : k < p.length := (List.getElem?_eq_some_iff.1 hk).1
    have hck : cs[k]? = some cs[k] := List.getElem?_eq_getElem (by omega)
    obtain ⟨h1, h2⟩ := flat2_get hck
    obtain ⟨o1, o2⟩ := hc k _ m hck hk
    refine ⟨cs[k].1, cs[k].2, ?_, ?_, o1.sl, o2.is⟩
    · rw [Nat.zero_add, World.ownsRow.cellAt ho2 (k * 2) (by omega)]
      have := (List.getElem?_eq_some_iff.1 h1)
      obtain ⟨ha, hb'⟩ := this
      simp [← hb']
    · rw [Nat.zero_add, World.ownsRow.cellAt ho2 (k * 2 + 1) (by omega)]
      have := (List.getElem?_eq_some_iff.1 h2)
      obtain ⟨ha, hb'⟩ := this
      simp [← hb']

theorem OM.nil (w : World) (base : Nat) : OM w base (.slice none 0 0) [] := ⟨[], rfl, fun i c m h => (by simp at h), World.ownsRow_nil _ _ _ _⟩

theorem OM.slice {w : World} {base : Nat} {v : Value} {p : List Mn} (h : OM w base v p) : ∃ ao cap, v = .slice ao p.length cap := by
  obtain ⟨cs, hl, hc, ho⟩ := h
  rcases ho.2 with ⟨rfl, hn⟩ | ⟨g, cap, cur, rfl, _⟩
  · exact ⟨_, 0, by rw [hn]⟩
  · exact ⟨_, cap, rfl⟩

theorem OM.later {w w' : World} {base : Nat} {v : Value} {p : List Mn} (h : OM w base v p) (hb : Below w.heap.size w w') : OM w' base v p := by
  obtain ⟨cs, hl, hc, ho⟩ := h
  refine ⟨cs, hl, fun i c m h1 h2 => ⟨(hc i c m h1 h2).1.since hb, (hc i c m h1 h2).2.later hb⟩, ?_⟩
  exact World.ownsRow.kept (row := none) ho ⟨hb.os, hb.tape, hb.output, hb.size, fun k hk _ => hb.block k hk⟩ (by cases hv : v.ownBlock <;> simp)

theorem info_mono : (Tryz.prog.info? 37).map (fun i => (i.zero, i.size, i.bytes)) = some (some (.agg #[.slice none 0 0, .slice none 0 0]), 2, 48) := by kernel_rfl

theorem under_monos : Tryz.prog.underlying 31 = some (.slice 37) := by kernel_rfl

end Go.Proofs.YtdjmjhlbjcgoiaaGreatDoor

/- The map of like monomials in memory; what put answers. -/
namespace Go.Proofs.YtdjmjhlbjcgoiaaGreatDoor
open Go.RowKit Go.Maps

theorem rowKey : (160 : TypeId) < Tryz.prog.types.size := of_decide_eq_true (by kernel_rfl)

theorem wideKey : (match Tryz.prog.underlying 160 with | some (.array _ _) | some (.struct _) => true | _ => false) = true := by rw [under_arr]

set_option maxRecDepth 100000 in
theorem keyLaw : WideMaps.KeyLaw Tryz.prog 160 := deep_law_laid laidOut (m := 2) (by omega) rowKey (by kernel_rfl) wideKey

theorem keyed : Keyed Tryz.prog 160 := Keyed.of_law keyLaw

theorem under_map : Tryz.prog.underlying 109 = some (.map 160 171) := by kernel_rfl

theorem zeroCoef (w : World) : (zeroValue 171).run Tryz.prog w = .ok (.agg #[.slice none 0 0]) w := by kernel_rfl

/-- Whether a row of bytes is a key. -/
def WfK (ks : List Nat) : Prop := ks.length = 512 ∧ ∀ (j x : Nat), ks[j]? = some x → x < 256

theorem mapM_some {α β : Type} (f : α → Option β) (g : α → β) : ∀ l : List α, (∀ x ∈ l, f x = some (g x)) → l.mapM f = some (l.map g)
  | [], _ => by simp
  | a :: l, h => by
    rw [List.mapM_cons, h a (by simp), mapM_some f g l (fun x hx => h x (by simp [hx]))]
    rfl

/-- What a key reads as. -/
def kl (ks : List Nat) : Lit := .string (keyBytes (((List.range 512).map fun i => [Lit.int .u8 ((ks[i]?.getD 0 : Nat) : Int)]).flatten))

theorem keyOf_arr {ks : List Nat} (h : WfK ks) : keyOf Tryz.prog 160 (.agg (arr ks)) = some (kl ks) := by
  have h1 : Tryz.prog.keyType 160 = true := by kernel_rfl
  have h2 : Tryz.prog.cellsOf 160 = 512 := by kernel_rfl
  have h3 : Tryz.prog.cellsOf 5 = 1 := by kernel_rfl
  have h4 : Tryz.prog.underlying 5 = some (.int .u8) := by kernel_rfl
  have h5 : ∃ d, Tryz.prog.types.size + 1 = d + 1 + 1 := ⟨Tryz.prog.types.size - 1, by have : 1 ≤ Tryz.prog.types.size := of_decide_eq_true (by kernel_rfl); omega⟩
  have hf : (Value.agg (arr ks)).formed Tryz.prog 160 = true := by
    simp only [Value.formed, under_arr, h2, arr_size, h.1]; rfl
  unfold keyOf
  simp only [under_arr, h1, hf, Bool.and_self, if_true]
  obtain ⟨d, hd⟩ := h5
  rw [hd]
  have hk : Tryz.prog.keyLits (d + 1 + 1) 160 (Value.agg (arr ks)).cells.toList = some (((List.range 512).map fun i => [Lit.int .u8 ((ks[i]?.getD 0 : Nat) : Int)]).flatten) := by
    unfold Program.keyLits
    simp only [under_arr, h2, h3]
    have hl : (Value.agg (arr ks)).cells.toList.length = 512 := by simp [Value.cells, arr, h.1]
    rw [if_pos hl, mapM_some _ (fun i => [Lit.int .u8 ((ks[i]?.getD 0 : Nat) : Int)])]
    · rfl
    · intro i hi
      have hi5 : i < 512 := List.mem_range.1 hi
      obtain ⟨x, hx⟩ : ∃ x, ks[i]? = some x := exists_get (by have := h.1; omega)
      have hx8 := h.2 i x hx
      have hc : (((Value.agg (arr ks)).cells.toList.drop (i * 1)).take 1) = [.int .u8 (x : Int)] := by
        simp only [Value.cells, arr, Nat.mul_one]
        have : (ks.map fun (x : Nat) => Value.int .u8 (x : Int))[i]? = some (.int .u8 (x : Int)) := by rw [List.getElem?_map, hx]; rfl
        rw [drop_getY this]; rfl
      rw [hc]
      unfold Program.keyLits
      simp only [h4]
      have hwf : (Lit.int .u8 (x : Int)).wf = true := by
        have e0 : IntKind.u8.min = 0 := by decide
        have e1 : IntKind.u8.max = 255 := by decide
        simp [Lit.wf, e0, e1]; omega
      rw [if_pos ⟨trivial, hwf⟩, hx]
      rfl
  rw [hk]
  rfl

/-- An element of the map, read as the value that it is. -/
def RVY (v : Value) : Option (DataW Value × List MemPlace) := some (.held v, [])

theorem kl_inj {a b : List Nat} (ha : WfK a) (hb : WfK b) (h : kl a = kl b) : a = b := by
  have h1 := keyOf_arr ha
  rw [h] at h1
  have := keyed.inj h1 (keyOf_arr hb)
  simp only [Value.agg.injEq, arr] at this
  have h2 : (a.map fun (x : Nat) => Value.int .u8 (x : Int)) = b.map fun (x : Nat) => Value.int .u8 (x : Int) := by simpa using this
  apply List.ext_getElem?
  intro i
  have h3 := congrArg (fun l => l[i]?) h2
  simp only [List.getElem?_map] at h3
  cases hai : a[i]? <;> cases hbi : b[i]? <;> simp_all
  omega

/-- Block b of w is the map L; its limbs are the call's own, from base on. -/
structure MapOk (w : World) (base b : Nat) (L : LkY) : Prop where
  rising : Rising L
  keys : ∀ p ∈ L, WfK p.1
  own : ∃ D : DataW Value, w.ownsMap Tryz.prog 160 RVY b L.length D ∧ Maps.size D = L.length ∧
    (∀ k c, (k, c) ∈ L → ∃ v, (∀ z, D.atKey (kl k) z = .held (.agg #[v])) ∧ Ow w base v c ∧ Maps.has D (kl k) = true) ∧
    (∀ l, Maps.has D l = true → ∃ k c, (k, c) ∈ L ∧ l = kl k)

theorem ow_notMap {w : World} {base b : Nat} {v : Value} {c : List Nat} {es : Array MapEntry} {clock : Nat} (h : Ow w base v c) (hb : w.heap[b]? = some (.map es clock)) : v.ownBlock = none ∨ v.ownBlock ≠ some b := by
  rcases h.2.2 with ⟨rfl, _⟩ | ⟨g, cap, cur, rfl, _, hg, _⟩
  · exact .inl rfl
  · refine .inr ?_
    simp only [Value.ownBlock]
    intro e
    cases e
    rw [hg] at hb
    cases hb

theorem MapOk.isMap {w : World} {base b : Nat} {L : LkY} (h : MapOk w base b L) : ∃ es clock, w.heap[b]? = some (.map es clock) := by
  obtain ⟨D, hD, _⟩ := h.own
  obtain ⟨es, clock, hb, _⟩ := hD
  exact ⟨es, clock, hb⟩

theorem MapOk.lt {w : World} {base b : Nat} {L : LkY} (h : MapOk w base b L) : b < w.heap.size := by
  obtain ⟨es, clock, hb⟩ := h.isMap
  exact (Array.getElem?_eq_some_iff.1 hb).1

theorem MapOk.later {w w' : World} {base b : Nat} {L : LkY} (h : MapOk w base b L) (hb : Below w.heap.size w w') : MapOk w' base b L := by
  obtain ⟨D, h1, h2, h3, h4⟩ := h.own
  refine ⟨h.rising, h.keys, D, h1.kept (row := none) ⟨hb.os, hb.tape, hb.output, hb.size, fun k hk _ => hb.block k hk⟩ (by simp), h2, fun k c hk => ?_, h4⟩
  obtain ⟨v, a, o, d⟩ := h3 k c hk
  exact ⟨v, a, o.since hb, d⟩

theorem MapOk.made (w : World) (base : Nat) : MapOk (w.alloc (.map #[] 0)) base w.heap.size [] :=
  ⟨List.Pairwise.nil, fun p hp => (by cases hp), ⟨DataW.map [], World.ownsMap_made w _ _ _, rfl, fun k c hk => (by cases hk), fun l hl => (by simp [Maps.has] at hl)⟩⟩

/-- What a look-up gives. -/
theorem MapOk.look {w : World} {base b : Nat} {L : LkY} (h : MapOk w base b L) {k : List Nat} (hk : WfK k) :
    ∃ v, (Instr.lookup 109 (.map (some b)) (.agg (arr k)) false).run Tryz.prog w = .ok (.agg #[v]) w ∧ Ow w base v (coefK L k) := by
  obtain ⟨D, h1, h2, h3, h4⟩ := h.own
  obtain ⟨u, ps, hrun, hR⟩ := h1.lookup keyed under_map (zeroCoef w) (zd := .held (.agg #[.slice none 0 0])) (zp := []) rfl (keyOf_arr hk)
  have hu : D.atKey (kl k) (.held (.agg #[.slice none 0 0])) = .held u := by
    simp only [RVY, Option.some.injEq, Prod.mk.injEq] at hR
    exact hR.1.symm
  cases hh : hasK L k with
  | true =>
    obtain ⟨c, hc⟩ := hasK_iff.1 hh
    obtain ⟨v, ha, ho, _⟩ := h3 k c hc
    rw [ha] at hu
    injection hu with hu
    subst hu
    exact ⟨v, hrun, by rw [coefK_mem h.rising hc]; exact ho⟩
  | false =>
    have hf : Maps.has D (kl k) = false := by
      rw [Bool.eq_false_iff]
      intro ht
      obtain ⟨k', c', hc', e⟩ := h4 _ ht
      have := kl_inj hk (h.keys _ hc') e
      subst this
      have := hasK_iff.2 ⟨c', hc'⟩
      rw [hh] at this
      cases this
    rw [atKey_of_not_has hf] at hu
    injection hu with hu
    subst hu
    exact ⟨_, hrun, by rw [coefK_none hh]; exact Ow.nil w base⟩

/-- What a store leaves. -/
theorem MapOk.store {w : World} {base b : Nat} {L : LkY} (h : MapOk w base b L) {k c : List Nat} {v : Value} (hk : WfK k) (hL : L.length < maxLen) (hv : Ow w base v c) :
    ∃ w', (Instr.mapUpdate 109 (.map (some b)) (.agg (arr k)) (.agg #[v])).run Tryz.prog w = .ok () w' ∧ MapOk w' base b (insK L k c) ∧ w.grownBy w' (some b) := by
  obtain ⟨es, clock, hbm⟩ := h.isMap
  obtain ⟨D, h1, h2, h3, h4⟩ := h.own
  obtain ⟨w', hrun, ho, hg⟩ := h1.update keyed under_map hL (keyOf_arr hk) (val := .agg #[v]) (d := .held (.agg #[v])) (ps := []) rfl
  have hT := h1.tidy keyed
  have hK := keyed.key (keyOf_arr hk)
  have hhas : Maps.has D (kl k) = hasK L k := by
    rw [Bool.eq_iff_iff]
    constructor
    · intro ht
      obtain ⟨k', c', hc', e⟩ := h4 _ ht
      have := kl_inj hk (h.keys _ hc') e
      subst this
      exact hasK_iff.2 ⟨c', hc'⟩
    · intro ht
      obtain ⟨c', hc'⟩ := hasK_iff.1 ht
      obtain ⟨_, _, _, hd⟩ := h3 k c' hc'
      exact hd
  have hsz : Maps.size (D.put (kl k) (.held (.agg #[v]))) = (insK L k c).length := by
    rw [size_put hT, length_insK h.rising, hhas, h2]
  obtain ⟨es', clock', hb', F', _, hD'⟩ := ho
  have hes : es'.size = (insK L k c).length := by
    rw [← hsz, hD', Maps.size_eq, length_sorted]
    simp
  refine ⟨w', hrun, ⟨rising_insK h.rising, fun p hp => ?_, ⟨D.put (kl k) (.held (.agg #[v])), ⟨es', clock', hb', F', Nat.le_of_eq hes, hD'⟩, hsz, fun k' c' hm => ?_, fun l hl => ?_⟩⟩, hg⟩
  · rcases (mem_insK h.rising p).1 hp with rfl | ⟨hp, _⟩
    · exact hk
    · exact h.keys p hp
  · rcases (mem_insK h.rising _).1 hm with e | ⟨hm, hne⟩
    · cases e
      exact ⟨v, fun z => atKey_put_same hT.isMap hK _ z, hv.held hg (ow_notMap hv hbm), has_put_same hT.isMap hK _⟩
    · obtain ⟨u, ha, hou, hd⟩ := h3 k' c' hm
      have hne' : kl k' ≠ kl k := fun e => hne (kl_inj (h.keys _ hm) hk e)
      exact ⟨u, fun z => by rw [atKey_put_other hne']; exact ha z, hou.held hg (ow_notMap hou hbm), by rw [has_put_other hne']; exact hd⟩
  · by_cases e : l = kl k
    · exact ⟨k, c, (mem_insK h.rising _).2 (.inl rfl), e⟩
    · rw [has_put_other e] at hl
      obtain ⟨k', c', hc', rfl⟩ := h4 l hl
      exact ⟨k', c', (mem_insK h.rising _).2 (.inr ⟨hc', fun e2 => e (by rw [show k' = k from e2])⟩), rfl⟩

theorem MapOk.len {w : World} {base b : Nat} {L : LkY} (h : MapOk w base b L) (ty : TypeId) : (Builtin.len_ #[109] ty #[.map (some b)]).run Tryz.prog w = .ok (.int .i64 (L.length : Int)) w := by
  obtain ⟨D, h1, h2, _⟩ := h.own
  have := h1.len under_map ty
  rw [h2] at this
  exact this

theorem field_coef (u : Value) (w : World) : (Instr.field 171 (.agg #[u]) 0).run Tryz.prog w = .ok u w := by kernel_rfl

section

variable {P : Program} {w w' : World} {ops : Array Oper} {rest : List Oper} {o : Oper} {a : Act} {Q : Exit → Act → World → Prop}

end

set_option maxRecDepth 100000 in
set_option maxHeartbeats 1600000 in
theorem put_any (b base : Nat) (L : LkY) (k c : List Nat) (v : Value) (w : World) (h : MapOk w base b L) (hk : WfK k) (hc : Sl w v c) (hL : L.length ≤ 256) (hB : base ≤ w.heap.size) :
    Calls Tryz.prog 117 #[.map (some b), .agg (arr k), v] w fun e w' => e = .returned (.int .i64 (putE L k c)) ∧ MapOk w' base b (putL L k c) ∧ w.grownBy w' (some b) := by
  have hb1 := below_alloc (w := w) (.cells (arr k) 160)
  have h1 := h.later hb1
  have hc1 := hc.kp (Kp.of_below hb1)
  obtain ⟨u, hrun, hu⟩ := h1.look hk
  have HG1 : Hid (w.grownBy (w.alloc (.cells (arr k) 160)) (some b)) := grown_of_below hb1 _
  have hl512 := hk.1
  have HK : Hid (WfK k) := hk
  have HRun : Hid ((Instr.lookup 109 (.map (some b)) (.agg (arr k)) false).run Tryz.prog (w.alloc (.cells (arr k) 160)) = .ok (.agg #[u]) (w.alloc (.cells (arr k) 160))) := hrun
  have H1 : Hid (MapOk (w.alloc (.cells (arr k) 160)) base b L) := h1
  have HC1 : Hid (Sl (w.alloc (.cells (arr k) 160)) v c) := hc1
  have HU : Hid (Ow (w.alloc (.cells (arr k) 160)) base u (coefK L k)) := hu
  have hB1 : Hid (base ≤ (w.alloc (.cells (arr k) 160)).heap.size) := Nat.le_trans hB hb1.size
  clear hb1 h1 hc1 hu h hk hc hrun
  have hfield := field_coef u
  go_enter Tryz.func117, Tryz.ntmps117
  go_wp2_with (first
    | (refine wpList_load_row rfl _ _ rfl w.heap.size rfl _ _ _ _ (Ar.new w k) under_arr rfl (by rw [info_arr, arr_size, hl512]) ?_)
    | (at_lookup; refine wpList_lookup_run rfl _ _ _ _ rfl _ _ _ rfl rfl HRun.out ?_))
  refine (add_any u v (coefK L k) c _ HU.out.sl HC1.out).mono ?_
  rintro e w1 ⟨v', rfl, ho, hb⟩
  obtain ⟨ao, n, cap, rfl⟩ := ho.slice
  have HG2 : Hid (w.grownBy w1 (some b)) := grown_trans HG1.out (grown_of_below hb _)
  have HO : Hid (Ow w1 base (.slice ao n cap) (addL (coefK L k) c)) := ho.mono hB1.out
  have H2 : Hid (MapOk w1 base b L) := H1.out.later hb
  have HA : Hid (Ar w1 w.heap.size k) := (Ar.new w k).later hb
  clear ho hb H1 HC1 HU HG1 hB1 HRun
  obtain ⟨E, hE⟩ : ∃ E, E = addE (coefK L k) c := ⟨_, rfl⟩
  have HE : Hid (E = addE (coefK L k) c) := hE
  rw [← hE]
  clear hE
  by_cases hE0 : E = 0
  · subst hE0
    have HE' : Hid (addE (coefK L k) c = 0) := HE.out.symm
    obtain ⟨w2, hrun2, hok2, hg2⟩ := H2.out.store HK.out (by unfold maxLen; omega) HO.out
    have HRun2 : Hid ((Instr.mapUpdate 109 (.map (some b)) (.agg (arr k)) (.agg #[.slice ao n cap])).run Tryz.prog w1 = .ok () w2) := hrun2
    have HG3 : Hid (w.grownBy w2 (some b)) := grown_trans HG2.out hg2
    have HM : Hid (MapOk w2 base b (insK L k (addL (coefK L k) c))) := hok2
    clear hrun2 hok2 hg2
    obtain ⟨N, hN⟩ : ∃ N, N = (insK L k (addL (coefK L k) c)).length := ⟨_, rfl⟩
    have HN : Hid (N = (insK L k (addL (coefK L k) c)).length) := hN
    have HLen : Hid (∀ ty, (Builtin.len_ #[109] ty #[.map (some b)]).run Tryz.prog w2 = .ok (.int .i64 (N : Int)) w2) := by
      intro ty
      rw [hN]
      exact HM.out.len ty
    clear hN
    go_wp2_with (first
      | (refine wpList_load_row rfl _ _ rfl w.heap.size rfl _ _ _ _ HA.out under_arr rfl (by rw [info_arr, arr_size, hl512]) ?_)
      | (at_mapUpdate; refine wpList_mapUpdate_run rfl _ _ _ _ rfl _ _ _ rfl rfl rfl HRun2.out ?_))
    rw [HLen.out]
    have hNm : N ≤ 9223372036854775807 := by
      have := length_insK (k := k) (c := addL (coefK L k) c) H2.out.rising
      rw [← HN.out] at this
      split at this <;> omega
    by_cases hN6 : N ≤ 256
    · go_wp2
      go_ret
      refine ⟨ret1i ?_, ?_, HG3.out⟩
      · unfold putE; rw [if_pos HE'.out, if_pos (by rw [← HN.out]; exact hN6)]
      · unfold putL; rw [if_pos HE'.out]; exact HM.out
    · go_wp2
      go_ret
      refine ⟨ret1i ?_, ?_, HG3.out⟩
      · unfold putE; rw [if_pos HE'.out, if_neg (by rw [← HN.out]; exact hN6)]
      · unfold putL; rw [if_pos HE'.out]; exact HM.out
  · have hb0 : (E != 0) = true := by rw [bne_iff_ne]; exact hE0
    go_wp2
    go_ret
    refine ⟨ret1i ?_, ?_, HG2.out⟩
    · unfold putE; rw [← HE.out, if_neg hE0]
    · unfold putL; rw [← HE.out, if_neg hE0]; exact H2.out

end Go.Proofs.YtdjmjhlbjcgoiaaGreatDoor

/- What the comparison of two keys answers. -/
namespace Go.Proofs.YtdjmjhlbjcgoiaaGreatDoor
open Go.RowKit Go.Maps

def bytesK (ks : List Nat) (acc : ByteArray) : ByteArray := ks.foldl (fun a x => a.push x.toUInt8) acc

theorem bytesK_data (ks : List Nat) : ∀ acc : ByteArray, (bytesK ks acc).data.toList = acc.data.toList ++ ks.map Nat.toUInt8 := by
  induction ks with
  | nil => intro acc; simp [bytesK]
  | cons a r ih =>
    intro acc
    have := ih (acc.push a.toUInt8)
    unfold bytesK at this ⊢
    rw [List.foldl_cons, this]
    simp [ByteArray.push]

theorem run_loadBytes {P : Program} (w : World) (g : Nat) : ∀ (l : List Nat) (o : Nat) (acc : ByteArray), (∀ (j x : Nat), l[j]? = some x → w.cell? ⟨g, o + j, none⟩ = some (.int .u8 (x : Int))) →
    (Extern.Bytes.loadBytes ⟨g, o, none⟩ l.length acc).run P w = .ok (bytesK l acc) w := by
  intro l
  induction l with
  | nil => intro o acc _; rfl
  | cons a r ih =>
    intro o acc h
    have h0 := h 0 a rfl
    rw [Nat.add_zero] at h0
    rw [List.length_cons, Extern.Bytes.loadBytes]
    have hadd : (⟨g, o, none⟩ : Addr).add 1 = ⟨g, o + 1, none⟩ := by unfold Addr.add; simp
    simp only [Sem.run_bind, run_load, h0, Result.andThen_ok, Int.toNat_natCast]
    rw [hadd, ih (o + 1) (acc.push a.toUInt8) (fun j x hj => by have := h (j + 1) x hj; rwa [show o + (j + 1) = o + 1 + j by omega] at this)]
    rfl

theorem toUInt8_lt {a b : Nat} (ha : a < 256) (hb : b < 256) : (a.toUInt8 < b.toUInt8) = (a < b) := by
  rw [UInt8.lt_iff_toNat_lt]
  simp only [Nat.toUInt8, UInt8.toNat_ofNat']
  rw [Nat.mod_eq_of_lt (by omega), Nat.mod_eq_of_lt (by omega)]

theorem compareBytes_eq : ∀ (a b : List Nat), (∀ x ∈ a, x < 256) → (∀ x ∈ b, x < 256) → Lib.compareBytes (a.map Nat.toUInt8) (b.map Nat.toUInt8) = cmpK a b
  | [], [], _, _ => rfl
  | [], _ :: _, _, _ => rfl
  | _ :: _, [], _, _ => rfl
  | x :: r, y :: q, ha, hb => by
    have h1 := toUInt8_lt (ha x (by simp)) (hb y (by simp))
    have h2 := toUInt8_lt (hb y (by simp)) (ha x (by simp))
    have ih := compareBytes_eq r q (fun z hz => ha z (by simp [hz])) (fun z hz => hb z (by simp [hz]))
    simp only [List.map_cons, Lib.compareBytes, cmpK, h1, h2, ih]

theorem WfK.mem {ks : List Nat} (h : WfK ks) : ∀ x ∈ ks, x < 256 := by
  intro x hx
  obtain ⟨j, hj⟩ := List.mem_iff_getElem?.1 hx
  exact h.2 j x hj

theorem run_compare {w : World} {g g' c c' : Nat} {a b : List Nat} (ha : Ar w g a) (hb : Ar w g' b) (hwa : WfK a) (hwb : WfK b) :
    (Extern.BytealgCompare.compare #[.slice (some ⟨g, 0, none⟩) 512 c, .slice (some ⟨g', 0, none⟩) 512 c']).run Tryz.prog w = .ok (.int .i64 (cmpK a b)) w := by
  have h1 := run_loadBytes (P := Tryz.prog) w g a 0 .empty (fun j x hj => by rw [Nat.zero_add]; exact ha.cell hj)
  have h2 := run_loadBytes (P := Tryz.prog) w g' b 0 .empty (fun j x hj => by rw [Nat.zero_add]; exact hb.cell hj)
  rw [hwa.1] at h1
  rw [hwb.1] at h2
  change Sem.run Tryz.prog (do pure (goInt (Extern.BytealgCompare.cmp (← Extern.Bytes.bytesOf (.slice (some ⟨g, 0, none⟩) 512 c)) (← Extern.Bytes.bytesOf (.slice (some ⟨g', 0, none⟩) 512 c'))))) w = _
  simp only [Extern.Bytes.bytesOf, Sem.run_bind, Sem.run_pure, h1, h2, Result.andThen_ok]
  rw [Lib.cmp_eq, bytesK_data, bytesK_data]
  have e0 : ByteArray.empty.data.toList = [] := rfl
  rw [e0, List.nil_append, List.nil_append, compareBytes_eq a b hwa.mem hwb.mem]
  rfl

set_option maxRecDepth 100000 in
theorem bytesCompare_any {w : World} {g g' c c' : Nat} {a b : List Nat} (ha : Ar w g a) (hb : Ar w g' b) (hwa : WfK a) (hwb : WfK b) :
    Calls Tryz.prog 120 #[.slice (some ⟨g, 0, none⟩) 512 c, .slice (some ⟨g', 0, none⟩) 512 c'] w fun e w' => e = .returned (.int .i64 (cmpK a b)) ∧ w' = w := by
  have hrun := run_compare (c := c) (c' := c') ha hb hwa hwb
  go_enter Tryz.func120, Tryz.ntmps120
  go_wp2
  rw [run_callFunc_extern Tryz.func158 (by kernel_rfl) (by kernel_rfl) (by kernel_rfl) (e := Extern.BytealgCompare.compare) (by kernel_rfl), hrun]
  simp only [Result.andThen]
  rw [Oper.upon_value]
  go_wp2
  go_ret
  exact ⟨rfl, rfl⟩

end Go.Proofs.YtdjmjhlbjcgoiaaGreatDoor

/- Keys, sorted. -/
namespace Go.Proofs
open Go.Shelf Go.RowKit Go.Lib Go.Sort

def Tryz.sortLay_ren : Go.Shelf.Ren := ⟨fun | 6 => 118 | 15 => 156 | 14 => 157 | 28 => 179 | 29 => 180 | 20 => 181 | 21 => 182 | 22 => 183 | 23 => 184 | 24 => 185 | 25 => 186 | 26 => 187 | 27 => 188 | 46 => 198 | 47 => 199 | 48 => 200 | 49 => 201 | 50 => 202 | 57 => 216 | n => n, fun | 22 => 165 | 24 => 160 | 25 => 169 | 3 => 3 | 39 => 204 | 0 => 0 | 53 => 38 | 55 => 207 | 4 => 4 | 46 => 240 | 45 => 239 | 50 => 180 | 5 => 5 | 9 => 9 | 66 => 256 | 70 => 260 | 76 => 267 | 77 => 268 | n => n, fun | n => n⟩
theorem Tryz.sortLay : Go.Proofs.SlLaysF0.n6 Tryz.prog Tryz.sortLay_ren := {
  mixed := by kernel_rfl
  f6 := ⟨Tryz.f118.name, by decide, Tryz.func118.trans (congrArg some (by kernel_rfl))⟩
  f14 := ⟨Tryz.f157.name, by decide, Tryz.func157.trans (congrArg some (by kernel_rfl))⟩
  f15 := Tryz.func156.trans (congrArg some (by kernel_rfl))
  f20 := ⟨Tryz.f181.name, by decide, Tryz.func181.trans (congrArg some (by kernel_rfl))⟩
  f21 := ⟨Tryz.f182.name, by decide, Tryz.func182.trans (congrArg some (by kernel_rfl))⟩
  f22 := ⟨Tryz.f183.name, by decide, Tryz.func183.trans (congrArg some (by kernel_rfl))⟩
  f23 := ⟨Tryz.f184.name, by decide, Tryz.func184.trans (congrArg some (by kernel_rfl))⟩
  f24 := ⟨Tryz.f185.name, by decide, Tryz.func185.trans (congrArg some (by kernel_rfl))⟩
  f25 := ⟨Tryz.f186.name, by decide, Tryz.func186.trans (congrArg some (by kernel_rfl))⟩
  f26 := ⟨Tryz.f187.name, by decide, Tryz.func187.trans (congrArg some (by kernel_rfl))⟩
  f27 := ⟨Tryz.f188.name, by decide, Tryz.func188.trans (congrArg some (by kernel_rfl))⟩
  f28 := Tryz.func179.trans (congrArg some (by kernel_rfl))
  f29 := Tryz.func180.trans (congrArg some (by kernel_rfl))
  f46 := ⟨Tryz.f198.name, by decide, Tryz.func198.trans (congrArg some (by kernel_rfl))⟩
  f47 := Tryz.func199.trans (congrArg some (by kernel_rfl))
  f48 := Tryz.func200.trans (congrArg some (by kernel_rfl))
  f49 := ⟨Tryz.f201.name, by decide, Tryz.func201.trans (congrArg some (by kernel_rfl))⟩
  f50 := ⟨Tryz.f202.name, by decide, Tryz.func202.trans (congrArg some (by kernel_rfl))⟩
  f57 := ⟨Tryz.f216.name, by decide, Tryz.func216.trans (congrArg some (by kernel_rfl))⟩
  t0 := Tryz.underlying0
  a0 := Tryz.isAgg0
  z0 := Tryz.sizeOf0
  v0 := Tryz.zeroValue0
  t3 := Tryz.underlying3
  a3 := Tryz.isAgg3
  z3 := Tryz.sizeOf3
  v3 := Tryz.zeroValue3
  t4 := Tryz.underlying4
  a4 := Tryz.isAgg4
  z4 := Tryz.sizeOf4
  v4 := Tryz.zeroValue4
  t5 := Tryz.underlying5
  a5 := Tryz.isAgg5
  z5 := Tryz.sizeOf5
  v5 := Tryz.zeroValue5
  t9 := Tryz.underlying9
  a9 := Tryz.isAgg9
  z9 := Tryz.sizeOf9
  v9 := Tryz.zeroValue9
  t22 := Tryz.underlying165
  a22 := Tryz.isAgg165
  z22 := Tryz.sizeOf165
  v22 := Tryz.zeroValue165
  t25 := Tryz.underlying169
  a25 := Tryz.isAgg169
  z25 := Tryz.sizeOf169
  v25 := Tryz.zeroValue169
  t39 := Tryz.underlying204
  a39 := Tryz.isAgg204
  z39 := Tryz.sizeOf204
  v39 := Tryz.zeroValue204
  t45 := Tryz.underlying239
  a45 := Tryz.isAgg239
  z45 := Tryz.sizeOf239
  v45 := Tryz.zeroValue239
  t46 := Tryz.underlying240
  a46 := Tryz.isAgg240
  z46 := Tryz.sizeOf240
  v46 := Tryz.zeroValue240
  t50 := Tryz.underlying180
  a50 := Tryz.isAgg180
  z50 := Tryz.sizeOf180
  v50 := Tryz.zeroValue180
  t53 := Tryz.underlying38
  a53 := Tryz.isAgg38
  z53 := Tryz.sizeOf38
  v53 := Tryz.zeroValue38
  t55 := Tryz.underlying207
  a55 := Tryz.isAgg207
  z55 := Tryz.sizeOf207
  v55 := Tryz.zeroValue207
  t66 := Tryz.underlying256
  a66 := Tryz.isAgg256
  z66 := Tryz.sizeOf256
  v66 := Tryz.zeroValue256
  t70 := Tryz.underlying260
  a70 := Tryz.isAgg260
  z70 := Tryz.sizeOf260
  v70 := Tryz.zeroValue260
  t76 := Tryz.underlying267
  a76 := Tryz.isAgg267
  z76 := Tryz.sizeOf267
  v76 := Tryz.zeroValue267
  t77 := Tryz.underlying268
  a77 := Tryz.isAgg268
  z77 := Tryz.sizeOf268
  v77 := Tryz.zeroValue268 }

end Go.Proofs

namespace Go.Proofs.YtdjmjhlbjcgoiaaGreatDoor

open Go.RowKit Go.Maps Go.Sort

set_option maxRecDepth 100000 in
set_option maxHeartbeats 800000 in
theorem closure_any (a b : List Nat) (W : World) (ha : WfK a) (hb : WfK b) :
    Calls Tryz.prog 119 #[.agg (arr a), .agg (arr b)] W fun e w' => e = .returned (.int .i64 (cmpK a b)) ∧ ∃ q os', w' = grow (W.drewN q) os' := by
  have HA : Hid (Ar ((W.alloc (.cells (arr a) 160)).alloc (.cells (arr b) 160)) W.heap.size a) := (Ar.new W a).later (below_alloc _)
  have hB := Ar.new (W.alloc (.cells (arr a) 160)) b
  rw [show (W.alloc (.cells (arr a) 160)).heap.size = W.heap.size + 1 by simp] at hB
  have HB : Hid (Ar ((W.alloc (.cells (arr a) 160)).alloc (.cells (arr b) 160)) (W.heap.size + 1) b) := hB
  have Ha : Hid (WfK a) := ha
  have Hb : Hid (WfK b) := hb
  have hlen : Tryz.prog.arrayLen 160 = 512 := by kernel_rfl
  clear hB ha hb
  go_enter Tryz.func119, Tryz.ntmps119
  go_wp2
  go_quiet ((go_at_call 120; exact Calls.quiet_of_same (bytesCompare_any (w := World.drewN _ _) HA.out HB.out Ha.out Hb.out)))
  go_wp2
  go_ret
  refine ⟨rfl, nq, #[.cells (arr a) 160, .cells (arr b) 160], ?_⟩
  rw [alloc_eq_grow, alloc_eq_grow, grow_grow]
  rfl

/-- A key's cells. -/
def cellsL (ks : List Nat) : List Value := ks.map fun (x : Nat) => Value.int .u8 (x : Int)

theorem arr_cells (ks : List Nat) : arr ks = (cellsL ks).toArray := rfl

theorem len_cellsL {ks : List Nat} (h : WfK ks) : (cellsL ks).length = 512 := by simp [cellsL, h.1]

/-- The slice value v is the call's own and holds the keys kss. -/
def OwK (w : World) (base : Nat) (v : Value) (kss : List (List Nat)) : Prop := w.ownsRow base 160 512 v kss.length (kss.flatMap cellsL)

theorem flat_get {kss : List (List Nat)} (hw : ∀ ks ∈ kss, WfK ks) : ∀ {i j : Nat} {ks : List Nat}, kss[i]? = some ks → j < 512 → (kss.flatMap cellsL)[i * 512 + j]? = (cellsL ks)[j]? := by
  induction kss with
  | nil => intro i j ks h; simp at h
  | cons a r ih =>
    intro i j ks h hj
    have hl := len_cellsL (hw a (by simp))
    rw [List.flatMap_cons]
    cases i with
    | zero =>
      simp only [List.getElem?_cons_zero, Option.some.injEq] at h
      subst h
      rw [Nat.zero_mul, Nat.zero_add, List.getElem?_append_left (by omega)]
    | succ i =>
      rw [List.getElem?_cons_succ] at h
      rw [List.getElem?_append_right (by rw [hl]; omega), hl, show (i + 1) * 512 + j - 512 = i * 512 + j by omega]
      exact ih (fun k hk => hw k (by simp [hk])) h hj

theorem flat_lenY {kss : List (List Nat)} (hw : ∀ ks ∈ kss, WfK ks) : (kss.flatMap cellsL).length = kss.length * 512 := by
  induction kss with
  | nil => rfl
  | cons a r ih =>
    rw [List.flatMap_cons, List.length_append, len_cellsL (hw a (by simp)), ih (fun k hk => hw k (by simp [hk])), List.length_cons]
    omega

def leK (a b : List Nat) : Bool := !decide (cmpK b a < 0)

/-- Keys as a type of their own. -/
abbrev KeyT := { ks : List Nat // WfK ks }

def encT (x : KeyT) : List Value := cellsL x.1

def cfT (x y : KeyT) : Int := cmpK x.1 y.1

theorem lt_of_cf (x y : KeyT) : ltOf cfT x y = decide (ltK x.1 y.1) := rfl

theorem swoT : SWO (ltOf cfT) where
  irrefl x := by rw [lt_of_cf]; exact decide_eq_false (ltK_irrefl _)
  trans x y z h1 h2 := by
    rw [lt_of_cf] at *
    exact decide_eq_true (ltK_trans (of_decide_eq_true h1) (of_decide_eq_true h2))
  ntrans x y z h1 h2 := by
    rw [lt_of_cf] at *
    have h1 := of_decide_eq_false h1
    have h2 := of_decide_eq_false h2
    refine decide_eq_false fun h => ?_
    by_cases e : x.1 = y.1
    · rw [e] at h; exact h2 h
    · exact h2 (ltK_trans (ltK_or e h1) h)

theorem totT (x y : KeyT) (h1 : ltOf cfT x y = false) (h2 : ltOf cfT y x = false) : x = y := by
  rw [lt_of_cf] at *
  have h1 := of_decide_eq_false h1
  have h2 := of_decide_eq_false h2
  apply Subtype.ext
  by_cases e : x.1 = y.1
  · exact e
  · exact absurd (ltK_or e h1) h2

theorem heap_putRow {α : Type} [Inhabited α] (enc : α → Value) (w : World) (blk off : Nat) (d : Array α) {cur : Array Value} {e : TypeId} {fr : Nat × Nat} (h : w.heap[blk]? = some (.cells cur e fr)) :
    (putRow enc w blk off d).heap[blk]? = some (.cells (putCells enc off d cur) e fr) := by
  unfold putRow mapBlock
  simp [Array.getElem?_modify, h, onCells]

theorem heap_putRow_other {α : Type} [Inhabited α] (enc : α → Value) (w : World) (blk off k : Nat) (d : Array α) (h : k ≠ blk) : (putRow enc w blk off d).heap[k]? = w.heap[k]? := by
  unfold putRow mapBlock
  simp only [Array.getElem?_modify]
  rw [if_neg (fun e => h e.symm)]

end Go.Proofs.YtdjmjhlbjcgoiaaGreatDoor

/- What the sort leaves. -/
namespace Go.Proofs.YtdjmjhlbjcgoiaaGreatDoor
open Go.RowKit Go.Maps Go.Sort Go.Shelf

theorem isAggK (w : World) : (isAgg 160).run Tryz.prog w = .ok true w := by kernel_rfl

theorem sizeOfK (w : World) : (Go.sizeOf 160).run Tryz.prog w = .ok 512 w := by kernel_rfl

theorem getE {α : Type} [Inhabited α] {d : Array α} {i : Nat} {x : α} (h : d.toList[i]? = some x) : d[i]! = x := by
  have : d[i]? = some x := by simpa using h
  rw [getElem!_def, this]

/-- The flat row of keys. -/
theorem flatK_get [Inhabited KeyT] (d : Array KeyT) {t : Nat} (ht : t < d.size * 512) : ((d.toList.map Subtype.val).flatMap cellsL)[t]? = some (flatK encT 512 d)[t]! := by
  have hi : t / 512 < d.size := by omega
  have hx : d.toList[t / 512]? = some d[t / 512] := by simp [hi]
  have hks : (d.toList.map Subtype.val)[t / 512]? = some d[t / 512].1 := by rw [List.getElem?_map, hx]; rfl
  have hw : ∀ ks ∈ d.toList.map Subtype.val, WfK ks := by
    intro ks hk
    obtain ⟨x, _, rfl⟩ := List.mem_map.1 hk
    exact x.2
  have := flat_get hw hks (j := t % 512) (by omega)
  rw [show t / 512 * 512 + t % 512 = t by omega] at this
  rw [this, get_flatK _ _ _ _ ht, getE hx]
  have hl : t % 512 < (encT d[t / 512]).length := by unfold encT; rw [len_cellsL d[t / 512].2]; omega
  have e1 : (encT d[t / 512])[t % 512]! = (encT d[t / 512])[t % 512] := getElem!_pos (encT d[t / 512]) (t % 512) hl
  rw [e1]
  exact List.getElem?_eq_getElem hl

theorem sort_holds [Inhabited KeyT] {w : World} {base g cap : Nat} {d : Array KeyT} (h : OwK w base (.slice (some ⟨g, 0, none⟩) d.size cap) (d.toList.map Subtype.val)) : HoldsK encT 512 w g 0 d := by
  intro t ht
  have ht' : t < d.size * 512 := by simpa using ht
  have hl : (d.toList.map Subtype.val).length = d.size := by simp
  have h2 := h
  unfold OwK at h2
  rw [hl] at h2
  refine ⟨?_, by rw [Nat.zero_add]; exact World.ownsRow.frozenAt h2 t⟩
  rw [Nat.zero_add, World.ownsRow.cellAt h2 t ht']
  have := flatK_get d ht'
  rw [List.getElem?_eq_some_iff] at this
  obtain ⟨h3, h4⟩ := this
  simp [← h4]

set_option maxRecDepth 100000 in
theorem sortRow [Inhabited KeyT] {w : World} {base g cap : Nat} {d d' : Array KeyT} {n : Nat} {os : Array Obj} (h : OwK w base (.slice (some ⟨g, 0, none⟩) d.size cap) (d.toList.map Subtype.val)) (hs : d'.size = d.size) :
    OwK (sortWorldK encT 512 w g 0 n d' os) base (.slice (some ⟨g, 0, none⟩) d.size cap) (d'.toList.map Subtype.val) ∧ w.grownBy (sortWorldK encT 512 w g 0 n d' os) (some g) := by
  have hl : (d.toList.map Subtype.val).length = d.size := by simp
  have hl' : (d'.toList.map Subtype.val).length = d.size := by simp [hs]
  have hw' : ∀ ks ∈ d'.toList.map Subtype.val, WfK ks := by
    intro ks hk
    obtain ⟨x, _, rfl⟩ := List.mem_map.1 hk
    exact x.2
  rcases h.2 with ⟨hv, _⟩ | ⟨g', cap', cur, hv, hb, hg, hc, hm, hsz, ht⟩
  · cases hv
  · simp only [Value.slice.injEq, Option.some.injEq, Addr.mk.injEq, and_true, true_and, hl] at hv
    obtain ⟨rfl, rfl⟩ := hv
    have hglt := (Array.getElem?_eq_some_iff.1 hg).1
    have hg2 : (Sort.ahead w n).heap[g]? = some (.cells cur 160 (0, 0)) := hg
    have hgg : (sortWorldK encT 512 w g 0 n d' os).heap[g]? = some (.cells (putCells id 0 (flatK encT 512 d') cur) 160 (0, 0)) := by
      unfold sortWorldK putRowK
      rw [heap_grow_old _ _ (by simpa using hglt)]
      exact heap_putRow id _ g 0 _ hg2
    refine ⟨⟨by rw [flat_lenY hw'], .inr ⟨g, cap, _, by rw [hl'], hb, hgg, by rw [hl']; rw [hl] at hc; exact hc, hm, by simpa [putCells] using hsz, ?_⟩⟩, ?_⟩
    · rw [hl']
      apply List.ext_getElem?
      intro t
      by_cases htt : t < d.size * 512
      · rw [List.getElem?_take_of_lt htt, flatK_get d' (by rw [hs]; exact htt)]
        have htc : t < cur.size := by rw [hsz]; rw [hl] at hc; have := Nat.mul_le_mul_right 512 hc; omega
        simp only [putCells, Array.toList_mapIdx, List.getElem?_mapIdx, size_flatK, hs]
        simp [htc, htt]
      · rw [List.getElem?_eq_none (by simp; omega), List.getElem?_eq_none (by rw [flat_lenY hw', hl']; omega)]
    · refine ⟨rfl, rfl, rfl, ?_, fun k hk hne => ?_⟩
      · unfold sortWorldK putRowK grow
        simp [Sort.ahead]
      · unfold sortWorldK putRowK
        rw [heap_grow_old _ _ (by simpa using hk), heap_putRow_other _ _ _ _ _ _ (by simpa using hne)]
        rfl

set_option maxRecDepth 100000 in
set_option maxHeartbeats 800000 in
theorem sortKeys_any (kss : List (List Nat)) (v : Value) (w : World) (base : Nat) (hw : ∀ ks ∈ kss, WfK ks) (ho : OwK w base v kss) (hn : kss.length < 4611686018427387904) :
    Calls Tryz.prog 118 #[v, .func (.func 119) #[] #[]] w fun e w' => e = .returned (.tuple #[]) ∧ OwK w' base v (kss.mergeSort leK) ∧ w.grownBy w' v.ownBlock := by
  rcases ho.2 with ⟨rfl, h0⟩ | ⟨g, cap, cur, rfl, _⟩
  · obtain rfl : kss = [] := List.eq_nil_of_length_eq_zero h0
    have hcon := AnyF.slices_SortFunc_none Tryz.sortLay none 0 (.func (.func 119) #[] #[]) w
    change Calls Tryz.prog 118 _ _ _ at hcon
    refine hcon.mono ?_
    rintro e w' ⟨rfl, rfl⟩
    exact ⟨rfl, by simpa using ho, World.grownBy.refl _ _⟩
  · letI hI : Inhabited KeyT := ⟨⟨zeros, len_zeros, fun j x hj => by have := List.mem_of_getElem? hj; have := (List.mem_replicate.1 this).2; omega⟩⟩
    let d : Array KeyT := (kss.attachWith WfK hw).toArray
    have hd : d.toList.map Subtype.val = kss := by simp [d]
    have hds : d.size = kss.length := by simp [d]
    have eg : ∀ args w, (callFunc 119 args).run Tryz.prog w = .ok (.enter 119 args) w := enters_of Tryz.func119 (by kernel_rfl) rfl
    have hcmp : CmpLays Tryz.prog 119 #[] encT 512 cfT g 0 d.size w := fun m os dk _ x y => closure_any x.1 y.1 _ x.2 y.2
    have ho' : OwK w base (.slice (some ⟨g, 0, none⟩) d.size cap) (d.toList.map Subtype.val) := by rw [hd, hds]; exact ho
    have hblk : g < w.heap.size := by
      rcases ho.2 with ⟨hv, _⟩ | ⟨g', cap', cur', hv, _, hg, _⟩
      · cases hv
      · simp only [Value.slice.injEq, Option.some.injEq, Addr.mk.injEq, and_true] at hv
        rw [← hv.1] at hg
        exact (Array.getElem?_eq_some_iff.1 hg).1
    have hcon := AnyQ.slices_SortFunc_total Tryz.sortLay 512 isAggK sizeOfK encT (fun x => len_cellsL x.2) (fun x u hu => by
      obtain ⟨n, _, rfl⟩ := List.mem_map.1 hu
      rfl) cfT swoT 119 #[] g 0 cap d w eg hcmp (sort_holds ho') hblk (by rw [hds]; exact hn) totT
    change Calls Tryz.prog 118 _ _ _ at hcon
    rw [hds] at hcon
    refine hcon.mono ?_
    rintro e w' ⟨rfl, n, os, rfl⟩
    have hr := sortRow (n := n) (os := os) (d' := (d.toList.mergeSort fun x y => !(ltOf cfT) y x).toArray) ho' (by simp)
    rw [hds] at hr
    have hmap : ((d.toList.mergeSort fun x y => !(ltOf cfT) y x).toArray.toList.map Subtype.val) = kss.mergeSort leK := by
      show (d.toList.mergeSort fun x y => !(ltOf cfT) y x).map Subtype.val = _
      have hm := List.map_mergeSort (r := fun x y => !(ltOf cfT) y x) (s := leK) (f := Subtype.val) (l := d.toList) (fun a _ b _ => rfl)
      rw [hm, hd]
    rw [hmap] at hr
    exact ⟨rfl, hr.1, hr.2⟩

end Go.Proofs.YtdjmjhlbjcgoiaaGreatDoor
