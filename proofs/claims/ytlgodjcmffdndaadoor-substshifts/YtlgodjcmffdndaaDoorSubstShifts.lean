/- SubstShifts. -/
import Derived.Test.YtlgodjcmffdndaaDoorTRefShift
namespace Go.Proofs.YtlgodjcmffdndaaDoor
open Go.RowKit Go.Maps Go.BigFrame

set_option maxRecDepth 100000 in
set_option maxHeartbeats 1600000 in
theorem substShifts_any (v : Value) (t : List Int) (d : Int) (w : World) (h : Is w v t) (hT : Tabs w) (hb : t.length * 8 ≤ 140737488351232) (hd1 : -9223372036854775808 ≤ d) (hd2 : d ≤ 9223372036854775807) :
    Calls Tryd.prog 5 #[v, .int .i64 d] w fun e w' => e = .returned (.bool true) ∧ Below w.heap.size w w' := by
  obtain ⟨ao, cap, rfl, hao, hca, q0⟩ := Row.flat h
  unfold maxLen at hca
  have HT := hid h
  have HTb := hid hT
  clear h q0 hT
  go_enter Tryd.func5, Tryd.ntmps5
  go_wp2_with fail
  refine (shown_any w HTb.out).mono ?_
  rintro e w1 ⟨rfl, hb1⟩
  have HB1 := hid hb1
  have HT1 := hid (HT.out.kp (Kp.of_below hb1))
  clear hb1
  obtain ⟨vr, w2, hr2, ho2, hg2⟩ := copy_ints 30 (base := w1.heap.size) (g := w1.heap.size) (empty_row (w := w1) 3 (Nat.le_refl _)) (HT1.out.kp (Kp.of_below (below_alloc _))) (below_alloc _).size (by omega)
  have HR2 := hid hr2
  have HK2 : Hid (Below w1.heap.size w1 w2) := grown_below (below_alloc _) hg2 (Nat.le_refl _)
  have HV2 := hid ho2.is
  have HT2 := hid (HT1.out.kp (Kp.of_below HK2.out))
  have HB2 := hid (below_step HB1.out HK2.out)
  clear hr2 ho2 hg2 HK2 HB1 HT1
  go_wp2_with (first
    | (at_builtin; refine wpList_append_run rfl _ _ _ rfl _ _ rfl rfl HR2.out ?_))
  refine (shift_any vr t d w2 HV2.out hb hd1 hd2).mono ?_
  rintro e w3 ⟨va, rfl, ho3, hb3⟩
  have HA3 := hid ho3
  have HB3 := hid hb3
  clear ho3 hb3 HR2
  go_wp2_with fail
  refine (refShift_any _ t d w3 (HT2.out.kp (Kp.of_below HB3.out)) hb hd1 hd2).mono ?_
  rintro e w4 ⟨vw, rfl, ho4, hb4⟩
  have HA4 := hid (HA3.out.later hb4)
  have HW4 := hid ho4.is
  have HB4 := hid (below_step HB3.out hb4)
  clear ho4 hb4 HA3 HB3
  generalize shiftE d t = E
  generalize shiftL d t = xs at HA4 HW4
  have hxl : xs.length ≤ 9223372036854775807 := by
    obtain ⟨_, c9, _, h8, h9⟩ := HA4.out.shape
    unfold maxLen at h9
    omega
  go_wp2_with fail
  refine (same_any va vw xs xs w4 HA4.out.is HW4.out).mono ?_
  rintro e w5 ⟨rfl, n5, hw5⟩
  rw [decide_eq_true rfl]
  have HK5 := hid (drawn_below hw5)
  have HB5 := hid (below_step HB4.out HK5.out)
  have HA5 := hid (HA4.out.later HK5.out)
  clear hw5 HK5 HA4 HW4 HB4
  go_wp2_with fail
  refine (same_any vr _ t t w5 (HV2.out.kp (Kp.of_below HB5.out)) (HT2.out.kp (Kp.of_below HB5.out))).mono ?_
  rintro e w6 ⟨rfl, n6, hw6⟩
  rw [decide_eq_true rfl]
  have HK6 := hid (drawn_below hw6)
  have HB6 := hid (below_step HB5.out HK6.out)
  have HA6 := hid (HA5.out.later HK6.out)
  clear hw6 HK6 HA5 HB5
  obtain ⟨xo, xc, rfl, hxc1, hxc2⟩ := HA6.out.shape
  unfold maxLen at hxc2
  go_wp2
  go_loopw [11] (fun i ws => ∃ (k : Nat) (ys : List Int), k ≤ xs.length ∧ i = .int .i64 k ∧ ys.length = xs.length ∧ OwI ws w2.heap.size (.slice xo xs.length xc) ys ∧ Below w2.heap.size w2 ws) (fun i _ => xs.length - (intOf i).toNat)
  case atStart => exact ⟨0, xs, Nat.zero_le _, rfl, rfl, HA6.out, HB6.out⟩
  case round =>
    obtain ⟨k, ys, hk, rfl, hyl, how, hbl⟩ := hrel
    have HOw := hid how
    have HYl := hid hyl
    have HBw := hid hbl
    clear how hbl HA6 HB6 hyl
    by_cases hlt : k < xs.length
    · obtain ⟨g, cp, hv⟩ := own_form (v := .slice xo xs.length xc) HOw.out.2 (by rw [HYl.out]; omega)
      simp only [Value.slice.injEq] at hv
      obtain ⟨rfl, _, rfl⟩ := hv
      obtain ⟨y, hy⟩ : ∃ y, ys[k]? = some y := ⟨_, List.getElem?_eq_getElem (by rw [HYl.out]; exact hlt)⟩
      obtain ⟨hc1, hf1⟩ := HOw.out.at hy
      have hg := own_ge HOw.out.2
      have hq := HOw.out.put HBw.out hg HYl.out.symm (k := k) (z := 99) (by omega) rfl
      have HQ := hid hq.1
      have HQb := hid hq.2
      clear hq hy
      go_wp2
      go_roundw
      case rel => exact ⟨k + 1, ys.set k 99, by omega, by go_num, by rw [List.length_set]; exact HYl.out, HQ.out, HQb.out⟩
      case measure => simp [intOf]; omega
    · go_wp2_with fail
      refine (same_any vr _ t t wr (HV2.out.kp (Kp.of_below HBw.out)) (HT2.out.kp (Kp.of_below HBw.out))).mono ?_
      rintro e w8 ⟨rfl, n8, hw8⟩
      rw [decide_eq_true rfl]
      have HB8 := hid (below_step HB2.out (below_step HBw.out (drawn_below hw8)))
      clear hw8
      go_wp2
      go_ret
      exact ⟨rfl, HB8.out⟩

end Go.Proofs.YtlgodjcmffdndaaDoor
