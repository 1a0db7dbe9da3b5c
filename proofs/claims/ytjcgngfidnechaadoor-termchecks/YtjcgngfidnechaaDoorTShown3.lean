/- The examples of layer 3 come out true. -/
import Derived.Test.YtjcgngfidnechaaDoorTReplaceB
namespace Go.Proofs.YtjcgngfidnechaaDoor
open Go.RowKit Go.Maps Go.BigFrame

theorem sh_p0 : placeE sumS [2, 1, -1, -2] 0 = 0 := by kernel_rfl
theorem sh_p1 : placeE sumS [2, 1, -1, -2] 1 = 0 := by kernel_rfl
theorem sh_p2 : placeE sumS [2, 1, -1, -2] 2 = 0 := by kernel_rfl
theorem sh_kids : kidsL sumS [2, 1, -1, -2] 0 = [1, 3] := by kernel_rfl
theorem sh_sub : subL sumS [2, 1, -1, -2] 1 = [1, -1] := by kernel_rfl
theorem sh_replE : replE sumS [2, 1, -1, -2] 1 [0] = 0 := by kernel_rfl
theorem sh_replL : replL sumS [2, 1, -1, -2] 1 [0] = [2, 0, -2] := by kernel_rfl
theorem sh_above : aboveL sumS [2, 1, -1, -2] 2 = [0, 1] := by kernel_rfl
theorem sh_vars : varsL [2, -5, 2, -1, -5] = [4, 0] := by kernel_rfl
theorem sh_none : termE sumS [2, 0] = 31 := by kernel_rfl
theorem sh_all : termE sumS [2, 1, -1, -2] = 0 := by kernel_rfl
theorem sh_none2 : sigE [(⟨#[49, 102]⟩, 0)] = 34 := by kernel_rfl

theorem small_ints (xs : List Int) (h : (xs.all fun x => decide (-100 ≤ x ∧ x ≤ 100)) = true) : ∀ x ∈ xs, -9223372036854775808 ≤ x ∧ x ≤ 9223372036854775807 := fun x hx => by
  have := List.all_eq_true.1 h x hx
  simp at this
  omega

theorem call_same3 (w : World) (v : Value) (xs : List Int) (h : Is w v xs) (hz : (xs.all fun x => decide (-100 ≤ x ∧ x ≤ 100)) = true) (hl : xs.length ≤ 1000) :
    Calls Tryd.prog 17 #[v, .slice (some ⟨w.heap.size, 0, none⟩) xs.length xs.length] (w.alloc (.cells (xs.map I64).toArray 3)) fun e w' => e = .returned (.bool true) ∧ Below w.heap.size w w' := by
  refine (same3_any v _ xs xs _ (h.kp (Kp.of_below (below_alloc _))) (is_new w xs _ (small_ints xs hz) hl)).mono ?_
  rintro e w' ⟨rfl, n, hw⟩
  rw [decide_eq_true rfl]
  exact ⟨rfl, below_step (below_alloc _) (drawn_below hw)⟩

theorem call_vars3 (w : World) : Calls Tryd.prog 15 #[.slice (some ⟨w.heap.size, 0, none⟩) 5 5] (w.alloc (Obj.cells #[Value.int IntKind.i64 2, Value.int IntKind.i64 (-5), Value.int IntKind.i64 2, Value.int IntKind.i64 (-1), Value.int IntKind.i64 (-5)] 3))
    fun e w' => ∃ v', e = .returned v' ∧ Is w' v' [4, 0] ∧ Below w.heap.size w w' := by
  refine (vars_any _ [2, -5, 2, -1, -5] _ (is_new w [2, -5, 2, -1, -5] _ (small_ints _ (by decide)) (by decide)) (by decide)).mono ?_
  rintro e w' ⟨v', rfl, ho, hb⟩
  rw [sh_vars] at ho
  exact ⟨v', rfl, ho.is, below_step (below_alloc _) hb⟩

theorem call_none (w : World) (sv : Value) (hs : Sg w sv sumS) (hT : Tabs w) : Calls Tryd.prog 13 #[sv, .slice (some ⟨w.heap.size, 0, none⟩) 2 2] (w.alloc (Obj.cells #[Value.int IntKind.i64 2, Value.int IntKind.i64 0] 3))
    fun e w' => e = .returned (.int .i64 31) ∧ Below w.heap.size w w' := by
  refine (check_any sv _ sumS [2, 0] _ (hs.kp (Kp.of_below (below_alloc _))) (is_new w [2, 0] _ (small_ints _ (by decide)) (by decide)) (hT.below (below_alloc _)) (by decide)).mono ?_
  rintro e w' ⟨rfl, hb⟩
  rw [sh_none]
  exact ⟨rfl, below_step (below_alloc _) hb⟩

theorem call_sig (w : World) (hT : Tabs w) : Calls Tryd.prog 10 #[.slice (some ⟨w.heap.size, 0, none⟩) 1 1] (w.alloc (Obj.cells #[Value.string ⟨#[49, 102]⟩, Value.int IntKind.i64 0] 40))
    fun e w' => e = .returned (.int .i64 34) ∧ Below w.heap.size w w' := by
  refine (checkSig_any _ [(⟨#[49, 102]⟩, 0)] _ (sg_lit (p := [(⟨#[49, 102]⟩, 0)]) (by simp) (by decide) ⟨⟨by decide, by decide, by decide, cell_new rfl, cell_new rfl⟩, trivial⟩) (hT.below (below_alloc _))).mono ?_
  rintro e w' ⟨rfl, hb⟩
  rw [sh_none2]
  exact ⟨rfl, below_step (below_alloc _) hb⟩

theorem call_repl (w : World) (sv v : Value) (hs : Sg w sv sumS) (h : Is w v [2, 1, -1, -2]) (hT : Tabs w) : Calls Tryd.prog 26 #[sv, v, .int .i64 1, .slice (some ⟨w.heap.size, 0, none⟩) 1 1] (w.alloc (Obj.cells #[Value.int IntKind.i64 0] 3))
    fun e w' => ∃ v', e = .returned (.tuple #[v', .int .i64 0]) ∧ Is w' v' [2, 0, -2] ∧ Below w.heap.size w w' := by
  refine (replace_any sv v _ sumS [2, 1, -1, -2] [0] 1 _ (hs.kp (Kp.of_below (below_alloc _))) (h.kp (Kp.of_below (below_alloc _))) (is_new w [0] _ (small_ints _ (by decide)) (by decide)) (hT.below (below_alloc _)) (by decide) (by decide) (by decide) (by decide)).mono ?_
  rintro e w' ⟨v', rfl, ho, hb⟩
  rw [sh_replE]
  rw [sh_replL] at ho
  exact ⟨v', rfl, ho.is, below_step (below_alloc _) hb⟩

set_option maxRecDepth 100000 in
set_option maxHeartbeats 2000000 in
theorem shown3_any (w : World) (hT : Tabs w) : Calls Tryd.prog 9 #[] w fun e w' => e = .returned (.bool true) ∧ Below w.heap.size w w' := by
  have HT := hid hT
  clear hT
  go_enter Tryd.func9, Tryd.ntmps9
  go_wp2_with fail
  refine (three_any w).mono ?_
  rintro e w1 ⟨v1, rfl, hs1, hb1⟩
  obtain ⟨so, sc, rfl, _, hsc, _⟩ := Row.flat hs1
  have HS1 := hid (hs1.kp (Kp.of_below (below_alloc (.cells #[.int .i64 2, .int .i64 1, .int .i64 (-1), .int .i64 (-2)] 3))))
  have HI1 := hid (is_new w1 [2, 1, -1, -2] 3 (small_ints _ (by decide)) (by decide))
  have HB1 := hid (below_step hb1 (below_alloc (.cells #[.int .i64 2, .int .i64 1, .int .i64 (-1), .int .i64 (-2)] 3)))
  have HK := hid (kids_any _ _ sumS [2, 1, -1, -2] 0 _ HS1.out HI1.out (HT.out.below HB1.out) (by decide) (by decide) (by decide))
  clear hs1 hb1
  go_wp2_with fail
  refine HK.out.mono ?_
  rintro e w2 ⟨vk, rfl, ho2, hb2⟩
  rw [sh_p0]
  rw [sh_kids] at ho2
  have HRk := hid ho2.is
  have HS2 := hid (HS1.out.kp (Kp.of_below hb2))
  have HI2 := hid (HI1.out.kp (Kp.of_below hb2))
  have HB2 := hid (below_step HB1.out hb2)
  clear ho2 hb2 HK HS1 HI1 HB1
  have HK := hid (sub_any _ _ sumS [2, 1, -1, -2] 1 _ HS2.out HI2.out (HT.out.below HB2.out) (by decide) (by decide) (by decide))
  go_wp2_with fail
  refine HK.out.mono ?_
  rintro e w3 ⟨vu, rfl, ho3, hb3⟩
  rw [sh_p1]
  rw [sh_sub] at ho3
  have HRk3 := hid (HRk.out.kp (Kp.of_below hb3))
  have HRu := hid ho3.is
  have HS3 := hid (HS2.out.kp (Kp.of_below hb3))
  have HI3 := hid (HI2.out.kp (Kp.of_below hb3))
  have HB3 := hid (below_step HB2.out hb3)
  clear ho3 hb3 HK HS2 HI2 HB2 HRk
  go_wp2_with fail
  refine (call_repl w3 _ _ HS3.out HI3.out (HT.out.below HB3.out)).mono ?_
  rintro e w4 ⟨vv, rfl, ho4, hb4⟩
  have HRk4 := hid (HRk3.out.kp (Kp.of_below hb4))
  have HRu4 := hid (HRu.out.kp (Kp.of_below hb4))
  have HRv := hid ho4
  have HS4 := hid (HS3.out.kp (Kp.of_below hb4))
  have HI4 := hid (HI3.out.kp (Kp.of_below hb4))
  have HB4 := hid (below_step HB3.out hb4)
  clear ho4 hb4 HS3 HI3 HB3 HRk3 HRu
  have HK := hid (above_any _ _ sumS [2, 1, -1, -2] 2 _ HS4.out HI4.out (HT.out.below HB4.out) (by decide) (by decide) (by decide))
  go_wp2_with fail
  refine HK.out.mono ?_
  rintro e w5 ⟨va, rfl, ho5, hb5⟩
  rw [sh_p2]
  rw [sh_above] at ho5
  have HRk5 := hid (HRk4.out.kp (Kp.of_below hb5))
  have HRu5 := hid (HRu4.out.kp (Kp.of_below hb5))
  have HRv5 := hid (HRv.out.kp (Kp.of_below hb5))
  have HRa := hid ho5.is
  have HS5 := hid (HS4.out.kp (Kp.of_below hb5))
  have HI5 := hid (HI4.out.kp (Kp.of_below hb5))
  have HB5 := hid (below_step HB4.out hb5)
  clear ho5 hb5 HK HS4 HI4 HB4 HRk4 HRu4 HRv
  go_wp2_with fail
  refine (call_vars3 w5).mono ?_
  rintro e w6 ⟨vl, rfl, ho6, hb6⟩
  have HRk6 := hid (HRk5.out.kp (Kp.of_below hb6))
  have HRu6 := hid (HRu5.out.kp (Kp.of_below hb6))
  have HRv6 := hid (HRv5.out.kp (Kp.of_below hb6))
  have HRa6 := hid (HRa.out.kp (Kp.of_below hb6))
  have HRl := hid ho6
  have HS6 := hid (HS5.out.kp (Kp.of_below hb6))
  have HI6 := hid (HI5.out.kp (Kp.of_below hb6))
  have HB6 := hid (below_step HB5.out hb6)
  clear ho6 hb6 HS5 HI5 HB5 HRk5 HRu5 HRv5 HRa
  go_wp2_with fail
  refine (call_same3 w6 vk [1, 3] HRk6.out (by decide) (by decide)).mono ?_
  rintro e w7 ⟨rfl, hb7⟩
  have HRu7 := hid (HRu6.out.kp (Kp.of_below hb7))
  have HRv7 := hid (HRv6.out.kp (Kp.of_below hb7))
  have HRa7 := hid (HRa6.out.kp (Kp.of_below hb7))
  have HRl7 := hid (HRl.out.kp (Kp.of_below hb7))
  have HB7 := hid hb7
  clear hb7 HRk6 HRu6 HRv6 HRa6 HRl
  go_wp2_with fail
  refine (call_same3 w7 vu [1, -1] HRu7.out (by decide) (by decide)).mono ?_
  rintro e w8 ⟨rfl, hb8⟩
  have HRv8 := hid (HRv7.out.kp (Kp.of_below hb8))
  have HRa8 := hid (HRa7.out.kp (Kp.of_below hb8))
  have HRl8 := hid (HRl7.out.kp (Kp.of_below hb8))
  have HB8 := hid (below_step HB7.out hb8)
  clear hb8 HRu7 HRv7 HRa7 HRl7 HB7
  go_wp2_with fail
  refine (call_same3 w8 vv [2, 0, -2] HRv8.out (by decide) (by decide)).mono ?_
  rintro e w9 ⟨rfl, hb9⟩
  have HRa9 := hid (HRa8.out.kp (Kp.of_below hb9))
  have HRl9 := hid (HRl8.out.kp (Kp.of_below hb9))
  have HB9 := hid (below_step HB8.out hb9)
  clear hb9 HRv8 HRa8 HRl8 HB8
  go_wp2_with fail
  refine (call_same3 w9 va [0, 1] HRa9.out (by decide) (by decide)).mono ?_
  rintro e w10 ⟨rfl, hb10⟩
  have HRl10 := hid (HRl9.out.kp (Kp.of_below hb10))
  have HB10 := hid (below_step HB9.out hb10)
  clear hb10 HRa9 HRl9 HB9
  go_wp2_with fail
  refine (call_same3 w10 vl [4, 0] HRl10.out (by decide) (by decide)).mono ?_
  rintro e w11 ⟨rfl, hb11⟩
  have HB11 := hid (below_step HB10.out hb11)
  have HS11 := hid (HS6.out.kp (Kp.of_below HB11.out))
  have HI11 := hid (HI6.out.kp (Kp.of_below HB11.out))
  have HW11 := hid (below_step HB6.out HB11.out)
  clear hb11 HRl10 HB10 HB11 HS6 HI6 HB6
  go_wp2_with fail
  refine (call_none w11 _ HS11.out (HT.out.below HW11.out)).mono ?_
  rintro e w12 ⟨rfl, hb12⟩
  have HS12 := hid (HS11.out.kp (Kp.of_below hb12))
  have HI12 := hid (HI11.out.kp (Kp.of_below hb12))
  have HW12 := hid (below_step HW11.out hb12)
  clear hb12 HS11 HI11 HW11
  go_wp2_with fail
  refine (call_sig w12 (HT.out.below HW12.out)).mono ?_
  rintro e w13 ⟨rfl, hb13⟩
  have HS13 := hid (HS12.out.kp (Kp.of_below hb13))
  have HI13 := hid (HI12.out.kp (Kp.of_below hb13))
  have HW13 := hid (below_step HW12.out hb13)
  clear hb13 HS12 HI12 HW12
  have HK := hid (check_any _ _ sumS [2, 1, -1, -2] _ HS13.out HI13.out (HT.out.below HW13.out) (by decide))
  go_wp2_with fail
  refine HK.out.mono ?_
  rintro e w14 ⟨rfl, hb14⟩
  rw [sh_all]
  have HW14 := hid (below_step HW13.out hb14)
  clear hb14 HS13 HI13 HW13 HK
  go_wp2
  go_ret
  exact ⟨rfl, HW14.out⟩

end Go.Proofs.YtjcgngfidnechaaDoor
