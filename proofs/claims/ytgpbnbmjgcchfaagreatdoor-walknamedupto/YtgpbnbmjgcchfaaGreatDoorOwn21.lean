/- Texts of the proof, one behind the other. -/
import Derived.Test.YtgpbnbmjgcchfaaGreatDoorOwn17
import Derived.Test.YtgpbnbmjgcchfaaGreatDoorOwn20
import Derived.Test.YtgpbnbmjgcchfaaGreatDoorOwn4
import Derived.Test.YtgpbnbmjgcchfaaGreatDoorOwn3
import Derived.Test.YtgpbnbmjgcchfaaGreatDoorOwn19
import Derived.Test.YtgpbnbmjgcchfaaGreatDoorOwn18
/- What same and sameRow of layer 8's laws tell. -/
namespace Go.Proofs.YtgpbnbmjgcchfaaGreatDoor
open Go.RowKit Go.Maps Go.BigFrame

set_option maxHeartbeats 400000 in
theorem sameRow8_any (v u : Value) (xs ys : List Int) (w : World) (h : Is w v xs) (h' : Is w u ys) :
    Calls Tryz.prog 14 #[v, u] w fun e w' => e = .returned (.bool (decide (xs = ys))) ∧ ∃ n, w' = w.drewN n := by
  obtain ⟨ao, cap, rfl, hao, hca, hcl⟩ := h.flatI
  obtain ⟨bo, cap', rfl, hbo, hcb, hcl'⟩ := h'.flatI
  clear h h'
  by_cases hl : xs.length = ys.length
  · have hle : ((xs.length : Int) != ys.length) = false := by simp; omega
    go_enter Tryz.func14, Tryz.ntmps14
    go_wp2
    go_loopw [5] (fun i wr => ∃ k : Nat, k ≤ xs.length ∧ i = .int .i64 k ∧ xs.take k = ys.take k ∧ ∃ n, wr = w.drewN n) (fun i _ => xs.length - (intOf i).toNat)
    case atStart => exact ⟨0, Nat.zero_le _, rfl, rfl, 0, rfl⟩
    case round =>
      obtain ⟨k, hk, rfl, ht, n, rfl⟩ := hrel
      have HT : Hid (xs.take k = ys.take k) := ht
      clear ht
      by_cases hlt : k < xs.length
      · obtain ⟨g, off, x, rfl, hx1, hx3⟩ := hcl k hlt
        obtain ⟨g', off', y, rfl, hy1, hy3⟩ := hcl' k (by omega)
        have HX : Hid (xs[k]? = some x) := hx1
        have HY : Hid (ys[k]? = some y) := hy1
        have hlt' : k < ys.length := by omega
        clear hx1 hy1 hcl hcl'
        by_cases hxy : x = y
        · subst hxy
          have hxx : (x != x) = false := by simp
          go_wp2
          go_quiet (fail)
          go_wp2
          go_roundw
          case rel => exact ⟨k + 1, by omega, by go_num, by rw [take_get HX.out, take_get HY.out, HT.out], _, rfl⟩
          case measure => simp [intOf]; omega
        · have hne : (x != y) = true := by rw [bne_iff_ne]; exact hxy
          go_wp2
          go_quiet (fail)
          go_wp2
          go_ret
          exact ⟨ret1b (by rw [eq_comm, decide_eq_false_iff_not]; rintro rfl; have := HX.out.symm.trans HY.out; simp at this; exact hxy this), _, World.drewN_drewN _ _ _⟩
      · have hk' : k = xs.length := by omega
        go_wp2
        go_ret
        refine ⟨ret1b ?_, n, rfl⟩
        have := HT.out
        rw [List.take_of_length_le (by omega), List.take_of_length_le (by omega)] at this
        simp [this]
  · have hle : ((xs.length : Int) != ys.length) = true := by rw [bne_iff_ne]; omega
    go_enter Tryz.func14, Tryz.ntmps14
    go_wp2
    go_ret
    exact ⟨ret1b (by rw [eq_comm, decide_eq_false_iff_not]; rintro rfl; exact hl rfl), 0, rfl⟩

/-- A row of redexes that is read. -/
def EX (w : World) (g o : Nat) (x : Rx) : Prop := w.cell? ⟨g, o, none⟩ = some (.int .i64 x.1) ∧ w.cell? ⟨g, o + 1, none⟩ = some (.int .i64 x.2)

def Xs (w : World) (v : Value) (d : List Rx) : Prop := Row EX 2 w v d

theorem Xs.kp {w w' : World} {v : Value} {d : List Rx} (h : Xs w v d) (hk : Kp w w') : Xs w' v d := Row.imp h hk.size (fun _ _ _ hx => ⟨hk.cell _ _ hx.1, hk.cell _ _ hx.2⟩)

theorem OX.xs {w : World} {base : Nat} {v : Value} {d : List Rx} (h : OX w base v d) : Xs w v d := by
  rcases h.2.2 with ⟨rfl, hn⟩ | ⟨g, cap, cur, rfl, hb, hg, hc, hm, hs, ht⟩
  · obtain rfl := List.eq_nil_of_length_eq_zero hn
    exact Row.nil (by simp [maxLen])
  · refine ⟨_, cap, rfl, hc, hm, fun _ => ⟨g, 0, rfl, (Array.getElem?_eq_some_iff.1 hg).1, fun k x hk => ?_⟩⟩
    obtain ⟨h1, h2, _⟩ := h.at hk
    exact ⟨by rw [Nat.zero_add]; exact h1, by rw [Nat.zero_add]; exact h2⟩

set_option maxHeartbeats 400000 in
theorem sameX8_any (v u : Value) (xs ys : List Rx) (w : World) (h : Xs w v xs) (h' : Xs w u ys) :
    Calls Tryz.prog 26 #[v, u] w fun e w' => e = .returned (.bool (decide (xs = ys))) ∧ ∃ n, w' = w.drewN n := by
  obtain ⟨ao, cap, rfl, hao, hca, hcl⟩ := Row.flat h
  obtain ⟨bo, cap', rfl, hbo, hcb, hcl'⟩ := Row.flat h'
  unfold maxLen at hca hcb
  clear h h'
  by_cases hl : xs.length = ys.length
  · have hle : ((xs.length : Int) != ys.length) = false := by simp; omega
    go_enter Tryz.func26, Tryz.ntmps26
    go_wp2
    go_loopw [5] (fun i wr => ∃ k : Nat, k ≤ xs.length ∧ i = .int .i64 k ∧ xs.take k = ys.take k ∧ ∃ n, wr = w.drewN n) (fun i _ => xs.length - (intOf i).toNat)
    case atStart => exact ⟨0, Nat.zero_le _, rfl, rfl, 0, rfl⟩
    case round =>
      obtain ⟨k, hk, rfl, ht, n, rfl⟩ := hrel
      have HT : Hid (xs.take k = ys.take k) := ht
      clear ht
      by_cases hlt : k < xs.length
      · obtain ⟨g, off, ⟨x1, x2⟩, rfl, hx1, hx2, hx3⟩ := hcl k hlt
        obtain ⟨g', off', ⟨y1, y2⟩, rfl, hy1, hy2, hy3⟩ := hcl' k (by omega)
        have HX := hid hx1
        have HY := hid hy1
        have hlt' : k < ys.length := by omega
        simp only at hx2 hx3 hy2 hy3
        clear hx1 hy1 hcl hcl'
        by_cases hxy : x1 = y1 ∧ x2 = y2
        · obtain ⟨rfl, rfl⟩ := hxy
          have hxx : (x1 == x1) = true := by simp
          have hxx2 : (x2 == x2) = true := by simp
          go_wp2
          go_quiet (fail)
          go_wp2
          go_roundw
          case rel => exact ⟨k + 1, by omega, by go_num, by rw [take_get HX.out, take_get HY.out, HT.out], _, rfl⟩
          case measure => simp [intOf]; omega
        · have hne : ¬ (x1 = y1 ∧ x2 = y2) := hxy
          have HNe : Hid (decide (xs = ys) = false) := by
            show _ = _
            rw [decide_eq_false_iff_not]
            rintro rfl
            have h9 := HX.out.symm.trans HY.out
            simp only [Option.some.injEq, Prod.mk.injEq] at h9
            exact hxy h9
          by_cases h1 : x1 = y1
          · subst h1
            have h2 : ¬ x2 = y2 := fun h => hxy ⟨rfl, h⟩
            have e1 : (x1 == x1) = true := by simp
            have e2 : (x2 == y2) = false := by rw [beq_eq_false_iff_ne]; exact h2
            clear hxy hne
            go_wp2
            go_quiet (fail)
            go_wp2
            go_ret
            exact ⟨ret1b HNe.out.symm, _, World.drewN_drewN _ _ _⟩
          · have e1 : (x1 == y1) = false := by rw [beq_eq_false_iff_ne]; exact h1
            clear hxy hne
            go_wp2
            go_quiet (fail)
            go_wp2
            go_ret
            exact ⟨ret1b HNe.out.symm, _, World.drewN_drewN _ _ _⟩
      · have hk' : k = xs.length := by omega
        go_wp2
        go_ret
        refine ⟨ret1b ?_, n, rfl⟩
        have := HT.out
        rw [List.take_of_length_le (by omega), List.take_of_length_le (by omega)] at this
        simp [this]
  · have hle : ((xs.length : Int) != ys.length) = true := by rw [bne_iff_ne]; omega
    go_enter Tryz.func26, Tryz.ntmps26
    go_wp2
    go_ret
    exact ⟨ret1b (by rw [eq_comm, decide_eq_false_iff_not]; rintro rfl; exact hl rfl), 0, rfl⟩

end Go.Proofs.YtgpbnbmjgcchfaaGreatDoor

/- The examples of layer 8 come out true. -/
namespace Go.Proofs.YtgpbnbmjgcchfaaGreatDoor
open Go.RowKit Go.Maps Go.BigFrame

theorem xs_lit2 (w : World) (a b c d : Int) : Xs (w.alloc (.cells #[.int .i64 a, .int .i64 b, .int .i64 c, .int .i64 d] 32)) (.slice (some ⟨w.heap.size, 0, none⟩) 2 2) [(a, b), (c, d)] := by
  refine ⟨some ⟨w.heap.size, 0, none⟩, 2, rfl, Nat.le_refl _, by unfold maxLen; omega, fun _ => ⟨w.heap.size, 0, rfl, by simp, fun k x hk => ?_⟩⟩
  match k, hk with
  | 0, hk =>
    cases hk
    exact ⟨cell_new rfl, cell_new rfl⟩
  | 1, hk =>
    cases hk
    exact ⟨cell_new rfl, cell_new rfl⟩
  | k + 2, hk => simp at hk

set_option maxRecDepth 100000 in
set_option maxHeartbeats 6400000 in
theorem shown8_any (w : World) (hT : Tabs w) :
    Calls Tryz.prog 7 #[] w fun e w' => e = .returned (.bool true) ∧ Below w.heap.size w w' := by
  have HT := hid hT
  clear hT
  go_enter Tryz.func7, Tryz.ntmps7
  go_wp2_with fail
  refine (sums_any _).mono ?_
  rintro e w1 ⟨sv1, rv1, rfl, hs1, hr1, hb1⟩
  have C1 := hid (below_step (Below.refl _ _) hb1)
  have HS1 := hid hs1
  have HR1 := hid hr1
  have J1 := hid hb1
  clear hs1 hr1 hb1
  obtain ⟨w2, hw2⟩ : ∃ X, X = w1.alloc (.cells #[.int .i64 2, .int .i64 2, .int .i64 0, .int .i64 0, .int .i64 2, .int .i64 0, .int .i64 0] 3) := ⟨_, rfl⟩
  have b2 : Below w1.heap.size w1 w2 := by rw [hw2]; exact below_alloc _
  have HL2 : Hid (Is w2 (.slice (some ⟨w1.heap.size, 0, none⟩) 7 7) [2, 2, 0, 0, 2, 0, 0]) := by rw [hw2]; exact is_new w1 [2, 2, 0, 0, 2, 0, 0] 3 (by decide) (by decide)
  have B2 := hid b2
  have J2 := hid b2
  have C2 := hid (below_step C1.out b2)
  clear b2
  go_wp2_with fail
  rw [← hw2]
  clear hw2
  refine (all_any _ _ _ sumS [sumR0, sumR1] [2, 2, 0, 0, 2, 0, 0] w2 (HS1.out.kp (Kp.of_below B2.out)) (HR1.out.kp (Kp.of_below B2.out)) HL2.out (HT.out.below C2.out) (by decide)).mono ?_
  rintro e w3 ⟨va, rfl, oa, hb3⟩
  rw [sh8_all] at oa
  have C3 := hid (below_step C2.out hb3)
  have HXa := hid oa.xs
  have J3 := hid hb3
  clear oa hb3
  go_wp2_with fail
  refine (sums_any _).mono ?_
  rintro e w4 ⟨sv4, rv4, rfl, hs4, hr4, hb4⟩
  have C4 := hid (below_step C3.out hb4)
  have HS4 := hid hs4
  have HR4 := hid hr4
  have J4 := hid hb4
  clear hs4 hr4 hb4
  obtain ⟨w5, hw5⟩ : ∃ X, X = w4.alloc (.cells #[.int .i64 2, .int .i64 0, .int .i64 2, .int .i64 1, .int .i64 0, .int .i64 0] 3) := ⟨_, rfl⟩
  have b5 : Below w4.heap.size w4 w5 := by rw [hw5]; exact below_alloc _
  have HL5 : Hid (Is w5 (.slice (some ⟨w4.heap.size, 0, none⟩) 6 6) [2, 0, 2, 1, 0, 0]) := by rw [hw5]; exact is_new w4 [2, 0, 2, 1, 0, 0] 3 (by decide) (by decide)
  have B5 := hid b5
  have J5 := hid b5
  have C5 := hid (below_step C4.out b5)
  clear b5
  go_wp2_with fail
  rw [← hw5]
  clear hw5
  refine (first_any _ _ _ sumS [sumR0, sumR1] [2, 0, 2, 1, 0, 0] w5 (HS4.out.kp (Kp.of_below B5.out)) (HR4.out.kp (Kp.of_below B5.out)) HL5.out (HT.out.below C5.out) (by decide) sh8_step2 pv_t).mono ?_
  rintro e w6 ⟨rfl, hb6⟩
  rw [sh8_first.1, sh8_first.2]
  have C6 := hid (below_step C5.out hb6)
  have J6 := hid hb6
  clear hb6
  obtain ⟨w7, hw7⟩ : ∃ X, X = w6.alloc (.cells #[.int .i64 2, .int .i64 1] 32) := ⟨_, rfl⟩
  have b7 : Below w6.heap.size w6 w7 := by rw [hw7]; exact below_alloc _
  have C7 := hid (below_step C6.out b7)
  have HBx : Hid (w7.cell? ⟨w6.heap.size, 0, none⟩ = some (.int .i64 2) ∧ w7.cell? ⟨w6.heap.size, 1, none⟩ = some (.int .i64 1)) := by rw [hw7]; exact ⟨cell_new rfl, cell_new rfl⟩
  have J7 := hid b7
  clear b7
  go_wp2_with fail
  rw [← hw7]
  clear hw7
  refine (sums_any _).mono ?_
  rintro e w8 ⟨sv8, rv8, rfl, hs8, hr8, hb8⟩
  have C8 := hid (below_step C7.out hb8)
  have HS8 := hid hs8
  have HR8 := hid hr8
  have J8 := hid hb8
  clear hs8 hr8 hb8
  obtain ⟨w9, hw9⟩ : ∃ X, X = w8.alloc (.cells #[.int .i64 1, .int .i64 0] 3) := ⟨_, rfl⟩
  have b9 : Below w8.heap.size w8 w9 := by rw [hw9]; exact below_alloc _
  have HL9 : Hid (Is w9 (.slice (some ⟨w8.heap.size, 0, none⟩) 2 2) [1, 0]) := by rw [hw9]; exact is_new w8 [1, 0] 3 (by decide) (by decide)
  have B9 := hid b9
  have J9 := hid b9
  have C9 := hid (below_step C8.out b9)
  clear b9
  go_wp2_with fail
  rw [← hw9]
  clear hw9
  refine (first_any _ _ _ sumS [sumR0, sumR1] [1, 0] w9 (HS8.out.kp (Kp.of_below B9.out)) (HR8.out.kp (Kp.of_below B9.out)) HL9.out (HT.out.below C9.out) (by decide) sh8_step3 (vs := [(1, 2), (0, 2)]) (pv_s 0)).mono ?_
  rintro e w10 ⟨rfl, hb10⟩
  rw [sh8_second]
  have C10 := hid (below_step C9.out hb10)
  have J10 := hid hb10
  clear hb10
  generalize fstV sumS [sumR0, sumR1] [1, 0] (upto _ _) = r2
  obtain ⟨w11, hw11⟩ : ∃ X, X = w10.alloc (.cells #[.int .i64 r2.1, .int .i64 r2.2] 32) := ⟨_, rfl⟩
  have b11 : Below w10.heap.size w10 w11 := by rw [hw11]; exact below_alloc _
  have C11 := hid (below_step C10.out b11)
  have J11 := hid b11
  clear b11
  go_wp2_with fail
  rw [← hw11]
  clear hw11
  refine (sums_any _).mono ?_
  rintro e w12 ⟨sv12, rv12, rfl, hs12, hr12, hb12⟩
  have C12 := hid (below_step C11.out hb12)
  have HS12 := hid hs12
  have HR12 := hid hr12
  have J12 := hid hb12
  clear hs12 hr12 hb12
  obtain ⟨w13, hw13⟩ : ∃ X, X = w12.alloc (.cells #[.int .i64 2, .int .i64 1, .int .i64 0, .int .i64 0] 3) := ⟨_, rfl⟩
  have b13 : Below w12.heap.size w12 w13 := by rw [hw13]; exact below_alloc _
  have HL13 : Hid (Is w13 (.slice (some ⟨w12.heap.size, 0, none⟩) 4 4) [2, 1, 0, 0]) := by rw [hw13]; exact is_new w12 [2, 1, 0, 0] 3 (by decide) (by decide)
  have B13 := hid b13
  have J13 := hid b13
  have C13 := hid (below_step C12.out b13)
  clear b13
  go_wp2_with fail
  rw [← hw13]
  clear hw13
  refine (do_any _ _ _ sumS [sumR0, sumR1] [2, 1, 0, 0] 0 1 w13 (HS12.out.kp (Kp.of_below B13.out)) (HR12.out.kp (Kp.of_below B13.out)) HL13.out (HT.out.below C13.out) (by decide) (by decide) (by decide) (by decide) (by decide)).mono ?_
  rintro e w14 ⟨vd14, rfl, od14, hb14⟩
  rw [sh8_do1] at od14 ⊢
  have C14 := hid (below_step C13.out hb14)
  have HD14 := hid od14.is
  have J14 := hid hb14
  clear od14 hb14
  go_wp2_with fail
  refine (sums_any _).mono ?_
  rintro e w15 ⟨sv15, rv15, rfl, hs15, hr15, hb15⟩
  have C15 := hid (below_step C14.out hb15)
  have HS15 := hid hs15
  have HR15 := hid hr15
  have J15 := hid hb15
  clear hs15 hr15 hb15
  obtain ⟨w16, hw16⟩ : ∃ X, X = w15.alloc (.cells #[.int .i64 2, .int .i64 1, .int .i64 0, .int .i64 0] 3) := ⟨_, rfl⟩
  have b16 : Below w15.heap.size w15 w16 := by rw [hw16]; exact below_alloc _
  have HL16 : Hid (Is w16 (.slice (some ⟨w15.heap.size, 0, none⟩) 4 4) [2, 1, 0, 0]) := by rw [hw16]; exact is_new w15 [2, 1, 0, 0] 3 (by decide) (by decide)
  have B16 := hid b16
  have J16 := hid b16
  have C16 := hid (below_step C15.out b16)
  clear b16
  go_wp2_with fail
  rw [← hw16]
  clear hw16
  refine (do_any _ _ _ sumS [sumR0, sumR1] [2, 1, 0, 0] 0 0 w16 (HS15.out.kp (Kp.of_below B16.out)) (HR15.out.kp (Kp.of_below B16.out)) HL16.out (HT.out.below C16.out) (by decide) (by decide) (by decide) (by decide) (by decide)).mono ?_
  rintro e w17 ⟨vd17, rfl, od17, hb17⟩
  rw [sh8_do2] at od17 ⊢
  have C17 := hid (below_step C16.out hb17)
  have HD17 := hid od17.is
  have J17 := hid hb17
  clear od17 hb17
  go_wp2_with fail
  refine (sums_any _).mono ?_
  rintro e w18 ⟨sv18, rv18, rfl, hs18, hr18, hb18⟩
  have C18 := hid (below_step C17.out hb18)
  have HS18 := hid hs18
  have HR18 := hid hr18
  have J18 := hid hb18
  clear hs18 hr18 hb18
  obtain ⟨w19, hw19⟩ : ∃ X, X = w18.alloc (.cells #[.int .i64 2, .int .i64 1, .int .i64 0, .int .i64 0] 3) := ⟨_, rfl⟩
  have b19 : Below w18.heap.size w18 w19 := by rw [hw19]; exact below_alloc _
  have HL19 : Hid (Is w19 (.slice (some ⟨w18.heap.size, 0, none⟩) 4 4) [2, 1, 0, 0]) := by rw [hw19]; exact is_new w18 [2, 1, 0, 0] 3 (by decide) (by decide)
  have B19 := hid b19
  have J19 := hid b19
  have C19 := hid (below_step C18.out b19)
  clear b19
  go_wp2_with fail
  rw [← hw19]
  clear hw19
  refine (do_any _ _ _ sumS [sumR0, sumR1] [2, 1, 0, 0] 4 1 w19 (HS18.out.kp (Kp.of_below B19.out)) (HR18.out.kp (Kp.of_below B19.out)) HL19.out (HT.out.below C19.out) (by decide) (by decide) (by decide) (by decide) (by decide)).mono ?_
  rintro e w20 ⟨vd20, rfl, od20, hb20⟩
  rw [sh8_do3] at od20 ⊢
  have C20 := hid (below_step C19.out hb20)
  have HD20 := hid od20.is
  have J20 := hid hb20
  clear od20 hb20
  go_wp2_with fail
  refine (sums_any _).mono ?_
  rintro e w21 ⟨sv21, rv21, rfl, hs21, hr21, hb21⟩
  have C21 := hid (below_step C20.out hb21)
  have HS21 := hid hs21
  have HR21 := hid hr21
  have J21 := hid hb21
  clear hs21 hr21 hb21
  obtain ⟨w22, hw22⟩ : ∃ X, X = w21.alloc (.cells #[.int .i64 2, .int .i64 1, .int .i64 0, .int .i64 0] 3) := ⟨_, rfl⟩
  have b22 : Below w21.heap.size w21 w22 := by rw [hw22]; exact below_alloc _
  have HL22 : Hid (Is w22 (.slice (some ⟨w21.heap.size, 0, none⟩) 4 4) [2, 1, 0, 0]) := by rw [hw22]; exact is_new w21 [2, 1, 0, 0] 3 (by decide) (by decide)
  have B22 := hid b22
  have J22 := hid b22
  have C22 := hid (below_step C21.out b22)
  clear b22
  go_wp2_with fail
  rw [← hw22]
  clear hw22
  refine (do_any _ _ _ sumS [sumR0, sumR1] [2, 1, 0, 0] 0 2 w22 (HS21.out.kp (Kp.of_below B22.out)) (HR21.out.kp (Kp.of_below B22.out)) HL22.out (HT.out.below C22.out) (by decide) (by decide) (by decide) (by decide) (by decide)).mono ?_
  rintro e w23 ⟨vd23, rfl, od23, hb23⟩
  rw [sh8_do4] at od23 ⊢
  have C23 := hid (below_step C22.out hb23)
  have HD23 := hid od23.is
  have J23 := hid hb23
  clear od23 hb23
  obtain ⟨w24, hw24⟩ : ∃ X, X = w23.alloc (.cells #[.int .i64 1, .int .i64 0, .int .i64 4, .int .i64 0] 32) := ⟨_, rfl⟩
  have b24 : Below w23.heap.size w23 w24 := by rw [hw24]; exact below_alloc _
  have HXl : Hid (Xs w24 (.slice (some ⟨w23.heap.size, 0, none⟩) 2 2) [(1, 0), (4, 0)]) := by rw [hw24]; exact xs_lit2 _ _ _ _ _
  have J24 := hid b24
  clear b24
  have HXa2 := hid (HXa.out.kp (Kp.of_below (below_step (below_step (below_step (below_step (below_step (below_step (below_step (below_step (below_step (below_step (below_step (below_step (below_step (below_step (below_step (below_step (below_step (below_step (below_step (below_step J4.out J5.out) J6.out) J7.out) J8.out) J9.out) J10.out) J11.out) J12.out) J13.out) J14.out) J15.out) J16.out) J17.out) J18.out) J19.out) J20.out) J21.out) J22.out) J23.out) J24.out)))
  go_wp2_with fail
  rw [← hw24]
  clear hw24
  refine (sameX8_any _ _ _ _ w24 HXa2.out HXl.out).mono ?_
  rintro e w25 ⟨rfl, n25, hw25⟩
  have J25 := hid (drawn_below hw25)
  clear hw25
  rw [decide_eq_true rfl]
  obtain ⟨z0, z1⟩ := HBx.out
  have y0 := (Kp.of_below (below_step (below_step (below_step (below_step (below_step (below_step (below_step (below_step (below_step (below_step (below_step (below_step (below_step (below_step (below_step (below_step (below_step J8.out J9.out) J10.out) J11.out) J12.out) J13.out) J14.out) J15.out) J16.out) J17.out) J18.out) J19.out) J20.out) J21.out) J22.out) J23.out) J24.out) J25.out)).cell _ _ z0
  have y1 := (Kp.of_below (below_step (below_step (below_step (below_step (below_step (below_step (below_step (below_step (below_step (below_step (below_step (below_step (below_step (below_step (below_step (below_step (below_step J8.out J9.out) J10.out) J11.out) J12.out) J13.out) J14.out) J15.out) J16.out) J17.out) J18.out) J19.out) J20.out) J21.out) J22.out) J23.out) J24.out) J25.out)).cell _ _ z1
  clear z0 z1
  obtain ⟨w26, hw26⟩ : ∃ X, X = w25.alloc (.cells #[.int .i64 1, .int .i64 2, .int .i64 0, .int .i64 0] 3) := ⟨_, rfl⟩
  have b26 : Below w25.heap.size w25 w26 := by rw [hw26]; exact below_alloc _
  have HLq : Hid (Is w26 (.slice (some ⟨w25.heap.size, 0, none⟩) 4 4) [1, 2, 0, 0]) := by rw [hw26]; exact is_new w25 [1, 2, 0, 0] 3 (by decide) (by decide)
  have J26 := hid b26
  clear b26
  have HDt := hid (HD14.out.kp (Kp.of_below (below_step (below_step (below_step (below_step (below_step (below_step (below_step (below_step (below_step (below_step (below_step J15.out J16.out) J17.out) J18.out) J19.out) J20.out) J21.out) J22.out) J23.out) J24.out) J25.out) J26.out)))
  go_wp2_with fail
  rw [← hw26]
  clear hw26
  refine (sameRow8_any _ _ _ _ w26 HDt.out HLq.out).mono ?_
  rintro e w27 ⟨rfl, n27, hw27⟩
  have J27 := hid (drawn_below hw27)
  clear hw27
  rw [decide_eq_true rfl]
  have Cf := hid (below_step C23.out (below_step (below_step (below_step J24.out J25.out) J26.out) J27.out))
  clear y0 y1
  go_wp2
  go_ret
  exact ⟨rfl, Cf.out⟩

end Go.Proofs.YtgpbnbmjgcchfaaGreatDoor

/- What the document's Laid answers with another bound. -/
namespace Go.Proofs.YtgpbnbmjgcchfaaGreatDoor
open Go.RowKit Go.Maps Go.BigFrame

/-- Laid, as far as a bound. -/
def layM (m : Nat) (f : Int → Option (List Int)) : List Int → List Int → Option (List Int)
  | a, [] => some a
  | a, c :: r => if m < a.length + (piece f c).length then none else layM m f (a ++ piece f c) r

theorem layM_eq (m : Nat) (f : Int → Option (List Int)) : ∀ (t a : List Int), a.length ≤ m → layM m f a t = if m < (a ++ laidL f t).length then none else some (a ++ laidL f t)
  | [], a, ha => by
    have : laidL f [] = [] := rfl
    rw [this, List.append_nil, if_neg (by omega)]
    rfl
  | c :: t, a, ha => by
    have e : laidL f (c :: t) = piece f c ++ laidL f t := by
      unfold laidL
      rw [List.flatMap_cons]
    rw [layM, e]
    by_cases h : m < a.length + (piece f c).length
    · rw [if_pos h, if_pos (by simp; omega)]
    · rw [if_neg h, layM_eq m f t (a ++ piece f c) (by simp; omega), List.append_assoc]

end Go.Proofs.YtgpbnbmjgcchfaaGreatDoor

/- The document's Do of layer 8 walked. -/
namespace Go.Proofs.YtgpbnbmjgcchfaaGreatDoor
open Go.RowKit Go.Maps Go.BigFrame

theorem binds_look8 (f : Int → Option (List Int)) (l : List Int) (n : Int) : (bindsL f l).lookup n = bnd (bindsL f l) n := by
  unfold bnd
  refine look_rise ?_ n
  unfold bindsL
  exact List.Pairwise.map _ (fun a b h => h) (sortI_rise (vars_once l))

/-- The rest of a row, as a slice. -/
theorem is_tail {w : World} {g o y c : Nat} {t : List Int} (h : Is w (.slice (some ⟨g, o, none⟩) t.length c) t) (hy : y ≤ t.length) (hc : t.length ≤ c) : Is w (.slice (if c = y then some ⟨g, o, none⟩ else some ⟨g, o + y, none⟩) (t.length - y) (c - y)) (t.drop y) := by
  by_cases h1 : y < t.length
  · rw [if_neg (by omega)]
    have h9 := h.mid (k := y) (m := t.length - y) h1 (by omega)
    rw [List.take_of_length_le (by rw [List.length_drop]; exact Nat.le_refl _)] at h9
    exact h9
  · have e : t.drop y = [] := List.drop_of_length_le (by omega)
    rw [e, show t.length - y = 0 by omega]
    obtain ⟨_, _, hv, _, hm, _⟩ := h
    simp only [Value.slice.injEq] at hv
    exact Row.nil (by have := hv.2.2; omega)

theorem place_out {sig : List Sy} {t : List Int} {p : Int} (ht : termE sig t = 0) (h : p < 0 ∨ (t.length : Int) ≤ p) : placeE sig t p = 33 := by
  unfold placeE endP
  rw [if_pos ht, if_pos h]

end Go.Proofs.YtgpbnbmjgcchfaaGreatDoor

/- StepDoes walked. -/
namespace Go.Proofs.YtgpbnbmjgcchfaaGreatDoor
open Go.RowKit Go.Maps Go.BigFrame

theorem repl_few (sig : List Sy) (t u : List Int) (p : Int) : (replL sig t p u).length ≤ 512 := by
  unfold replL
  by_cases h : replE sig t p u = 0
  · rw [if_pos h]
    unfold replE at h
    split at h
    · split at h
      · split at h
        · split at h
          · omega
          · rename_i h9
            rw [List.length_append, List.length_append, List.length_take, List.length_drop]
            omega
        · contradiction
      · contradiction
    · contradiction
  · rw [if_neg h]
    simp

theorem doR_few (sig : List Sy) (rs : List Rl) (t : List Int) (p k : Int) : (doR sig rs t p k).1.length ≤ 512 := by
  unfold doR
  split
  · split
    · split
      · simp
      · split
        · simp
        · unfold doK
          split
          · split
            · exact repl_few _ _ _ _
            · simp
          · simp
    · simp
  · simp

end Go.Proofs.YtgpbnbmjgcchfaaGreatDoor

/- check and Along of package walk walked. -/
namespace Go.Proofs.YtgpbnbmjgcchfaaGreatDoor
open Go.RowKit Go.Maps Go.BigFrame

theorem sigGo_not (sig : List Sy) : ∀ (r : List Sy) (k : Nat), sigGo sig k r ≠ 33
  | [], _ => by unfold sigGo; decide
  | s :: r, k => by
    unfold sigGo
    split
    · split
      · decide
      · split
        · decide
        · exact sigGo_not sig r (k + 1)
    · decide

theorem sigE_not (sig : List Sy) : sigE sig ≠ 33 := by
  unfold sigE
  split
  · decide
  · exact sigGo_not sig sig 0

theorem firstT_not (sig : List Sy) : ∀ (t : List Int) (m : Int) (i : Nat), (firstT sig m i t).2 ≠ 33
  | [], _, _ => by unfold firstT; decide
  | c :: t, m, i => by
    unfold firstT
    cases codeD sig c with
    | none => simp
    | some e =>
      simp only
      split
      · simp
      · exact firstT_not sig t (m + e) (i + 1)

theorem termE_not (sig : List Sy) (t : List Int) : termE sig t ≠ 33 := by
  unfold termE
  split
  · unfold rowE
    split
    · decide
    · exact firstT_not sig t 1 0
  · exact sigE_not sig

theorem ruleE_not (sig : List Sy) (r : Rl) : ruleE sig r ≠ 33 := by
  unfold ruleE
  split
  · split
    · split
      · decide
      · split
        · decide
        · split
          · decide
          · decide
    · exact termE_not sig r.2
  · exact termE_not sig r.1

theorem rulesGo_not (sig : List Sy) : ∀ (rs : List Rl) (k : Nat), (rulesGo sig k rs).1 ≠ 33
  | [], _ => by unfold rulesGo; decide
  | r :: rs, k => by
    unfold rulesGo
    split
    · exact rulesGo_not sig rs (k + 1)
    · exact ruleE_not sig r

theorem stepE_not (sig : List Sy) (rs : List Rl) (t : List Int) : stepE sig rs t ≠ 33 := by
  unfold stepE
  split
  · exact termE_not sig t
  · unfold sysE
    split
    · exact rulesGo_not sig rs 0
    · unfold aheadE
      split
      · split
        · decide
        · split
          · decide
          · split
            · decide
            · decide
      · exact sigE_not sig

theorem do_ask (sig : List Sy) (rs : List Rl) (t : List Int) : (doR sig rs t (-1) 0).2 = if stepE sig rs t = 0 then 33 else stepE sig rs t := by
  unfold doR
  by_cases h : stepE sig rs t = 0
  · have hp : placeE sig t (-1) = 33 := by rw [place_eq (stepE_zero h).2, if_pos (.inl (by omega))]
    rw [if_pos h, if_pos h, hp, if_neg (by decide)]
  · rw [if_neg h, if_neg h]

set_option maxRecDepth 100000 in
set_option maxHeartbeats 1600000 in
theorem wcheck_any (sv rv tv : Value) (sig : List Sy) (rs : List Rl) (t : List Int) (w : World) (hs : Sg w sv sig) (hr : RU w rv rs) (ht : Is w tv t) (hT : Tabs w) (htl : t.length ≤ 1048576) :
    Calls Tryz.prog 50 #[.agg #[sv, rv], tv] w fun e w' => e = .returned (.int .i64 (stepE sig rs t)) ∧ Below w.heap.size w w' := by
  obtain ⟨so, sc, rfl, hso, hsc, _⟩ := Row.flat hs
  obtain ⟨ro, rc, rfl, hro, hrc, _⟩ := Row.flat hr
  have HS := hid hs
  have HR := hid hr
  have HTt := hid ht
  have HT := hid hT
  clear hs hr ht hT
  obtain ⟨w0, hw0⟩ : ∃ X, X = w.alloc (.cells #[.slice so sig.length sc, .slice ro rs.length rc] 25) := ⟨_, rfl⟩
  have C0 : Hid (Below w.heap.size w w0) := by rw [hw0]; exact below_alloc _
  have h9 := do_any _ _ _ sig rs t (-1) 0 w0 (HS.out.kp (Kp.of_below C0.out)) (HR.out.kp (Kp.of_below C0.out)) (HTt.out.kp (Kp.of_below C0.out)) (HT.out.below C0.out) htl (by omega) (by omega) (by omega) (by omega)
  rw [do_ask] at h9
  have HDo := hid h9
  have HN := hid (stepE_not sig rs t)
  clear h9
  go_enter Tryz.func50, Tryz.ntmps50
  go_wp2_with fail
  rw [← hw0]
  clear hw0
  refine HDo.out.mono ?_
  rintro e w1 ⟨v1, rfl, _, hb1⟩
  have C1 := hid (below_step C0.out hb1)
  clear hb1
  by_cases he : stepE sig rs t = 0
  · rw [if_pos he]
    have HE := hid he
    clear he
    go_wp2
    go_ret
    exact ⟨ret1i HE.out.symm, C1.out⟩
  · rw [if_neg he]
    have hne : (stepE sig rs t == 33) = false := by rw [beq_eq_false_iff_ne]; exact HN.out
    go_wp2
    go_ret
    exact ⟨rfl, C1.out⟩

/-- What Along answers. -/
noncomputable def alongA (sig : List Sy) (rs : List Rl) (t : List Int) (l : List Rx) : List Int × Int × Int :=
  if stepE sig rs t = 0 then (if 512 < t.length then ([], 2, 0) else alongR sig rs 0 t l) else ([], stepE sig rs t, 0)

theorem along_done {a b c d : Int} {L M : List Int} (h : (M, b, d) = (L, a, c)) {w : World} {base : Nat} {v : Value} (ho : OwI w base v L) {B : Prop} (hb : B) : ∃ v', Ending.returned (.tuple #[v, .int .i64 a, .int .i64 c]) = .returned (.tuple #[v', .int .i64 (M, b, d).2.1, .int .i64 (M, b, d).2.2]) ∧ OwI w base v' (M, b, d).1 ∧ B := by
  cases h
  exact ⟨v, rfl, ho, hb⟩

end Go.Proofs.YtgpbnbmjgcchfaaGreatDoor

/- A row of redexes that is read at a place; members of All's row. -/
namespace Go.Proofs.YtgpbnbmjgcchfaaGreatDoor
open Go.RowKit Go.Maps Go.BigFrame

theorem Xs.at {w : World} {ao : Option Addr} {n c k : Nat} {d : List Rx} (h : Xs w (.slice ao n c) d) (hk : k < d.length) : ∃ (g off : Nat) (x1 x2 : Int), ao = some ⟨g, off, none⟩ ∧ d[k]? = some (x1, x2) ∧ w.cell? ⟨g, off + k * 2, none⟩ = some (.int .i64 x1) ∧ w.cell? ⟨g, off + k * 2 + 1, none⟩ = some (.int .i64 x2) := by
  obtain ⟨ao', cap, e, _, _, hh⟩ := h
  cases e
  obtain ⟨g, off, rfl, _, hE⟩ := hh (by omega)
  have hx : d[k]? = some d[k] := List.getElem?_eq_getElem hk
  obtain ⟨h1, h2⟩ := hE k _ hx
  exact ⟨g, off, d[k].1, d[k].2, rfl, hx, h1, h2⟩

theorem any_end {α : Type} [BEq α] [LawfulBEq α] {l : List α} {x : α} (h : x ∈ l) : l.any (· == x) = true := by
  rw [List.any_eq_true]
  exact ⟨x, h, by simp⟩

theorem any_take {α : Type} {l : List α} {p : α → Bool} {k : Nat} {x : α} (h : l[k]? = some x) : (l.take (k + 1)).any p = ((l.take k).any p || p x) := by
  rw [List.take_add_one, h, Option.toList_some, List.any_append]
  simp

/-- What the redexes of all are. -/
theorem allR_mem {sig : List Sy} {rs : List Rl} {t : List Int} {y : Rx} (h : y ∈ allR sig rs t) : stepE sig rs t = 0 ∧ y ∈ allL sig rs t := by
  unfold allR at h
  split at h
  · rename_i he
    exact ⟨he, h⟩
  · cases h

theorem allR_of {sig : List Sy} {rs : List Rl} {t : List Int} (h : stepE sig rs t = 0) : allR sig rs t = allL sig rs t := by
  unfold allR
  rw [if_pos h]

end Go.Proofs.YtgpbnbmjgcchfaaGreatDoor

/- step.First by the plain first redex. -/
namespace Go.Proofs.YtgpbnbmjgcchfaaGreatDoor
open Go.RowKit Go.Maps Go.BigFrame

theorem first_any2 (sv rv tv : Value) (sig : List Sy) (rs : List Rl) (t : List Int) (w : World) (hs : Sg w sv sig) (hr : RU w rv rs) (ht : Is w tv t) (hT : Tabs w) (htl : t.length ≤ 1048576) (he : stepE sig rs t = 0) :
    Calls Tryz.prog 23 #[.agg #[sv, rv], tv] w fun e w' => ∃ p k : Int, e = .returned (.tuple #[.agg #[.int .i64 p, .int .i64 k], .bool (fsO sig rs t).isSome]) ∧ (∀ z, fsO sig rs t = some z → z = (p, k)) ∧ Below w.heap.size w w' := by
  have hte := (stepE_zero he).2
  obtain ⟨vs, hpv⟩ := pv_any (sig_arOk (term_parts hte).1) t.length t 0 (Nat.le_refl _) (term_parts hte).2
  refine (first_any sv rv tv sig rs t w hs hr ht hT htl he hpv).mono ?_
  rintro e w' ⟨rfl, hb⟩
  have h9 := fsO_eq (rs := rs) hpv
  refine ⟨(fstV sig rs t (upto (stopF sig rs t) vs)).1, (fstV sig rs t (upto (stopF sig rs t) vs)).2, ?_, fun z hz => ?_, hb⟩
  · rw [h9]
    cases hv : vs.any (stopF sig rs t) with
    | true => rw [if_pos rfl]; rfl
    | false => rw [if_neg (by simp)]; rfl
  · rw [h9] at hz
    split at hz
    · cases hz
      rfl
    · cases hz

/-- What Walk answers. -/
noncomputable def walkR (sig : List Sy) (rs : List Rl) (t : List Int) (m : Int) : (List Rx × List Int × Bool) × Int :=
  if stepE sig rs t = 0 then (if m < 0 ∨ 4096 < m then (([], [], false), 1) else if 512 < t.length then (([], [], false), 2) else match goW sig rs m.toNat t with | some r => (r, 0) | none => (([], [], false), 2)) else (([], [], false), stepE sig rs t)

theorem walk_done {w : World} {R : (List Rx × List Int × Bool) × Int} {S : List Rx} {E : List Int} {b : Bool} {e : Int} (h : R = ((S, E, b), e)) {Sv Ev : Value} (h1 : Xs w Sv S) (h2 : RxOk S) (h3 : Is w Ev E) {B : Prop} (hb : B) :
    ∃ Sv' Ev', Ending.returned (.tuple #[.agg #[Sv, Ev, .bool b], .int .i64 e]) = .returned (.tuple #[.agg #[Sv', Ev', .bool R.1.2.2], .int .i64 R.2]) ∧ Xs w Sv' R.1.1 ∧ RxOk R.1.1 ∧ Is w Ev' R.1.2.1 ∧ B := by
  subst h
  exact ⟨Sv, Ev, rfl, h1, h2, h3, hb⟩

theorem walk_none {w : World} {R : (List Rx × List Int × Bool) × Int} {e : Int} (h : R = (([], [], false), e)) {B : Prop} (hb : B) :
    ∃ Sv' Ev', Ending.returned (.tuple #[.agg #[.slice none 0 0, .slice none 0 0, .bool false], .int .i64 e]) = .returned (.tuple #[.agg #[Sv', Ev', .bool R.1.2.2], .int .i64 R.2]) ∧ Xs w Sv' R.1.1 ∧ RxOk R.1.1 ∧ Is w Ev' R.1.2.1 ∧ B :=
  walk_done h (Row.nil (by simp [maxLen])) (fun y hy => by cases hy) (Row.nil (by simp [maxLen])) hb

end Go.Proofs.YtgpbnbmjgcchfaaGreatDoor
