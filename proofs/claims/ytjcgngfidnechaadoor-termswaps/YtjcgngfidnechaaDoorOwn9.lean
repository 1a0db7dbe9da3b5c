/- What is laid into a place is found there, and two places apart don't disturb each other: TermSwaps walked for every two rows and every two places. -/
import Derived.Test.YtjcgngfidnechaaDoorOwn8
namespace Go.Proofs.YtjcgngfidnechaaDoor
open Go.RowKit Go.Maps Go.BigFrame

set_option maxRecDepth 100000 in
theorem which_any (c : Int) (n : Nat) (hn : 0 < n) (h1 : -9223372036854775808 ≤ c) (h2 : c ≤ 9223372036854775807) (w : World) :
    Calls Tryd.prog 28 #[.int .i64 c, .int .i64 n] w fun e w' => e = .returned (.int .i64 (whichN c n : Int)) ∧ w' = w := by
  have hn0 : ((n : Int) == 0) = false := by rw [beq_eq_false_iff_ne]; omega
  by_cases hc : c < 0
  · have e1 : IntKind.i64.wrap (c + 1) = c + 1 := IntWalk.i64_in _ ⟨by omega, by omega⟩
    have e2 : IntKind.i64.wrap (-(c + 1)) = -(c + 1) := IntWalk.i64_in _ ⟨by omega, by omega⟩
    go_enter Tryd.func28, Tryd.ntmps28
    have e3 : -(c + 1).tmod (n : Int) = (whichN c n : Int) := by
      unfold whichN
      rw [if_pos hc, ← Int.neg_tmod, Int.tmod_eq_emod_of_nonneg (by omega), Int.toNat_of_nonneg (Int.emod_nonneg _ (by omega))]
    go_wp2
    go_ret
    exact ⟨rfl, rfl⟩
  · go_enter Tryd.func28, Tryd.ntmps28
    have e3 : c.tmod (n : Int) = (whichN c n : Int) := by
      unfold whichN
      rw [if_neg hc, Int.tmod_eq_emod_of_nonneg (by omega), Int.toNat_of_nonneg (Int.emod_nonneg _ (by omega))]
    go_wp2
    go_ret
    exact ⟨rfl, rfl⟩

set_option maxRecDepth 100000 in
set_option maxHeartbeats 6400000 in
theorem termSwaps_any (sv tv uv : Value) (sig : List Sy) (t u : List Int) (x y : Int) (w : World) (hs : Sg w sv sig) (h : Is w tv t) (hu : Is w uv u) (hT : Tabs w) (hb : t.length * 8 ≤ 140737488351232) (hbu : u.length * 8 ≤ 140737488351232)
    (hx : -9223372036854775808 ≤ x ∧ x ≤ 9223372036854775807) (hy : -9223372036854775808 ≤ y ∧ y ≤ 9223372036854775807) :
    Calls Tryd.prog 8 #[sv, .agg #[tv, uv], .agg #[.int .i64 x, .int .i64 y]] w fun e w' => e = .returned (.bool true) ∧ Below w.heap.size w w' := by
  obtain ⟨ao, cap, rfl, hao, hca, _⟩ := Row.flat h
  obtain ⟨uo, uc, rfl, huo, hcu, _⟩ := Row.flat hu
  unfold maxLen at hca hcu
  obtain ⟨hx1, hx2⟩ := hx
  obtain ⟨hy1, hy2⟩ := hy
  have HS := hid hs
  have HT := hid hT
  have HI := hid h
  have HU := hid hu
  clear hs hT h hu
  have C1 : Hid (Below w.heap.size w ((w.alloc (.cells #[.slice ao t.length cap, .slice uo u.length uc] 36)).alloc (.cells #[.int .i64 x, .int .i64 y] 41))) := below_step (below_alloc _) (below_alloc _)
  have CB : Hid (((w.alloc (.cells #[.slice ao t.length cap, .slice uo u.length uc] 36)).alloc (.cells #[.int .i64 x, .int .i64 y] 41)).cell? ⟨w.heap.size, 0, none⟩ = some (.slice ao t.length cap) ∧ ((w.alloc (.cells #[.slice ao t.length cap, .slice uo u.length uc] 36)).alloc (.cells #[.int .i64 x, .int .i64 y] 41)).cell? ⟨w.heap.size, 1, none⟩ = some (.slice uo u.length uc) ∧
      ((w.alloc (.cells #[.slice ao t.length cap, .slice uo u.length uc] 36)).alloc (.cells #[.int .i64 x, .int .i64 y] 41)).cell? ⟨w.heap.size + 1, 0, none⟩ = some (.int .i64 x) ∧ ((w.alloc (.cells #[.slice ao t.length cap, .slice uo u.length uc] 36)).alloc (.cells #[.int .i64 x, .int .i64 y] 41)).cell? ⟨w.heap.size + 1, 1, none⟩ = some (.int .i64 y)) :=
    ⟨cell_old (cell_new rfl), cell_old (cell_new rfl), cell_newg (by simp) rfl, cell_newg (by simp) rfl⟩
  go_enter Tryd.func8, Tryd.ntmps8
  go_wp2_with fail
  refine (shown3_any _ (HT.out.below C1.out)).mono ?_
  rintro e w2 ⟨rfl, hb2⟩
  have C2 := hid hb2
  clear hb2
  have hc0 : w2.cell? ⟨w.heap.size, 0, none⟩ = some (.slice ao t.length cap) := (Kp.of_below C2.out).cell _ _ CB.out.1
  have hc1 : w2.cell? ⟨w.heap.size, 1, none⟩ = some (.slice uo u.length uc) := (Kp.of_below C2.out).cell _ _ CB.out.2.1
  go_wp2
  go_quiet (fail)
  clear hc0 hc1
  have C3 : Hid (Below w2.heap.size w2 (w2.drewN nq)) := below_drewN (Below.refl _ _) nq
  go_wp2_with fail
  refine (refCheck_any sv _ sig t _ (HS.out.kp (Kp.of_below (below_step (below_step C1.out C2.out) C3.out))) (HI.out.kp (Kp.of_below (below_step (below_step C1.out C2.out) C3.out))) (by omega)).mono ?_
  rintro e w4 ⟨rfl, hb4⟩
  have C4 := hid hb4
  clear hb4
  go_wp2_with fail
  refine (refCheck_any sv _ sig u _ (HS.out.kp (Kp.of_below (below_step (below_step (below_step C1.out C2.out) C3.out) C4.out))) (HU.out.kp (Kp.of_below (below_step (below_step (below_step C1.out C2.out) C3.out) C4.out))) (by omega)).mono ?_
  rintro e w5 ⟨rfl, hb5⟩
  have C5 := hid hb5
  clear hb5
  have B5 := hid (below_step (below_step (below_step (below_step C1.out C2.out) C3.out) C4.out) C5.out)
  by_cases hte : termE sig t = 0
  · by_cases hue : termE sig u = 0
    · have HTe := hid hte
      have HUr := hid (term_parts hue).2
      have htl := right_len (term_parts hte).2
      obtain ⟨P, V, R, ht, hPl, hVl, hV⟩ := split_place hte (which_lt x t.length htl)
      have hkl := which_lt y t.length htl
      have HWk := hid (which_any y t.length htl hy1 hy2)
      have HWi := hid (which_any x t.length htl hx1 hx2)
      obtain ⟨i, hi⟩ : ∃ i, i = whichN x t.length := ⟨_, rfl⟩
      obtain ⟨k, hk⟩ : ∃ k, k = whichN y t.length := ⟨_, rfl⟩
      rw [← hi] at HWi hPl
      rw [← hk] at HWk hkl
      have HPl := hid hPl
      have HTt := hid ht
      have HVr := hid hV
      have HTl : Hid (t.length = i + V.length + R.length) := by show _ = _; rw [ht]; simp only [List.length_append]; omega
      have HA := hid (sigE_ok (term_parts hte).1)
      have HSub := hid (sub_at (q := R) hte hV ht)
      have hrm := repl_mid (u := u) (by rw [← ht]; exact hte) hV HUr.out
      rw [← ht] at hrm
      rw [hPl] at HSub hrm
      have HRm := hid hrm
      have hvpos := right_len hV
      rw [hte, hue]
      clear hi hk ht hPl hVl hV hrm hte hue
      have hd0 : w5.cell? ⟨w.heap.size + 1, 0, none⟩ = some (.int .i64 x) := (Kp.of_below (below_step (below_step (below_step C2.out C3.out) C4.out) C5.out)).cell _ _ CB.out.2.2.1
      have hd1 : w5.cell? ⟨w.heap.size + 1, 1, none⟩ = some (.int .i64 y) := (Kp.of_below (below_step (below_step (below_step C2.out C3.out) C4.out) C5.out)).cell _ _ CB.out.2.2.2
      go_wp2_with fail
      refine (HWi.out w5).mono ?_
      rintro e w9 ⟨rfl, hw9⟩
      have hw8 := hw9.symm
      subst hw8
      clear hw9
      go_wp2_with fail
      refine (HWk.out w5).mono ?_
      rintro e w9 ⟨rfl, hw9⟩
      have hw8 := hw9.symm
      subst hw8
      clear hw9
      clear hd0 hd1 HWi HWk
      have hit : i < t.length := by have := HTl.out; have := HPl.out; omega
      go_wp2_with fail
      refine (sub_any sv _ sig t i _ (HS.out.kp (Kp.of_below (below_step (below_step (below_step (below_step C1.out C2.out) C3.out) C4.out) C5.out))) (HI.out.kp (Kp.of_below (below_step (below_step (below_step (below_step C1.out C2.out) C3.out) C4.out) C5.out))) (HT.out.below (below_step (below_step (below_step (below_step C1.out C2.out) C3.out) C4.out) C5.out)) (by omega) (by omega) (by omega)).mono ?_
      rintro e w6 ⟨vw, rfl, ho, hb6⟩
      have C6 := hid hb6
      rw [HSub.out.1]
      rw [HSub.out.2] at ho
      obtain ⟨wo, wc, rfl, hwc1, hwc2⟩ := ho.shape
      unfold maxLen at hwc2
      clear hb6
      have OW := hid ho
      have UW : Hid (∀ j, Value.ownBlock (.slice wo V.length wc) = some j → j < w6.heap.size) := fun j hj => own_blk_lt ho.2 hj
      clear ho
      go_wp2_with fail
      refine (replace_any sv _ _ sig t u i _ (HS.out.kp (Kp.of_below (below_step (below_step (below_step (below_step (below_step C1.out C2.out) C3.out) C4.out) C5.out) C6.out))) (HI.out.kp (Kp.of_below (below_step (below_step (below_step (below_step (below_step C1.out C2.out) C3.out) C4.out) C5.out) C6.out))) (HU.out.kp (Kp.of_below (below_step (below_step (below_step (below_step (below_step C1.out C2.out) C3.out) C4.out) C5.out) C6.out))) (HT.out.below (below_step (below_step (below_step (below_step (below_step C1.out C2.out) C3.out) C4.out) C5.out) C6.out)) (by omega) (by omega) (by omega) (by omega)).mono ?_
      rintro e w7 ⟨vx, rfl, ho, hb7⟩
      have C7 := hid hb7
      rw [HRm.out.1]
      rw [HRm.out.2] at ho
      clear hb7
      have hw1 : IntKind.i64.wrap ((t.length : Int) - (V.length : Int)) = (t.length : Int) - (V.length : Int) := IntWalk.i64_in _ ⟨by have := HTl.out; omega, by have := HTl.out; omega⟩
      have hw2 : IntKind.i64.wrap ((t.length : Int) - (V.length : Int) + (u.length : Int)) = ((i + u.length + R.length : Nat) : Int) := by rw [IntWalk.i64_in _ ⟨by have := HTl.out; omega, by have := HTl.out; omega⟩]; have := HTl.out; omega
      obtain ⟨N, hN⟩ : ∃ N, N = i + u.length + R.length := ⟨_, rfl⟩
      rw [← hN] at hw2 ho ⊢
      have HN := hid hN
      clear hN
      by_cases hbig : 512 < N
      · rw [if_pos hbig] at ho ⊢
        obtain ⟨xo, xc, rfl, _, _⟩ := ho.shape
        have hbg : (512 : Int) < (N : Int) := by omega
        have BF := hid (below_step (below_step (below_step (below_step (below_step (below_step C1.out C2.out) C3.out) C4.out) C5.out) C6.out) C7.out)
        clear ho
        go_wp2
        go_ret
        exact ⟨rfl, BF.out⟩
      · rw [if_neg hbig] at ho ⊢
        have HXr : Hid (rowE sig (P ++ (u ++ R)) = 0) := right_mid HA.out (by rw [← HTt.out]; exact (term_parts HTe.out).2) HVr.out HUr.out
        have HXt := hid (term_of HTe.out HXr.out)
        have HXs := hid (sub_at (q := R) HXt.out HUr.out rfl)
        have hxm := repl_mid (u := V) HXt.out HUr.out HVr.out
        rw [HPl.out] at hxm HXs
        rw [← HTt.out] at hxm
        have HXm := hid hxm
        have HXl : Hid ((P ++ (u ++ R)).length = N) := by have := HPl.out; show _ = _; rw [HN.out]; simp only [List.length_append]; omega
        have HXd := hid (rfl : P ++ (u ++ R) = P ++ (u ++ R))
        obtain ⟨X, hX⟩ : ∃ X, X = P ++ (u ++ R) := ⟨_, rfl⟩
        rw [← hX] at ho HXr HXt HXs HXm HXl
        have HX := hid hX
        clear hxm hX HXd
        obtain ⟨xo, xc, rfl, hxc1, hxc2⟩ := ho.shape
        unfold maxLen at hxc2
        rw [HXl.out] at hxc1 ho ⊢
        have OX := hid ho
        have UX : Hid (∀ j, Value.ownBlock (.slice xo N xc) = some j → j < w7.heap.size) := fun j hj => own_blk_lt ho.2 hj
        clear ho
        have hbg : ¬ (512 : Int) < (N : Int) := by omega
        go_wp2_with fail
        refine (sub_any sv _ sig X i _ (HS.out.kp (Kp.of_below (below_step (below_step (below_step (below_step (below_step (below_step C1.out C2.out) C3.out) C4.out) C5.out) C6.out) C7.out))) OX.out.is (HT.out.below (below_step (below_step (below_step (below_step (below_step (below_step C1.out C2.out) C3.out) C4.out) C5.out) C6.out) C7.out)) (by have := HXl.out; omega) (by omega) (by omega)).mono ?_
        rintro e w8 ⟨vy, rfl, ho, hb8⟩
        have C8 := hid hb8
        rw [HXs.out.1]
        rw [HXs.out.2] at ho
        clear hb8
        have OY := hid ho
        have UY : Hid (∀ j, Value.ownBlock (vy) = some j → j < w8.heap.size) := fun j hj => own_blk_lt ho.2 hj
        clear ho
        go_wp2_with fail
        refine (same3_any vy _ u u _ OY.out.is (HU.out.kp (Kp.of_below (below_step (below_step (below_step (below_step (below_step (below_step (below_step C1.out C2.out) C3.out) C4.out) C5.out) C6.out) C7.out) C8.out)))).mono ?_
        rintro e w9 ⟨rfl, n9, hw9⟩
        have C9 := hid (drawn_below hw9)
        rw [decide_eq_true rfl]
        clear hw9
        go_wp2_with fail
        refine (replace_any sv _ _ sig X V i _ (HS.out.kp (Kp.of_below (below_step (below_step (below_step (below_step (below_step (below_step (below_step (below_step C1.out C2.out) C3.out) C4.out) C5.out) C6.out) C7.out) C8.out) C9.out))) (OX.out.later (below_step C8.out C9.out)).is (OW.out.later (below_step (below_step C7.out C8.out) C9.out)).is (HT.out.below (below_step (below_step (below_step (below_step (below_step (below_step (below_step (below_step C1.out C2.out) C3.out) C4.out) C5.out) C6.out) C7.out) C8.out) C9.out)) (by have := HXl.out; omega) (by have := HTl.out; omega) (by omega) (by omega)).mono ?_
        rintro e w10 ⟨vb, rfl, ho, hb10⟩
        have C10 := hid hb10
        rw [HXm.out.1]
        rw [HXm.out.2] at ho
        have hTl := HTl.out
        rw [← hTl]
        rw [← hTl] at ho
        clear hTl
        clear hb10
        have hwe : IntKind.i64.wrap ((i : Int) + (V.length : Int)) = ((i + V.length : Nat) : Int) := by rw [IntWalk.i64_in _ ⟨by have := HTl.out; omega, by have := HTl.out; omega⟩]; omega
        by_cases h512 : t.length ≤ 512
        · have h5 : (t.length : Int) ≤ 512 := by omega
          rw [if_neg (by omega)] at ho ⊢
          have OK := hid ho
          have UK : Hid (∀ j, Value.ownBlock (vb) = some j → j < w10.heap.size) := fun j hj => own_blk_lt ho.2 hj
          clear ho
          go_wp2_with fail
          refine (same3_any vb _ t t _ OK.out.is (HI.out.kp (Kp.of_below (below_step (below_step (below_step (below_step (below_step (below_step (below_step (below_step (below_step C1.out C2.out) C3.out) C4.out) C5.out) C6.out) C7.out) C8.out) C9.out) C10.out)))).mono ?_
          rintro e w11 ⟨rfl, n11, hw11⟩
          have C11 := hid (drawn_below hw11)
          rw [decide_eq_true rfl]
          clear hw11
          clear h5
          by_cases hke : k < i + V.length
          · have hke2 : (k : Int) < ((i + V.length : Nat) : Int) := by omega
            have BF := hid (below_step (below_step (below_step (below_step (below_step (below_step (below_step (below_step (below_step (below_step C1.out C2.out) C3.out) C4.out) C5.out) C6.out) C7.out) C8.out) C9.out) C10.out) C11.out)
            go_wp2
            go_ret
            exact ⟨rfl, BF.out⟩
          · have hke2 : ¬ (k : Int) < ((i + V.length : Nat) : Int) := by omega
            obtain ⟨M, K, Q, hR, hMk, hK⟩ := split_second (p := P) (v := V) (r := R) (by rw [← HTt.out]; exact HTe.out) (k := k) (by rw [← HTt.out]; exact hkl) (by have := HPl.out; omega)
            have hKl := right_len hK
            have HRl : Hid (R.length = M.length + K.length + Q.length) := by show _ = _; rw [hR]; simp only [List.length_append]; omega
            have HT2 : Hid (t = (P ++ (V ++ M)) ++ (K ++ Q)) := by show _ = _; rw [HTt.out, hR]; simp only [List.append_assoc]
            have HX2 : Hid (X = (P ++ (u ++ M)) ++ (K ++ Q)) := by show _ = _; rw [HX.out, hR]; simp only [List.append_assoc]
            have hl2 : (P ++ (V ++ M)).length = k := by simp only [List.length_append]; omega
            have hl3 : (P ++ (u ++ M)).length = i + u.length + M.length := by have := HPl.out; simp only [List.length_append]; omega
            have hkm := repl_mid (p := P ++ (V ++ M)) (v := K) (q := Q) (u := u) (by rw [← HT2.out]; exact HTe.out) hK HUr.out
            rw [← HT2.out, hl2] at hkm
            have hcm := repl_mid (p := P ++ (u ++ M)) (v := K) (q := Q) (u := u) (by rw [← HX2.out]; exact HXt.out) hK HUr.out
            rw [← HX2.out, hl3] at hcm
            have HKm := hid hkm
            have HCm := hid hcm
            have HAr : Hid (rowE sig ((P ++ (V ++ M)) ++ (u ++ Q)) = 0) := right_mid HA.out (by rw [← HT2.out]; exact (term_parts HTe.out).2) hK HUr.out
            have HMk := hid hMk
            clear hkm hcm hl2 hl3 hR hK hMk
            go_wp2_with fail
            refine (replace_any sv _ _ sig t u k _ (HS.out.kp (Kp.of_below (below_step (below_step (below_step (below_step (below_step (below_step (below_step (below_step (below_step (below_step C1.out C2.out) C3.out) C4.out) C5.out) C6.out) C7.out) C8.out) C9.out) C10.out) C11.out))) (HI.out.kp (Kp.of_below (below_step (below_step (below_step (below_step (below_step (below_step (below_step (below_step (below_step (below_step C1.out C2.out) C3.out) C4.out) C5.out) C6.out) C7.out) C8.out) C9.out) C10.out) C11.out))) (HU.out.kp (Kp.of_below (below_step (below_step (below_step (below_step (below_step (below_step (below_step (below_step (below_step (below_step C1.out C2.out) C3.out) C4.out) C5.out) C6.out) C7.out) C8.out) C9.out) C10.out) C11.out))) (HT.out.below (below_step (below_step (below_step (below_step (below_step (below_step (below_step (below_step (below_step (below_step C1.out C2.out) C3.out) C4.out) C5.out) C6.out) C7.out) C8.out) C9.out) C10.out) C11.out)) (by omega) (by omega) (by omega) (by omega)).mono ?_
            rintro e w12 ⟨va, rfl, ho, hb12⟩
            have C12 := hid hb12
            rw [HKm.out.1]
            rw [HKm.out.2] at ho
            clear hb12
            by_cases hbk : 512 < k + u.length + Q.length
            · rw [if_pos hbk] at ho ⊢
              have BF := hid (below_step (below_step (below_step (below_step (below_step (below_step (below_step (below_step (below_step (below_step (below_step C1.out C2.out) C3.out) C4.out) C5.out) C6.out) C7.out) C8.out) C9.out) C10.out) C11.out) C12.out)
              clear ho
              go_wp2
              go_ret
              exact ⟨rfl, BF.out⟩
            · rw [if_neg hbk] at ho ⊢
              have HAl : Hid (((P ++ (V ++ M)) ++ (u ++ Q)).length = k + u.length + Q.length) := by have := HMk.out; show _ = _; simp only [List.length_append]; omega
              have HA3 : Hid ((P ++ (V ++ M)) ++ (u ++ Q) = P ++ (V ++ (M ++ (u ++ Q)))) := by show _ = _; simp only [List.append_assoc]
              have hbm := repl_mid (p := P) (v := V) (q := M ++ (u ++ Q)) (u := u) (by rw [← HA3.out]; exact term_of HTe.out HAr.out) HVr.out HUr.out
              rw [← HA3.out, HPl.out] at hbm
              obtain ⟨A, hA⟩ : ∃ A, A = (P ++ (V ++ M)) ++ (u ++ Q) := ⟨_, rfl⟩
              rw [← hA] at ho hbm HAl
              have hsz : i + u.length + (M ++ (u ++ Q)).length = i + u.length + M.length + u.length + Q.length := by simp only [List.length_append]; omega
              have hli : P ++ (u ++ (M ++ (u ++ Q))) = (P ++ (u ++ M)) ++ (u ++ Q) := by simp only [List.append_assoc]
              rw [hsz, hli] at hbm
              have HBm := hid hbm
              have HCe := hid (HBm.out.1.trans HCm.out.1.symm)
              have HCl := hid (HBm.out.2.trans HCm.out.2.symm)
              clear hbm hsz hli hA HAr HA3
              have OA := hid ho
              have UA : Hid (∀ j, Value.ownBlock (va) = some j → j < w12.heap.size) := fun j hj => own_blk_lt ho.2 hj
              clear ho
              go_wp2_with fail
              refine (replace_any sv _ _ sig A u i _ (HS.out.kp (Kp.of_below (below_step (below_step (below_step (below_step (below_step (below_step (below_step (below_step (below_step (below_step (below_step C1.out C2.out) C3.out) C4.out) C5.out) C6.out) C7.out) C8.out) C9.out) C10.out) C11.out) C12.out))) OA.out.is (HU.out.kp (Kp.of_below (below_step (below_step (below_step (below_step (below_step (below_step (below_step (below_step (below_step (below_step (below_step C1.out C2.out) C3.out) C4.out) C5.out) C6.out) C7.out) C8.out) C9.out) C10.out) C11.out) C12.out))) (HT.out.below (below_step (below_step (below_step (below_step (below_step (below_step (below_step (below_step (below_step (below_step (below_step C1.out C2.out) C3.out) C4.out) C5.out) C6.out) C7.out) C8.out) C9.out) C10.out) C11.out) C12.out)) (by have := HAl.out; omega) (by omega) (by omega) (by omega)).mono ?_
              rintro e w13 ⟨vb2, rfl, ho, hb13⟩
              have C13 := hid hb13
              clear hb13
              have OB := hid ho
              have UB : Hid (∀ j, Value.ownBlock (vb2) = some j → j < w13.heap.size) := fun j hj => own_blk_lt ho.2 hj
              clear ho
              have hwk1 : IntKind.i64.wrap ((k : Int) - (V.length : Int)) = (k : Int) - (V.length : Int) := IntWalk.i64_in _ ⟨by have := HTl.out; omega, by have := HTl.out; omega⟩
              have hwk2 : IntKind.i64.wrap ((k : Int) - (V.length : Int) + (u.length : Int)) = ((i + u.length + M.length : Nat) : Int) := by rw [IntWalk.i64_in _ ⟨by have := HTl.out; omega, by have := HTl.out; omega⟩]; have := HMk.out; have := HPl.out; omega
              go_wp2_with fail
              refine (replace_any sv _ _ sig X u ((i + u.length + M.length : Nat) : Int) _ (HS.out.kp (Kp.of_below (below_step (below_step (below_step (below_step (below_step (below_step (below_step (below_step (below_step (below_step (below_step (below_step C1.out C2.out) C3.out) C4.out) C5.out) C6.out) C7.out) C8.out) C9.out) C10.out) C11.out) C12.out) C13.out))) (OX.out.later (below_step (below_step (below_step (below_step (below_step C8.out C9.out) C10.out) C11.out) C12.out) C13.out)).is (HU.out.kp (Kp.of_below (below_step (below_step (below_step (below_step (below_step (below_step (below_step (below_step (below_step (below_step (below_step (below_step C1.out C2.out) C3.out) C4.out) C5.out) C6.out) C7.out) C8.out) C9.out) C10.out) C11.out) C12.out) C13.out))) (HT.out.below (below_step (below_step (below_step (below_step (below_step (below_step (below_step (below_step (below_step (below_step (below_step (below_step C1.out C2.out) C3.out) C4.out) C5.out) C6.out) C7.out) C8.out) C9.out) C10.out) C11.out) C12.out) C13.out)) (by have := HXl.out; omega) (by omega) (by omega) (by have := HMk.out; have := HPl.out; omega)).mono ?_
              rintro e w14 ⟨vc, rfl, ho, hb14⟩
              have C14 := hid hb14
              rw [← HCe.out]
              rw [← HCl.out] at ho
              clear hb14
              have OC := hid ho
              have UC : Hid (∀ j, Value.ownBlock (vc) = some j → j < w14.heap.size) := fun j hj => own_blk_lt ho.2 hj
              clear ho
              go_wp2_with fail
              refine (same3_any vb2 vc _ _ _ (OB.out.later C14.out).is OC.out.is).mono ?_
              rintro e w15 ⟨rfl, n15, hw15⟩
              have C15 := hid (drawn_below hw15)
              rw [decide_eq_true rfl]
              clear hw15
              have BF := hid (below_step (below_step (below_step (below_step (below_step (below_step (below_step (below_step (below_step (below_step (below_step (below_step (below_step (below_step C1.out C2.out) C3.out) C4.out) C5.out) C6.out) C7.out) C8.out) C9.out) C10.out) C11.out) C12.out) C13.out) C14.out) C15.out)
              clear HCe HCl HBm HCm
              generalize replE sig A i u = E
              have hEE : (E == E) = true := by simp
              go_wp2
              go_ret
              exact ⟨rfl, BF.out⟩
        · have h5 : ¬ (t.length : Int) ≤ 512 := by omega
          rw [if_pos (by omega)] at ho ⊢
          clear ho
          by_cases hke : k < i + V.length
          · have hke2 : (k : Int) < ((i + V.length : Nat) : Int) := by omega
            have BF := hid (below_step (below_step (below_step (below_step (below_step (below_step (below_step (below_step (below_step C1.out C2.out) C3.out) C4.out) C5.out) C6.out) C7.out) C8.out) C9.out) C10.out)
            go_wp2
            go_ret
            exact ⟨rfl, BF.out⟩
          · have hke2 : ¬ (k : Int) < ((i + V.length : Nat) : Int) := by omega
            obtain ⟨M, K, Q, hR, hMk, hK⟩ := split_second (p := P) (v := V) (r := R) (by rw [← HTt.out]; exact HTe.out) (k := k) (by rw [← HTt.out]; exact hkl) (by have := HPl.out; omega)
            have hKl := right_len hK
            have HRl : Hid (R.length = M.length + K.length + Q.length) := by show _ = _; rw [hR]; simp only [List.length_append]; omega
            have HT2 : Hid (t = (P ++ (V ++ M)) ++ (K ++ Q)) := by show _ = _; rw [HTt.out, hR]; simp only [List.append_assoc]
            have HX2 : Hid (X = (P ++ (u ++ M)) ++ (K ++ Q)) := by show _ = _; rw [HX.out, hR]; simp only [List.append_assoc]
            have hl2 : (P ++ (V ++ M)).length = k := by simp only [List.length_append]; omega
            have hl3 : (P ++ (u ++ M)).length = i + u.length + M.length := by have := HPl.out; simp only [List.length_append]; omega
            have hkm := repl_mid (p := P ++ (V ++ M)) (v := K) (q := Q) (u := u) (by rw [← HT2.out]; exact HTe.out) hK HUr.out
            rw [← HT2.out, hl2] at hkm
            have hcm := repl_mid (p := P ++ (u ++ M)) (v := K) (q := Q) (u := u) (by rw [← HX2.out]; exact HXt.out) hK HUr.out
            rw [← HX2.out, hl3] at hcm
            have HKm := hid hkm
            have HCm := hid hcm
            have HAr : Hid (rowE sig ((P ++ (V ++ M)) ++ (u ++ Q)) = 0) := right_mid HA.out (by rw [← HT2.out]; exact (term_parts HTe.out).2) hK HUr.out
            have HMk := hid hMk
            clear hkm hcm hl2 hl3 hR hK hMk
            go_wp2_with fail
            refine (replace_any sv _ _ sig t u k _ (HS.out.kp (Kp.of_below (below_step (below_step (below_step (below_step (below_step (below_step (below_step (below_step (below_step C1.out C2.out) C3.out) C4.out) C5.out) C6.out) C7.out) C8.out) C9.out) C10.out))) (HI.out.kp (Kp.of_below (below_step (below_step (below_step (below_step (below_step (below_step (below_step (below_step (below_step C1.out C2.out) C3.out) C4.out) C5.out) C6.out) C7.out) C8.out) C9.out) C10.out))) (HU.out.kp (Kp.of_below (below_step (below_step (below_step (below_step (below_step (below_step (below_step (below_step (below_step C1.out C2.out) C3.out) C4.out) C5.out) C6.out) C7.out) C8.out) C9.out) C10.out))) (HT.out.below (below_step (below_step (below_step (below_step (below_step (below_step (below_step (below_step (below_step C1.out C2.out) C3.out) C4.out) C5.out) C6.out) C7.out) C8.out) C9.out) C10.out)) (by omega) (by omega) (by omega) (by omega)).mono ?_
            rintro e w11 ⟨va, rfl, ho, hb11⟩
            have C11 := hid hb11
            rw [HKm.out.1]
            rw [HKm.out.2] at ho
            clear hb11
            by_cases hbk : 512 < k + u.length + Q.length
            · rw [if_pos hbk] at ho ⊢
              have BF := hid (below_step (below_step (below_step (below_step (below_step (below_step (below_step (below_step (below_step (below_step C1.out C2.out) C3.out) C4.out) C5.out) C6.out) C7.out) C8.out) C9.out) C10.out) C11.out)
              clear ho
              go_wp2
              go_ret
              exact ⟨rfl, BF.out⟩
            · rw [if_neg hbk] at ho ⊢
              have HAl : Hid (((P ++ (V ++ M)) ++ (u ++ Q)).length = k + u.length + Q.length) := by have := HMk.out; show _ = _; simp only [List.length_append]; omega
              have HA3 : Hid ((P ++ (V ++ M)) ++ (u ++ Q) = P ++ (V ++ (M ++ (u ++ Q)))) := by show _ = _; simp only [List.append_assoc]
              have hbm := repl_mid (p := P) (v := V) (q := M ++ (u ++ Q)) (u := u) (by rw [← HA3.out]; exact term_of HTe.out HAr.out) HVr.out HUr.out
              rw [← HA3.out, HPl.out] at hbm
              obtain ⟨A, hA⟩ : ∃ A, A = (P ++ (V ++ M)) ++ (u ++ Q) := ⟨_, rfl⟩
              rw [← hA] at ho hbm HAl
              have hsz : i + u.length + (M ++ (u ++ Q)).length = i + u.length + M.length + u.length + Q.length := by simp only [List.length_append]; omega
              have hli : P ++ (u ++ (M ++ (u ++ Q))) = (P ++ (u ++ M)) ++ (u ++ Q) := by simp only [List.append_assoc]
              rw [hsz, hli] at hbm
              have HBm := hid hbm
              have HCe := hid (HBm.out.1.trans HCm.out.1.symm)
              have HCl := hid (HBm.out.2.trans HCm.out.2.symm)
              clear hbm hsz hli hA HAr HA3
              have OA := hid ho
              have UA : Hid (∀ j, Value.ownBlock (va) = some j → j < w11.heap.size) := fun j hj => own_blk_lt ho.2 hj
              clear ho
              go_wp2_with fail
              refine (replace_any sv _ _ sig A u i _ (HS.out.kp (Kp.of_below (below_step (below_step (below_step (below_step (below_step (below_step (below_step (below_step (below_step (below_step C1.out C2.out) C3.out) C4.out) C5.out) C6.out) C7.out) C8.out) C9.out) C10.out) C11.out))) OA.out.is (HU.out.kp (Kp.of_below (below_step (below_step (below_step (below_step (below_step (below_step (below_step (below_step (below_step (below_step C1.out C2.out) C3.out) C4.out) C5.out) C6.out) C7.out) C8.out) C9.out) C10.out) C11.out))) (HT.out.below (below_step (below_step (below_step (below_step (below_step (below_step (below_step (below_step (below_step (below_step C1.out C2.out) C3.out) C4.out) C5.out) C6.out) C7.out) C8.out) C9.out) C10.out) C11.out)) (by have := HAl.out; omega) (by omega) (by omega) (by omega)).mono ?_
              rintro e w12 ⟨vb2, rfl, ho, hb12⟩
              have C12 := hid hb12
              clear hb12
              have OB := hid ho
              have UB : Hid (∀ j, Value.ownBlock (vb2) = some j → j < w12.heap.size) := fun j hj => own_blk_lt ho.2 hj
              clear ho
              have hwk1 : IntKind.i64.wrap ((k : Int) - (V.length : Int)) = (k : Int) - (V.length : Int) := IntWalk.i64_in _ ⟨by have := HTl.out; omega, by have := HTl.out; omega⟩
              have hwk2 : IntKind.i64.wrap ((k : Int) - (V.length : Int) + (u.length : Int)) = ((i + u.length + M.length : Nat) : Int) := by rw [IntWalk.i64_in _ ⟨by have := HTl.out; omega, by have := HTl.out; omega⟩]; have := HMk.out; have := HPl.out; omega
              go_wp2_with fail
              refine (replace_any sv _ _ sig X u ((i + u.length + M.length : Nat) : Int) _ (HS.out.kp (Kp.of_below (below_step (below_step (below_step (below_step (below_step (below_step (below_step (below_step (below_step (below_step (below_step C1.out C2.out) C3.out) C4.out) C5.out) C6.out) C7.out) C8.out) C9.out) C10.out) C11.out) C12.out))) (OX.out.later (below_step (below_step (below_step (below_step C8.out C9.out) C10.out) C11.out) C12.out)).is (HU.out.kp (Kp.of_below (below_step (below_step (below_step (below_step (below_step (below_step (below_step (below_step (below_step (below_step (below_step C1.out C2.out) C3.out) C4.out) C5.out) C6.out) C7.out) C8.out) C9.out) C10.out) C11.out) C12.out))) (HT.out.below (below_step (below_step (below_step (below_step (below_step (below_step (below_step (below_step (below_step (below_step (below_step C1.out C2.out) C3.out) C4.out) C5.out) C6.out) C7.out) C8.out) C9.out) C10.out) C11.out) C12.out)) (by have := HXl.out; omega) (by omega) (by omega) (by have := HMk.out; have := HPl.out; omega)).mono ?_
              rintro e w13 ⟨vc, rfl, ho, hb13⟩
              have C13 := hid hb13
              rw [← HCe.out]
              rw [← HCl.out] at ho
              clear hb13
              have OC := hid ho
              have UC : Hid (∀ j, Value.ownBlock (vc) = some j → j < w13.heap.size) := fun j hj => own_blk_lt ho.2 hj
              clear ho
              go_wp2_with fail
              refine (same3_any vb2 vc _ _ _ (OB.out.later C13.out).is OC.out.is).mono ?_
              rintro e w14 ⟨rfl, n14, hw14⟩
              have C14 := hid (drawn_below hw14)
              rw [decide_eq_true rfl]
              clear hw14
              have BF := hid (below_step (below_step (below_step (below_step (below_step (below_step (below_step (below_step (below_step (below_step (below_step (below_step (below_step C1.out C2.out) C3.out) C4.out) C5.out) C6.out) C7.out) C8.out) C9.out) C10.out) C11.out) C12.out) C13.out) C14.out)
              clear HCe HCl HBm HCm
              generalize replE sig A i u = E
              have hEE : (E == E) = true := by simp
              go_wp2
              go_ret
              exact ⟨rfl, BF.out⟩
    · generalize termE sig u = E at hue ⊢
      have heb : (E != 0) = true := by simpa using hue
      rw [hte]
      go_wp2
      go_ret
      exact ⟨rfl, B5.out⟩
  · generalize termE sig t = E at hte ⊢
    generalize termE sig u = E2
    have heb : (E != 0) = true := by simpa using hte
    go_wp2
    go_ret
    exact ⟨rfl, B5.out⟩

end Go.Proofs.YtjcgngfidnechaaDoor
