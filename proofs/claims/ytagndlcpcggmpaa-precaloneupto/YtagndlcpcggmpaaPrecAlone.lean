/- The pairs alone. -/
import Derived.Test.YtagndlcpcggmpaaTPrcG
import Derived.Test.YtagndlcpcggmpaaPrecOrders
namespace Go.Proofs.Ytagndlcpcggmpaa
open Go.RowKit Go.Maps

/-- What stands behind, from the end on. -/
theorem back_step {ps : List (Int × Int)} {k : Nat} {x : Int × Int} (hk : k < ps.length) (hx : ps[ps.length - 1 - k]? = some x) : ps.reverse.take (k + 1) = ps.reverse.take k ++ [x] := by
  refine take_get ?_
  rw [List.getElem?_reverse hk]
  exact hx

theorem back_same (ps : List (Int × Int)) (x : Int × Int) : x ∈ ps.reverse ++ ps ↔ x ∈ ps := by simp

theorem closeE_take {n : Int} {ps : List (Int × Int)} (h : closeE n ps = 0) (k : Nat) : closeE n (ps.take k) = 0 := by
  obtain ⟨h1, h2, h3, h4⟩ := closeE_zero h
  exact closeE_ok h1 h2 (fun y hy => h3 y (List.mem_of_mem_take hy)) (fun i hi => h4 i (Up.mono (fun y hy => List.mem_of_mem_take hy) hi))

theorem abB_take {ps : List (Int × Int)} {k : Nat} {f g : Int} (h : abB (ps.take k) f g = true) : abB ps f g = true := by
  rw [abB_iff] at h ⊢
  exact ⟨h.1, h.2.1, Up.mono (fun y hy => List.mem_of_mem_take hy) h.2.2⟩

theorem Prs.take {w : World} {ao : Option Addr} {cap : Nat} {ps : List (Int × Int)} (h : Prs w (.slice ao ps.length cap) ps) {k : Nat} (hk : k ≤ ps.length) : Prs w (.slice ao k cap) (ps.take k) := by
  obtain ⟨ao', cap', hv, hc, hm, hx⟩ := h
  simp only [Value.slice.injEq, true_and] at hv
  obtain ⟨rfl, rfl⟩ := hv
  have hl : (ps.take k).length = k := by simp; omega
  refine ⟨ao, cap, by rw [hl], by omega, hm, fun h0 => ?_⟩
  rw [hl] at h0
  obtain ⟨g, off, rfl, hg, hx⟩ := hx (by omega)
  refine ⟨g, off, rfl, hg, fun j x hj => ?_⟩
  have hjk : j < k := by have := (List.getElem?_eq_some_iff.1 hj).1; omega
  rw [List.getElem?_take_of_lt hjk] at hj
  exact hx j x hj

/-- The pairs, and besides them some that are above one another. -/
structure MoreI (n : Int) (ps M : List (Int × Int)) (c : Nat) : Prop where
  all : ∀ x ∈ ps, x ∈ M
  only : ∀ x ∈ M, x ∈ ps ∨ ∃ i j : Nat, x = ((i : Int), (j : Int)) ∧ Up ps i j
  len : M.length ≤ ps.length + c

theorem MoreI.start (n : Int) (ps : List (Int × Int)) : MoreI n ps ps 0 := ⟨fun _ h => h, fun _ h => .inl h, Nat.le_refl _⟩

theorem MoreI.skip {n : Int} {ps M : List (Int × Int)} {c d : Nat} (h : MoreI n ps M c) (hd : c ≤ d) : MoreI n ps M d := ⟨h.all, h.only, Nat.le_trans h.len (by omega)⟩

theorem MoreI.add {n : Int} {ps M : List (Int × Int)} {c : Nat} (h : MoreI n ps M c) {i j : Nat} (hu : abB ps (i : Int) (j : Int) = true) : MoreI n ps (M ++ [((i : Int), (j : Int))]) (c + 1) :=
  ⟨fun x hx => List.mem_append_left _ (h.all x hx), fun x hx => by
    rcases List.mem_append.1 hx with hx | hx
    · exact h.only x hx
    · simp only [List.mem_singleton] at hx
      exact .inr ⟨i, j, hx, (abB_nat ps i j).1 hu⟩, by have := h.len; simp; omega⟩

theorem MoreI.up {n : Int} {ps M : List (Int × Int)} {c : Nat} (h : MoreI n ps M c) (i j : Nat) : Up M i j ↔ Up ps i j :=
  up_told h.all (fun i j hp => by
    rcases h.only _ hp with hp | ⟨i', j', e, hu⟩
    · exact Up.base hp
    · simp only [Prod.mk.injEq] at e
      obtain rfl : i = i' := by omega
      obtain rfl : j = j' := by omega
      exact hu) i j

theorem MoreI.close {n : Int} {ps M : List (Int × Int)} {c : Nat} (h : MoreI n ps M c) (h0 : closeE n ps = 0) : closeE n M = 0 := by
  obtain ⟨h1, h2, h3, h4⟩ := closeE_zero h0
  refine closeE_ok h1 h2 (fun x hx => ?_) (fun i hi => h4 i ((h.up i i).1 hi))
  rcases h.only x hx with hx | ⟨i, j, rfl, hu⟩
  · exact h3 x hx
  · have := Up.inN h3 hu
    simp only
    omega

theorem MoreI.ab {n : Int} {ps M : List (Int × Int)} {c : Nat} (h : MoreI n ps M c) (f g : Int) : abB M f g = abB ps f g := by
  rw [Bool.eq_iff_iff, abB_iff, abB_iff, h.up]

theorem rem_pos {t : Int} {n : Nat} : ∃ k : Nat, t % ((n : Int) + 1) = (k : Int) ∧ k ≤ n := by
  have h1 := Int.emod_nonneg t (b := (n : Int) + 1) (by omega)
  have h2 := Int.emod_lt_of_pos t (b := (n : Int) + 1) (by omega)
  exact ⟨(t % ((n : Int) + 1)).toNat, by omega, by omega⟩

theorem rem_neg {t : Int} {n : Nat} (h : t < 0) : ∃ k : Nat, -(t + 1).tmod ((n : Int) + 1) = (k : Int) ∧ k ≤ n := by
  have h0 : -(t + 1).tmod ((n : Int) + 1) = (-(t + 1)).tmod ((n : Int) + 1) := (Int.neg_tmod ..).symm
  rw [h0, Int.tmod_eq_emod_of_nonneg (by omega)]
  exact rem_pos

set_option maxRecDepth 100000 in
set_option maxHeartbeats 6400000 in
theorem precAlone_any (n : Int) (v : Value) (ps : List (Int × Int)) (t : Int) (w : World) (hp : Prs w v ps) (hl : ps.length ≤ 1048576) (ht : -9223372036854775808 ≤ t ∧ t ≤ 9223372036854775807) :
    Calls Try.prog 5 #[.int .i64 n, v, .int .i64 t] w fun e w' => e = .returned (.bool true) ∧ Below w.heap.size w w' := by
  obtain ⟨ao, cap, rfl, hcap, hcm, _⟩ := Row.flat hp
  unfold maxLen at hcm
  have HP : Hid (Prs w (.slice ao ps.length cap) ps) := hp
  clear hp
  go_enter Try.func5, Try.ntmps5
  go_wp2_with fail
  refine (shown10_any w).mono ?_
  rintro e w1 ⟨rfl, hb1⟩
  have B1 : Hid (Below w.heap.size w w1) := hb1
  clear hb1
  go_wp2
  go_loopw [8, 9] (fun u i wr => ∃ k : Nat, k ≤ ps.length ∧ i = .int .i64 ((ps.length : Int) - 1 - k) ∧ OwQ wr w1.heap.size u (ps.reverse.take k) ∧ Below w1.heap.size w1 wr) (fun _ i _ => (intOf i + 1).toNat)
  case atStart => exact ⟨0, by omega, by simp, by rw [List.take_zero]; exact empty_prs (Nat.le_refl _), below_alloc _⟩
  case round =>
    obtain ⟨k, hk, rfl, hO, hbl⟩ := hrel
    have HO : Hid (OwQ wr w1.heap.size u8 (ps.reverse.take k)) := hO
    have B2 : Hid (Below w1.heap.size w1 wr) := hbl
    obtain ⟨ab, cb, rfl, _, _, _⟩ := Row.flat hO.prs
    clear hO hbl
    by_cases hk2 : k < ps.length
    · obtain ⟨j, hj⟩ : ∃ j : Nat, (ps.length : Int) - 1 - k = (j : Int) := ⟨ps.length - 1 - k, by omega⟩
      have hj2 : j < ps.length := by omega
      have hj3 : ps.length - 1 - k = j := by omega
      obtain ⟨g, off, a, b, rfl, hab, c1, c2, ha, hb⟩ := ((HP.out.later B1.out).later B2.out).at hj2
      have hbk : ps.reverse.take (k + 1) = ps.reverse.take k ++ [(a, b)] := back_step hk2 (by rw [hj3]; exact hab)
      obtain ⟨v3, w3, hr3, hO3, hg3, _⟩ := join_prs 22 (HO.out.later (below_alloc (.cells #[.int .i64 a, .int .i64 b] 31))) (prs_one wr a b ha hb) (Nat.le_trans B2.out.size (below_alloc _).size) (by simp; omega)
      have HR3 := hidP hr3
      have B3 : Hid (Below w1.heap.size w1 w3) := (HO.out.later (below_alloc (.cells #[.int .i64 a, .int .i64 b] 31))).grown (below_step B2.out (below_alloc _)) hg3
      rw [← hbk] at hO3
      have HO3 := hidP hO3
      have HJ : Hid ((j : Int) - 1 = (ps.length : Int) - 1 - ((k + 1 : Nat) : Int)) := by show (j : Int) - 1 = _; omega
      have hJ2 : ¬ (j : Int) < 0 := by omega
      rw [hj]
      clear hr3 hO3 hg3 hab hbk hj hj3
      go_wp2_with (first
        | (at_builtin; refine wpList_append_runP rfl _ _ _ rfl _ _ rfl rfl HR3.out ?_))
      go_roundw
      case rel => exact ⟨k + 1, by omega, by rw [← HJ.out], HO3.out, B3.out⟩
      case measure => simp [intOf]
    · obtain rfl : k = ps.length := by omega
      have hj : (ps.length : Int) - 1 - (ps.length : Int) = -1 := by omega
      have hO := HO.out
      have e1 : ps.reverse.take ps.length = ps.reverse := by rw [← List.length_reverse, List.take_length]
      rw [e1, List.length_reverse] at hO ⊢
      clear e1
      have HO2 := hidP hO
      rw [hj]
      clear hO hj HO
      go_wp2_with fail
      refine (close_any n _ ps wr ((HP.out.later B1.out).later B2.out)).mono ?_
      intro e w4 hc
      have HC := hidP hc
      have B4 : Hid (Below w1.heap.size w1 w4) := below_step B2.out hc.1
      have HO4 := hidP (HO2.out.later hc.1)
      have HP4 : Hid (Prs w4 (.slice ao ps.length cap) ps) := (HP.out.later B1.out).later B4.out
      obtain ⟨v5, w5, hr5, hO5, hg5, _⟩ := join_prs 22 (empty_prs (w := w4) (base := w4.heap.size) (Nat.le_refl _)) (HO4.out.prs.later (below_alloc (.cells #[] 31))) (below_alloc _).size (by simp; omega)
      rw [List.nil_append] at hO5
      have hb5 : Below w4.heap.size w4 w5 := (empty_prs (w := w4) (base := w4.heap.size) (Nat.le_refl _)).grown (below_alloc _) hg5
      obtain ⟨a5, c5, hv5, _, _, _⟩ := Row.flat hO5.prs
      rw [List.length_reverse] at hv5
      subst hv5
      obtain ⟨v6, w6, hr6, hO6, hg6, _⟩ := join_prs 22 hO5 (HP4.out.later hb5) hb5.size (by simp; omega)
      have hb6 : Below w4.heap.size w4 w6 := hO5.grown hb5 hg6
      have HR5 := hidP hr5
      have HR6 := hidP hr6
      have HO6 : Hid (Prs w6 v6 (ps.reverse ++ ps)) := hO6.prs
      have B6 := hidP hb6
      clear hc hr5 hr6 hg5 hg6 hO5 hO6 hb5 hb6
      by_cases h0 : closeE n ps = 0
      · obtain ⟨_, gp, rfl, hp2⟩ := HC.out.ok h0
        have HPc := hidP hp2
        have H0 := hidP h0
        clear hp2 h0
        go_wp2_with (first
          | fail
          | (at_builtin; refine wpList_append_runP rfl _ _ _ rfl _ _ rfl rfl HR5.out ?_)
          | (at_builtin; refine wpList_append_runP rfl _ _ _ rfl _ _ rfl rfl HR6.out ?_))
        refine (close_any n _ (ps.reverse ++ ps) w6 HO6.out).mono ?_
        intro e w7 hc7
        obtain ⟨hb7, gq, rfl, hq7⟩ := hc7.ok ((closeE_same (back_same ps)).trans H0.out)
        have HQc : Hid (Pc w7 (.pointer (some ⟨gq, 0, none⟩)) ps) := hq7.same (back_same ps)
        have HPc7 : Hid (Pc w7 (.pointer (some ⟨gp, 0, none⟩)) ps) := (HPc.out.later B6.out).later hb7
        have B7 : Hid (Below w1.heap.size w1 w7) := below_step (below_step B4.out B6.out) hb7
        clear hc7 hb7 hq7 HPc HR5 HR6 HO6 HO4 HO2 HC B2 B4 B6 HP4
        have HPp : Hid (Prs w7 (.slice ao ps.length cap) ps) := (HP.out.later B1.out).later B7.out
        by_cases ht0 : t < 0
        · obtain ⟨k, hk, hkl⟩ : ∃ k : Nat, -(t + 1).tmod ((ps.length : Int) + 1) = (k : Int) ∧ k ≤ ps.length := rem_neg ht0
          have HRp : Hid (Prs w7 (.slice ao k cap) (ps.take k)) := HPp.out.take hkl
          have hkc : k ≤ cap := by omega
          go_wp2_with fail
          refine (close_any n _ (ps.take k) w7 HRp.out).mono ?_
          intro e w8 hc8
          obtain ⟨hb8, gr, rfl, hr8⟩ := hc8.ok (closeE_take H0.out k)
          have HRc := hidP hr8
          have HPc8 : Hid (Pc w8 (.pointer (some ⟨gp, 0, none⟩)) ps) := HPc7.out.later hb8
          have HQc8 : Hid (Pc w8 (.pointer (some ⟨gq, 0, none⟩)) ps) := HQc.out.later hb8
          have HB8 : Hid (Below w.heap.size w w8) := below_step B1.out (below_step B7.out hb8)
          obtain ⟨v9, w9, hr9, hO9, hg9, _⟩ := join_prs 22 (empty_prs (w := w8) (base := w8.heap.size) (Nat.le_refl _)) ((HPp.out.later hb8).later (below_alloc (.cells #[] 31))) (below_alloc _).size (by simp; omega)
          rw [List.nil_append] at hO9
          have B8 : Hid (Below w8.heap.size w8 w9) := (empty_prs (w := w8) (base := w8.heap.size) (Nat.le_refl _)).grown (below_alloc _) hg9
          have HR9 := hidP hr9
          have HM := hidP hO9
          have hn0 : 0 ≤ n := (closeE_zero H0.out).1
          have hn1 : n ≤ 128 := (closeE_zero H0.out).2.1
          clear hc8 hb8 hr8 hr9 hO9 hg9 HQc HPc7
          go_wp2_with (first
            | (at_builtin; refine wpList_append_runP rfl _ _ _ rfl _ _ rfl rfl HR9.out ?_))
          go_loopw [16, 17] (fun u i wr => ∃ (j : Nat) (M : List (Int × Int)), (j : Int) ≤ n ∧ i = .int .i64 j ∧ OwQ wr w8.heap.size u M ∧ MoreI n ps M (j * 128) ∧ Below w8.heap.size w8 wr) (fun _ i _ => (n - intOf i).toNat)
          case atStart => exact ⟨0, ps, hn0, rfl, HM.out, (MoreI.start n ps).skip (by omega), B8.out⟩
          case round =>
            clear HM B8 HR9
            obtain ⟨i, M, hi, rfl, hx1, hx2, hx3⟩ := hrel
            obtain ⟨am, cm, rfl, _, _, _⟩ := Row.flat hx1.prs
            have HM : Hid (OwQ wr w8.heap.size (.slice am M.length cm) M) := hx1
            have HX : Hid (MoreI n ps M (i * 128)) := hx2
            have B8 : Hid (Below w8.heap.size w8 wr) := hx3
            clear hx1 hx2 hx3
            by_cases hi2 : (i : Int) < n
            · have hid : decide ((i : Int) < n) = true := by simp [hi2]
              go_wp2
              go_loopw [16, 18] (fun u x wr => ∃ (j : Nat) (M : List (Int × Int)), (j : Int) ≤ n ∧ x = .int .i64 j ∧ OwQ wr w8.heap.size u M ∧ MoreI n ps M (i * 128 + j) ∧ Below w8.heap.size w8 wr) (fun _ x _ => (n - intOf x).toNat)
              case atStart => exact ⟨0, M, hn0, rfl, HM.out, HX.out, B8.out⟩
              case round =>
                clear HM B8 HX
                obtain ⟨j, M, hj, rfl, hx1, hx2, hx3⟩ := hrel
                obtain ⟨am, cm, rfl, _, _, _⟩ := Row.flat hx1.prs
                have HM : Hid (OwQ wr w8.heap.size (.slice am M.length cm) M) := hx1
                have HX : Hid (MoreI n ps M (i * 128 + j)) := hx2
                have B8 : Hid (Below w8.heap.size w8 wr) := hx3
                clear hx1 hx2 hx3
                by_cases hj2 : (j : Int) < n
                · cases hx : abB ps (i : Int) (j : Int) with
                  | false =>
                    have Hx := hidP hx
                    have Hy : Hid (abB (ps.take k) (i : Int) (j : Int) = false) := by
                      show _ = _
                      rw [Bool.eq_false_iff]
                      intro hh
                      rw [abB_take hh] at hx
                      cases hx
                    clear hx
                    go_wp2_with fail
                    refine (above_any ps (.pointer (some ⟨gp, 0, none⟩)) (i : Int) (j : Int) wr (HPc8.out.later B8.out)).mono ?_
                    rintro e w11 ⟨rfl, hbn⟩
                    have B8n : Hid (Below w8.heap.size w8 w11) := below_step B8.out hbn
                    have HMn : Hid (OwQ w11 w8.heap.size (.slice am M.length cm) M) := HM.out.later hbn
                    clear hbn B8 HM
                    have B8 := B8n
                    clear B8n
                    have HM := HMn
                    clear HMn
                    rw [Hx.out]
                    go_wp2_with fail
                    refine (above_any ps (.pointer (some ⟨gq, 0, none⟩)) (i : Int) (j : Int) w11 (HQc8.out.later B8.out)).mono ?_
                    rintro e w12 ⟨rfl, hbn⟩
                    have B8n : Hid (Below w8.heap.size w8 w12) := below_step B8.out hbn
                    have HMn : Hid (OwQ w12 w8.heap.size (.slice am M.length cm) M) := HM.out.later hbn
                    clear hbn B8 HM
                    have B8 := B8n
                    clear B8n
                    have HM := HMn
                    clear HMn
                    rw [Hx.out]
                    go_wp2_with fail
                    refine (above_any (ps.take k) (.pointer (some ⟨gr, 0, none⟩)) (i : Int) (j : Int) w12 (HRc.out.later B8.out)).mono ?_
                    rintro e w13 ⟨rfl, hbn⟩
                    have B8n : Hid (Below w8.heap.size w8 w13) := below_step B8.out hbn
                    have HMn : Hid (OwQ w13 w8.heap.size (.slice am M.length cm) M) := HM.out.later hbn
                    clear hbn B8 HM
                    have B8 := B8n
                    clear B8n
                    have HM := HMn
                    clear HMn
                    rw [Hy.out]
                    go_wp2_with fail
                    refine (above_any ps (.pointer (some ⟨gp, 0, none⟩)) (i : Int) (j : Int) w13 (HPc8.out.later B8.out)).mono ?_
                    rintro e w14 ⟨rfl, hbn⟩
                    have B8n : Hid (Below w8.heap.size w8 w14) := below_step B8.out hbn
                    have HMn : Hid (OwQ w14 w8.heap.size (.slice am M.length cm) M) := HM.out.later hbn
                    clear hbn B8 HM
                    have B8 := B8n
                    clear B8n
                    have HM := HMn
                    clear HMn
                    rw [Hx.out]
                    go_wp2
                    go_roundw
                    case rel => exact ⟨j + 1, M, by omega, by go_num, HM.out, HX.out.skip (by omega), B8.out⟩
                    case measure => simp [intOf]; omega
                  | true =>
                    have Hx := hidP hx
                    clear hx
                    have HX2 : Hid (MoreI n ps (M ++ [((i : Int), (j : Int))]) (i * 128 + (j + 1))) := HX.out.add Hx.out
                    have hML := HX.out.len
                    have HML : Hid (M.length ≤ ps.length + (i * 128 + j)) := hML
                    clear hML
                    have hi9 : i ≤ 128 := by omega
                    have hj9 : j ≤ 128 := by omega
                    cases hy : abB (ps.take k) (i : Int) (j : Int) with
                    | false =>
                      have Hy := hidP hy
                      clear hy
                      go_wp2_with fail
                      refine (above_any ps (.pointer (some ⟨gp, 0, none⟩)) (i : Int) (j : Int) wr (HPc8.out.later B8.out)).mono ?_
                      rintro e w11 ⟨rfl, hbn⟩
                      have B8n : Hid (Below w8.heap.size w8 w11) := below_step B8.out hbn
                      have HMn : Hid (OwQ w11 w8.heap.size (.slice am M.length cm) M) := HM.out.later hbn
                      clear hbn B8 HM
                      have B8 := B8n
                      clear B8n
                      have HM := HMn
                      clear HMn
                      rw [Hx.out]
                      go_wp2_with fail
                      refine (above_any ps (.pointer (some ⟨gq, 0, none⟩)) (i : Int) (j : Int) w11 (HQc8.out.later B8.out)).mono ?_
                      rintro e w12 ⟨rfl, hbn⟩
                      have B8n : Hid (Below w8.heap.size w8 w12) := below_step B8.out hbn
                      have HMn : Hid (OwQ w12 w8.heap.size (.slice am M.length cm) M) := HM.out.later hbn
                      clear hbn B8 HM
                      have B8 := B8n
                      clear B8n
                      have HM := HMn
                      clear HMn
                      rw [Hx.out]
                      go_wp2_with fail
                      refine (above_any (ps.take k) (.pointer (some ⟨gr, 0, none⟩)) (i : Int) (j : Int) w12 (HRc.out.later B8.out)).mono ?_
                      rintro e w13 ⟨rfl, hbn⟩
                      have B8n : Hid (Below w8.heap.size w8 w13) := below_step B8.out hbn
                      have HMn : Hid (OwQ w13 w8.heap.size (.slice am M.length cm) M) := HM.out.later hbn
                      clear hbn B8 HM
                      have B8 := B8n
                      clear B8n
                      have HM := HMn
                      clear HMn
                      rw [Hy.out]
                      go_wp2_with fail
                      refine (above_any ps (.pointer (some ⟨gp, 0, none⟩)) (i : Int) (j : Int) w13 (HPc8.out.later B8.out)).mono ?_
                      rintro e w14 ⟨rfl, hbn⟩
                      have B8n : Hid (Below w8.heap.size w8 w14) := below_step B8.out hbn
                      have HMn : Hid (OwQ w14 w8.heap.size (.slice am M.length cm) M) := HM.out.later hbn
                      clear hbn B8 HM
                      have B8 := B8n
                      clear B8n
                      have HM := HMn
                      clear HMn
                      rw [Hx.out]
                      obtain ⟨v20, w20, hr20, hO20, hg20, _⟩ := join_prs 22 (HM.out.later (below_alloc (.cells #[.int .i64 (i : Int), .int .i64 (j : Int)] 31))) (prs_one w14 (i : Int) (j : Int) (by omega) (by omega)) (Nat.le_trans B8.out.size (below_alloc _).size) (by have := HML.out; simp; omega)
                      have B9 : Hid (Below w8.heap.size w8 w20) := (HM.out.later (below_alloc (.cells #[.int .i64 (i : Int), .int .i64 (j : Int)] 31))).grown (below_step B8.out (below_alloc _)) hg20
                      have HR20 := hidP hr20
                      have HO20 := hidP hO20
                      clear hr20 hO20 hg20
                      go_wp2_with (first
                        | (at_builtin; refine wpList_append_runP rfl _ _ _ rfl _ _ rfl rfl HR20.out ?_))
                      go_roundw
                      case rel => exact ⟨j + 1, _, by omega, by go_num, HO20.out, HX2.out, B9.out⟩
                      case measure => simp [intOf]; omega
                    | true =>
                      have Hy := hidP hy
                      clear hy
                      go_wp2_with fail
                      refine (above_any ps (.pointer (some ⟨gp, 0, none⟩)) (i : Int) (j : Int) wr (HPc8.out.later B8.out)).mono ?_
                      rintro e w11 ⟨rfl, hbn⟩
                      have B8n : Hid (Below w8.heap.size w8 w11) := below_step B8.out hbn
                      have HMn : Hid (OwQ w11 w8.heap.size (.slice am M.length cm) M) := HM.out.later hbn
                      clear hbn B8 HM
                      have B8 := B8n
                      clear B8n
                      have HM := HMn
                      clear HMn
                      rw [Hx.out]
                      go_wp2_with fail
                      refine (above_any ps (.pointer (some ⟨gq, 0, none⟩)) (i : Int) (j : Int) w11 (HQc8.out.later B8.out)).mono ?_
                      rintro e w12 ⟨rfl, hbn⟩
                      have B8n : Hid (Below w8.heap.size w8 w12) := below_step B8.out hbn
                      have HMn : Hid (OwQ w12 w8.heap.size (.slice am M.length cm) M) := HM.out.later hbn
                      clear hbn B8 HM
                      have B8 := B8n
                      clear B8n
                      have HM := HMn
                      clear HMn
                      rw [Hx.out]
                      go_wp2_with fail
                      refine (above_any (ps.take k) (.pointer (some ⟨gr, 0, none⟩)) (i : Int) (j : Int) w12 (HRc.out.later B8.out)).mono ?_
                      rintro e w13 ⟨rfl, hbn⟩
                      have B8n : Hid (Below w8.heap.size w8 w13) := below_step B8.out hbn
                      have HMn : Hid (OwQ w13 w8.heap.size (.slice am M.length cm) M) := HM.out.later hbn
                      clear hbn B8 HM
                      have B8 := B8n
                      clear B8n
                      have HM := HMn
                      clear HMn
                      rw [Hy.out]
                      go_wp2_with fail
                      refine (above_any ps (.pointer (some ⟨gp, 0, none⟩)) (i : Int) (j : Int) w13 (HPc8.out.later B8.out)).mono ?_
                      rintro e w14 ⟨rfl, hbn⟩
                      have B8n : Hid (Below w8.heap.size w8 w14) := below_step B8.out hbn
                      have HMn : Hid (OwQ w14 w8.heap.size (.slice am M.length cm) M) := HM.out.later hbn
                      clear hbn B8 HM
                      have B8 := B8n
                      clear B8n
                      have HM := HMn
                      clear HMn
                      rw [Hx.out]
                      go_wp2_with fail
                      refine (above_any ps (.pointer (some ⟨gp, 0, none⟩)) (i : Int) (j : Int) w14 (HPc8.out.later B8.out)).mono ?_
                      rintro e w15 ⟨rfl, hbn⟩
                      have B8n : Hid (Below w8.heap.size w8 w15) := below_step B8.out hbn
                      have HMn : Hid (OwQ w15 w8.heap.size (.slice am M.length cm) M) := HM.out.later hbn
                      clear hbn B8 HM
                      have B8 := B8n
                      clear B8n
                      have HM := HMn
                      clear HMn
                      rw [Hx.out]
                      obtain ⟨v20, w20, hr20, hO20, hg20, _⟩ := join_prs 22 (HM.out.later (below_alloc (.cells #[.int .i64 (i : Int), .int .i64 (j : Int)] 31))) (prs_one w15 (i : Int) (j : Int) (by omega) (by omega)) (Nat.le_trans B8.out.size (below_alloc _).size) (by have := HML.out; simp; omega)
                      have B9 : Hid (Below w8.heap.size w8 w20) := (HM.out.later (below_alloc (.cells #[.int .i64 (i : Int), .int .i64 (j : Int)] 31))).grown (below_step B8.out (below_alloc _)) hg20
                      have HR20 := hidP hr20
                      have HO20 := hidP hO20
                      clear hr20 hO20 hg20
                      go_wp2_with (first
                        | (at_builtin; refine wpList_append_runP rfl _ _ _ rfl _ _ rfl rfl HR20.out ?_))
                      go_roundw
                      case rel => exact ⟨j + 1, _, by omega, by go_num, HO20.out, HX2.out, B9.out⟩
                      case measure => simp [intOf]; omega
                · have hj3 : decide ((j : Int) < n) = false := by simp; omega
                  go_wp2
                  go_roundw
                  case rel => exact ⟨i + 1, M, by omega, by go_num, HM.out, HX.out.skip (by omega), B8.out⟩
                  case measure => simp [intOf]; omega
            · have hi3 : decide ((i : Int) < n) = false := by simp; omega
              go_wp2_with fail
              refine (close_any n _ M wr HM.out.prs).mono ?_
              intro e w10 hc10
              obtain ⟨hb10, gs, rfl, hs10⟩ := hc10.ok (HX.out.close H0.out)
              have HSc := hidP hs10
              have HPc10 : Hid (Pc w10 (.pointer (some ⟨gp, 0, none⟩)) ps) := HPc8.out.later (below_step B8.out hb10)
              have HB10 : Hid (Below w.heap.size w w10) := below_step HB8.out (below_step B8.out hb10)
              have HE : Hid (∀ f g : Int, abB M f g = abB ps f g) := HX.out.ab
              have B8 : Hid (Below w10.heap.size w10 w10) := Below.refl _ _
              clear hc10 hb10 hs10 HX HM hi3 hi2
              go_wp2
              go_loopw [21] (fun i wr => ∃ j : Nat, (j : Int) ≤ n ∧ i = .int .i64 j ∧ Below w10.heap.size w10 wr) (fun i _ => (n - intOf i).toNat)
              case atStart => exact ⟨0, hn0, rfl, B8.out⟩
              case round =>
                clear B8
                obtain ⟨i, hi, rfl, hx3⟩ := hrel
                have B8 : Hid (Below w10.heap.size w10 wr) := hx3
                clear hx3
                by_cases hi2 : (i : Int) < n
                · have hid : decide ((i : Int) < n) = true := by simp [hi2]
                  go_wp2
                  go_loopw [22] (fun i wr => ∃ j : Nat, (j : Int) ≤ n ∧ i = .int .i64 j ∧ Below w10.heap.size w10 wr) (fun i _ => (n - intOf i).toNat)
                  case atStart => exact ⟨0, hn0, rfl, B8.out⟩
                  case round =>
                    clear B8
                    obtain ⟨j, hj, rfl, hx3⟩ := hrel
                    have B8 : Hid (Below w10.heap.size w10 wr) := hx3
                    clear hx3
                    by_cases hj2 : (j : Int) < n
                    · obtain ⟨x, hx⟩ : ∃ x, abB ps (i : Int) (j : Int) = x := ⟨_, rfl⟩
                      have Hx := hidP hx
                      clear hx
                      go_wp2_with fail
                      refine (above_any ps (.pointer (some ⟨gp, 0, none⟩)) (i : Int) (j : Int) wr (HPc10.out.later B8.out)).mono ?_
                      rintro e w11 ⟨rfl, hbn⟩
                      have B8n : Hid (Below w10.heap.size w10 w11) := below_step B8.out hbn
                      clear hbn B8
                      have B8 := B8n
                      clear B8n
                      rw [Hx.out]
                      go_wp2_with fail
                      refine (above_any M (.pointer (some ⟨gs, 0, none⟩)) (i : Int) (j : Int) w11 (HSc.out.later B8.out)).mono ?_
                      rintro e w12 ⟨rfl, hbn⟩
                      have B8n : Hid (Below w10.heap.size w10 w12) := below_step B8.out hbn
                      clear hbn B8
                      have B8 := B8n
                      clear B8n
                      rw [HE.out, Hx.out]
                      go_wp2
                      go_roundw
                      case rel => exact ⟨j + 1, by omega, by go_num, B8.out⟩
                      case measure => simp [intOf]; omega
                    · have hj3 : decide ((j : Int) < n) = false := by simp; omega
                      go_wp2
                      go_roundw
                      case rel => exact ⟨i + 1, by omega, by go_num, B8.out⟩
                      case measure => simp [intOf]; omega
                · have hi3 : decide ((i : Int) < n) = false := by simp; omega
                  go_wp2
                  go_ret
                  exact ⟨rfl, below_step HB10.out B8.out⟩
        · obtain ⟨k, hk, hkl⟩ : ∃ k : Nat, t % ((ps.length : Int) + 1) = (k : Int) ∧ k ≤ ps.length := rem_pos
          have HRp : Hid (Prs w7 (.slice ao k cap) (ps.take k)) := HPp.out.take hkl
          have hkc : k ≤ cap := by omega
          go_wp2_with fail
          refine (close_any n _ (ps.take k) w7 HRp.out).mono ?_
          intro e w8 hc8
          obtain ⟨hb8, gr, rfl, hr8⟩ := hc8.ok (closeE_take H0.out k)
          have HRc := hidP hr8
          have HPc8 : Hid (Pc w8 (.pointer (some ⟨gp, 0, none⟩)) ps) := HPc7.out.later hb8
          have HQc8 : Hid (Pc w8 (.pointer (some ⟨gq, 0, none⟩)) ps) := HQc.out.later hb8
          have HB8 : Hid (Below w.heap.size w w8) := below_step B1.out (below_step B7.out hb8)
          obtain ⟨v9, w9, hr9, hO9, hg9, _⟩ := join_prs 22 (empty_prs (w := w8) (base := w8.heap.size) (Nat.le_refl _)) ((HPp.out.later hb8).later (below_alloc (.cells #[] 31))) (below_alloc _).size (by simp; omega)
          rw [List.nil_append] at hO9
          have B8 : Hid (Below w8.heap.size w8 w9) := (empty_prs (w := w8) (base := w8.heap.size) (Nat.le_refl _)).grown (below_alloc _) hg9
          have HR9 := hidP hr9
          have HM := hidP hO9
          have hn0 : 0 ≤ n := (closeE_zero H0.out).1
          have hn1 : n ≤ 128 := (closeE_zero H0.out).2.1
          clear hc8 hb8 hr8 hr9 hO9 hg9 HQc HPc7
          go_wp2_with (first
            | (at_builtin; refine wpList_append_runP rfl _ _ _ rfl _ _ rfl rfl HR9.out ?_))
          go_loopw [16, 17] (fun u i wr => ∃ (j : Nat) (M : List (Int × Int)), (j : Int) ≤ n ∧ i = .int .i64 j ∧ OwQ wr w8.heap.size u M ∧ MoreI n ps M (j * 128) ∧ Below w8.heap.size w8 wr) (fun _ i _ => (n - intOf i).toNat)
          case atStart => exact ⟨0, ps, hn0, rfl, HM.out, (MoreI.start n ps).skip (by omega), B8.out⟩
          case round =>
            clear HM B8 HR9
            obtain ⟨i, M, hi, rfl, hx1, hx2, hx3⟩ := hrel
            obtain ⟨am, cm, rfl, _, _, _⟩ := Row.flat hx1.prs
            have HM : Hid (OwQ wr w8.heap.size (.slice am M.length cm) M) := hx1
            have HX : Hid (MoreI n ps M (i * 128)) := hx2
            have B8 : Hid (Below w8.heap.size w8 wr) := hx3
            clear hx1 hx2 hx3
            by_cases hi2 : (i : Int) < n
            · have hid : decide ((i : Int) < n) = true := by simp [hi2]
              go_wp2
              go_loopw [16, 18] (fun u x wr => ∃ (j : Nat) (M : List (Int × Int)), (j : Int) ≤ n ∧ x = .int .i64 j ∧ OwQ wr w8.heap.size u M ∧ MoreI n ps M (i * 128 + j) ∧ Below w8.heap.size w8 wr) (fun _ x _ => (n - intOf x).toNat)
              case atStart => exact ⟨0, M, hn0, rfl, HM.out, HX.out, B8.out⟩
              case round =>
                clear HM B8 HX
                obtain ⟨j, M, hj, rfl, hx1, hx2, hx3⟩ := hrel
                obtain ⟨am, cm, rfl, _, _, _⟩ := Row.flat hx1.prs
                have HM : Hid (OwQ wr w8.heap.size (.slice am M.length cm) M) := hx1
                have HX : Hid (MoreI n ps M (i * 128 + j)) := hx2
                have B8 : Hid (Below w8.heap.size w8 wr) := hx3
                clear hx1 hx2 hx3
                by_cases hj2 : (j : Int) < n
                · cases hx : abB ps (i : Int) (j : Int) with
                  | false =>
                    have Hx := hidP hx
                    have Hy : Hid (abB (ps.take k) (i : Int) (j : Int) = false) := by
                      show _ = _
                      rw [Bool.eq_false_iff]
                      intro hh
                      rw [abB_take hh] at hx
                      cases hx
                    clear hx
                    go_wp2_with fail
                    refine (above_any ps (.pointer (some ⟨gp, 0, none⟩)) (i : Int) (j : Int) wr (HPc8.out.later B8.out)).mono ?_
                    rintro e w11 ⟨rfl, hbn⟩
                    have B8n : Hid (Below w8.heap.size w8 w11) := below_step B8.out hbn
                    have HMn : Hid (OwQ w11 w8.heap.size (.slice am M.length cm) M) := HM.out.later hbn
                    clear hbn B8 HM
                    have B8 := B8n
                    clear B8n
                    have HM := HMn
                    clear HMn
                    rw [Hx.out]
                    go_wp2_with fail
                    refine (above_any ps (.pointer (some ⟨gq, 0, none⟩)) (i : Int) (j : Int) w11 (HQc8.out.later B8.out)).mono ?_
                    rintro e w12 ⟨rfl, hbn⟩
                    have B8n : Hid (Below w8.heap.size w8 w12) := below_step B8.out hbn
                    have HMn : Hid (OwQ w12 w8.heap.size (.slice am M.length cm) M) := HM.out.later hbn
                    clear hbn B8 HM
                    have B8 := B8n
                    clear B8n
                    have HM := HMn
                    clear HMn
                    rw [Hx.out]
                    go_wp2_with fail
                    refine (above_any (ps.take k) (.pointer (some ⟨gr, 0, none⟩)) (i : Int) (j : Int) w12 (HRc.out.later B8.out)).mono ?_
                    rintro e w13 ⟨rfl, hbn⟩
                    have B8n : Hid (Below w8.heap.size w8 w13) := below_step B8.out hbn
                    have HMn : Hid (OwQ w13 w8.heap.size (.slice am M.length cm) M) := HM.out.later hbn
                    clear hbn B8 HM
                    have B8 := B8n
                    clear B8n
                    have HM := HMn
                    clear HMn
                    rw [Hy.out]
                    go_wp2_with fail
                    refine (above_any ps (.pointer (some ⟨gp, 0, none⟩)) (i : Int) (j : Int) w13 (HPc8.out.later B8.out)).mono ?_
                    rintro e w14 ⟨rfl, hbn⟩
                    have B8n : Hid (Below w8.heap.size w8 w14) := below_step B8.out hbn
                    have HMn : Hid (OwQ w14 w8.heap.size (.slice am M.length cm) M) := HM.out.later hbn
                    clear hbn B8 HM
                    have B8 := B8n
                    clear B8n
                    have HM := HMn
                    clear HMn
                    rw [Hx.out]
                    go_wp2
                    go_roundw
                    case rel => exact ⟨j + 1, M, by omega, by go_num, HM.out, HX.out.skip (by omega), B8.out⟩
                    case measure => simp [intOf]; omega
                  | true =>
                    have Hx := hidP hx
                    clear hx
                    have HX2 : Hid (MoreI n ps (M ++ [((i : Int), (j : Int))]) (i * 128 + (j + 1))) := HX.out.add Hx.out
                    have hML := HX.out.len
                    have HML : Hid (M.length ≤ ps.length + (i * 128 + j)) := hML
                    clear hML
                    have hi9 : i ≤ 128 := by omega
                    have hj9 : j ≤ 128 := by omega
                    cases hy : abB (ps.take k) (i : Int) (j : Int) with
                    | false =>
                      have Hy := hidP hy
                      clear hy
                      go_wp2_with fail
                      refine (above_any ps (.pointer (some ⟨gp, 0, none⟩)) (i : Int) (j : Int) wr (HPc8.out.later B8.out)).mono ?_
                      rintro e w11 ⟨rfl, hbn⟩
                      have B8n : Hid (Below w8.heap.size w8 w11) := below_step B8.out hbn
                      have HMn : Hid (OwQ w11 w8.heap.size (.slice am M.length cm) M) := HM.out.later hbn
                      clear hbn B8 HM
                      have B8 := B8n
                      clear B8n
                      have HM := HMn
                      clear HMn
                      rw [Hx.out]
                      go_wp2_with fail
                      refine (above_any ps (.pointer (some ⟨gq, 0, none⟩)) (i : Int) (j : Int) w11 (HQc8.out.later B8.out)).mono ?_
                      rintro e w12 ⟨rfl, hbn⟩
                      have B8n : Hid (Below w8.heap.size w8 w12) := below_step B8.out hbn
                      have HMn : Hid (OwQ w12 w8.heap.size (.slice am M.length cm) M) := HM.out.later hbn
                      clear hbn B8 HM
                      have B8 := B8n
                      clear B8n
                      have HM := HMn
                      clear HMn
                      rw [Hx.out]
                      go_wp2_with fail
                      refine (above_any (ps.take k) (.pointer (some ⟨gr, 0, none⟩)) (i : Int) (j : Int) w12 (HRc.out.later B8.out)).mono ?_
                      rintro e w13 ⟨rfl, hbn⟩
                      have B8n : Hid (Below w8.heap.size w8 w13) := below_step B8.out hbn
                      have HMn : Hid (OwQ w13 w8.heap.size (.slice am M.length cm) M) := HM.out.later hbn
                      clear hbn B8 HM
                      have B8 := B8n
                      clear B8n
                      have HM := HMn
                      clear HMn
                      rw [Hy.out]
                      go_wp2_with fail
                      refine (above_any ps (.pointer (some ⟨gp, 0, none⟩)) (i : Int) (j : Int) w13 (HPc8.out.later B8.out)).mono ?_
                      rintro e w14 ⟨rfl, hbn⟩
                      have B8n : Hid (Below w8.heap.size w8 w14) := below_step B8.out hbn
                      have HMn : Hid (OwQ w14 w8.heap.size (.slice am M.length cm) M) := HM.out.later hbn
                      clear hbn B8 HM
                      have B8 := B8n
                      clear B8n
                      have HM := HMn
                      clear HMn
                      rw [Hx.out]
                      obtain ⟨v20, w20, hr20, hO20, hg20, _⟩ := join_prs 22 (HM.out.later (below_alloc (.cells #[.int .i64 (i : Int), .int .i64 (j : Int)] 31))) (prs_one w14 (i : Int) (j : Int) (by omega) (by omega)) (Nat.le_trans B8.out.size (below_alloc _).size) (by have := HML.out; simp; omega)
                      have B9 : Hid (Below w8.heap.size w8 w20) := (HM.out.later (below_alloc (.cells #[.int .i64 (i : Int), .int .i64 (j : Int)] 31))).grown (below_step B8.out (below_alloc _)) hg20
                      have HR20 := hidP hr20
                      have HO20 := hidP hO20
                      clear hr20 hO20 hg20
                      go_wp2_with (first
                        | (at_builtin; refine wpList_append_runP rfl _ _ _ rfl _ _ rfl rfl HR20.out ?_))
                      go_roundw
                      case rel => exact ⟨j + 1, _, by omega, by go_num, HO20.out, HX2.out, B9.out⟩
                      case measure => simp [intOf]; omega
                    | true =>
                      have Hy := hidP hy
                      clear hy
                      go_wp2_with fail
                      refine (above_any ps (.pointer (some ⟨gp, 0, none⟩)) (i : Int) (j : Int) wr (HPc8.out.later B8.out)).mono ?_
                      rintro e w11 ⟨rfl, hbn⟩
                      have B8n : Hid (Below w8.heap.size w8 w11) := below_step B8.out hbn
                      have HMn : Hid (OwQ w11 w8.heap.size (.slice am M.length cm) M) := HM.out.later hbn
                      clear hbn B8 HM
                      have B8 := B8n
                      clear B8n
                      have HM := HMn
                      clear HMn
                      rw [Hx.out]
                      go_wp2_with fail
                      refine (above_any ps (.pointer (some ⟨gq, 0, none⟩)) (i : Int) (j : Int) w11 (HQc8.out.later B8.out)).mono ?_
                      rintro e w12 ⟨rfl, hbn⟩
                      have B8n : Hid (Below w8.heap.size w8 w12) := below_step B8.out hbn
                      have HMn : Hid (OwQ w12 w8.heap.size (.slice am M.length cm) M) := HM.out.later hbn
                      clear hbn B8 HM
                      have B8 := B8n
                      clear B8n
                      have HM := HMn
                      clear HMn
                      rw [Hx.out]
                      go_wp2_with fail
                      refine (above_any (ps.take k) (.pointer (some ⟨gr, 0, none⟩)) (i : Int) (j : Int) w12 (HRc.out.later B8.out)).mono ?_
                      rintro e w13 ⟨rfl, hbn⟩
                      have B8n : Hid (Below w8.heap.size w8 w13) := below_step B8.out hbn
                      have HMn : Hid (OwQ w13 w8.heap.size (.slice am M.length cm) M) := HM.out.later hbn
                      clear hbn B8 HM
                      have B8 := B8n
                      clear B8n
                      have HM := HMn
                      clear HMn
                      rw [Hy.out]
                      go_wp2_with fail
                      refine (above_any ps (.pointer (some ⟨gp, 0, none⟩)) (i : Int) (j : Int) w13 (HPc8.out.later B8.out)).mono ?_
                      rintro e w14 ⟨rfl, hbn⟩
                      have B8n : Hid (Below w8.heap.size w8 w14) := below_step B8.out hbn
                      have HMn : Hid (OwQ w14 w8.heap.size (.slice am M.length cm) M) := HM.out.later hbn
                      clear hbn B8 HM
                      have B8 := B8n
                      clear B8n
                      have HM := HMn
                      clear HMn
                      rw [Hx.out]
                      go_wp2_with fail
                      refine (above_any ps (.pointer (some ⟨gp, 0, none⟩)) (i : Int) (j : Int) w14 (HPc8.out.later B8.out)).mono ?_
                      rintro e w15 ⟨rfl, hbn⟩
                      have B8n : Hid (Below w8.heap.size w8 w15) := below_step B8.out hbn
                      have HMn : Hid (OwQ w15 w8.heap.size (.slice am M.length cm) M) := HM.out.later hbn
                      clear hbn B8 HM
                      have B8 := B8n
                      clear B8n
                      have HM := HMn
                      clear HMn
                      rw [Hx.out]
                      obtain ⟨v20, w20, hr20, hO20, hg20, _⟩ := join_prs 22 (HM.out.later (below_alloc (.cells #[.int .i64 (i : Int), .int .i64 (j : Int)] 31))) (prs_one w15 (i : Int) (j : Int) (by omega) (by omega)) (Nat.le_trans B8.out.size (below_alloc _).size) (by have := HML.out; simp; omega)
                      have B9 : Hid (Below w8.heap.size w8 w20) := (HM.out.later (below_alloc (.cells #[.int .i64 (i : Int), .int .i64 (j : Int)] 31))).grown (below_step B8.out (below_alloc _)) hg20
                      have HR20 := hidP hr20
                      have HO20 := hidP hO20
                      clear hr20 hO20 hg20
                      go_wp2_with (first
                        | (at_builtin; refine wpList_append_runP rfl _ _ _ rfl _ _ rfl rfl HR20.out ?_))
                      go_roundw
                      case rel => exact ⟨j + 1, _, by omega, by go_num, HO20.out, HX2.out, B9.out⟩
                      case measure => simp [intOf]; omega
                · have hj3 : decide ((j : Int) < n) = false := by simp; omega
                  go_wp2
                  go_roundw
                  case rel => exact ⟨i + 1, M, by omega, by go_num, HM.out, HX.out.skip (by omega), B8.out⟩
                  case measure => simp [intOf]; omega
            · have hi3 : decide ((i : Int) < n) = false := by simp; omega
              go_wp2_with fail
              refine (close_any n _ M wr HM.out.prs).mono ?_
              intro e w10 hc10
              obtain ⟨hb10, gs, rfl, hs10⟩ := hc10.ok (HX.out.close H0.out)
              have HSc := hidP hs10
              have HPc10 : Hid (Pc w10 (.pointer (some ⟨gp, 0, none⟩)) ps) := HPc8.out.later (below_step B8.out hb10)
              have HB10 : Hid (Below w.heap.size w w10) := below_step HB8.out (below_step B8.out hb10)
              have HE : Hid (∀ f g : Int, abB M f g = abB ps f g) := HX.out.ab
              have B8 : Hid (Below w10.heap.size w10 w10) := Below.refl _ _
              clear hc10 hb10 hs10 HX HM hi3 hi2
              go_wp2
              go_loopw [21] (fun i wr => ∃ j : Nat, (j : Int) ≤ n ∧ i = .int .i64 j ∧ Below w10.heap.size w10 wr) (fun i _ => (n - intOf i).toNat)
              case atStart => exact ⟨0, hn0, rfl, B8.out⟩
              case round =>
                clear B8
                obtain ⟨i, hi, rfl, hx3⟩ := hrel
                have B8 : Hid (Below w10.heap.size w10 wr) := hx3
                clear hx3
                by_cases hi2 : (i : Int) < n
                · have hid : decide ((i : Int) < n) = true := by simp [hi2]
                  go_wp2
                  go_loopw [22] (fun i wr => ∃ j : Nat, (j : Int) ≤ n ∧ i = .int .i64 j ∧ Below w10.heap.size w10 wr) (fun i _ => (n - intOf i).toNat)
                  case atStart => exact ⟨0, hn0, rfl, B8.out⟩
                  case round =>
                    clear B8
                    obtain ⟨j, hj, rfl, hx3⟩ := hrel
                    have B8 : Hid (Below w10.heap.size w10 wr) := hx3
                    clear hx3
                    by_cases hj2 : (j : Int) < n
                    · obtain ⟨x, hx⟩ : ∃ x, abB ps (i : Int) (j : Int) = x := ⟨_, rfl⟩
                      have Hx := hidP hx
                      clear hx
                      go_wp2_with fail
                      refine (above_any ps (.pointer (some ⟨gp, 0, none⟩)) (i : Int) (j : Int) wr (HPc10.out.later B8.out)).mono ?_
                      rintro e w11 ⟨rfl, hbn⟩
                      have B8n : Hid (Below w10.heap.size w10 w11) := below_step B8.out hbn
                      clear hbn B8
                      have B8 := B8n
                      clear B8n
                      rw [Hx.out]
                      go_wp2_with fail
                      refine (above_any M (.pointer (some ⟨gs, 0, none⟩)) (i : Int) (j : Int) w11 (HSc.out.later B8.out)).mono ?_
                      rintro e w12 ⟨rfl, hbn⟩
                      have B8n : Hid (Below w10.heap.size w10 w12) := below_step B8.out hbn
                      clear hbn B8
                      have B8 := B8n
                      clear B8n
                      rw [HE.out, Hx.out]
                      go_wp2
                      go_roundw
                      case rel => exact ⟨j + 1, by omega, by go_num, B8.out⟩
                      case measure => simp [intOf]; omega
                    · have hj3 : decide ((j : Int) < n) = false := by simp; omega
                      go_wp2
                      go_roundw
                      case rel => exact ⟨i + 1, by omega, by go_num, B8.out⟩
                      case measure => simp [intOf]; omega
                · have hi3 : decide ((i : Int) < n) = false := by simp; omega
                  go_wp2
                  go_ret
                  exact ⟨rfl, below_step HB10.out B8.out⟩
      · obtain ⟨_, rfl⟩ := HC.out.err rfl h0
        have he2 : closeE n (ps.reverse ++ ps) = closeE n ps := closeE_same (back_same ps)
        have HE2 := hidP he2
        clear he2
        generalize hcc : closeE n ps = c at *
        go_wp2_with (first
          | fail
          | (at_builtin; refine wpList_append_runP rfl _ _ _ rfl _ _ rfl rfl HR5.out ?_)
          | (at_builtin; refine wpList_append_runP rfl _ _ _ rfl _ _ rfl rfl HR6.out ?_))
        refine (close_any n _ (ps.reverse ++ ps) w6 HO6.out).mono ?_
        intro e w7 hc7
        obtain ⟨hb7, rfl⟩ := hc7.err HE2.out h0
        have B7 : Hid (Below w.heap.size w w7) := below_step B1.out (below_step (below_step B4.out B6.out) hb7)
        clear hc7 hb7 HR5 HR6
        go_wp2
        go_ret
        exact ⟨rfl, B7.out⟩

end Go.Proofs.Ytagndlcpcggmpaa
