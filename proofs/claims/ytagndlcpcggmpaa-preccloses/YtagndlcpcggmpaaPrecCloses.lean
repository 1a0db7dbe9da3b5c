/- All pairs, and each two numbers: the program's precedence is the document's. -/
import Derived.Test.YtagndlcpcggmpaaTPrcZ
namespace Go.Proofs.Ytagndlcpcggmpaa
open Go.RowKit Go.Maps

set_option maxRecDepth 100000 in
set_option maxHeartbeats 6400000 in
theorem precCloses_any (n : Int) (v : Value) (ps : List (Int × Int)) (f g : Int) (w : World) (hp : Prs w v ps) (hl : ps.length * 16 ≤ 140737488351232) :
    Calls Try.prog 3 #[.int .i64 n, v, .int .i64 f, .int .i64 g] w fun e w' => e = .returned (.bool true) ∧ Below w.heap.size w w' := by
  obtain ⟨ao, cap, rfl, hcap, hcm, _⟩ := Row.flat hp
  unfold maxLen at hcm
  have HP : Hid (Prs w (.slice ao ps.length cap) ps) := hp
  clear hp
  go_enter Try.func3, Try.ntmps3
  go_wp2_with fail
  refine (shown10_any w).mono ?_
  rintro e w1 ⟨rfl, hb1⟩
  have B1 : Hid (Below w.heap.size w w1) := hb1
  clear hb1
  obtain ⟨v2, w2, hr2, hO2, hg2, _⟩ := join_prs 22 (empty_prs (w := w1) (base := w1.heap.size) (Nat.le_refl _)) ((HP.out.later B1.out).later (below_alloc (.cells #[] 31))) (below_alloc _).size (by simp; omega)
  rw [List.nil_append] at hO2
  have hb2 : Below w1.heap.size w1 w2 := (empty_prs (w := w1) (base := w1.heap.size) (Nat.le_refl _)).grown (below_alloc _) hg2
  obtain ⟨a2, c2, rfl, hc2, hc2m, _⟩ := Row.flat hO2.prs
  unfold maxLen at hc2m
  have HR2 := hidP hr2
  have B2 : Hid (Below w.heap.size w w2) := below_step B1.out hb2
  have HO2 : Hid (OwQ w2 w1.heap.size (.slice a2 ps.length c2) ps) := hO2
  have hw1 : Hid (w.heap.size ≤ w1.heap.size) := B1.out.size
  clear hr2 hO2 hg2 hb2 B1
  go_wp2_with (first
    | fail
    | (at_builtin; refine wpList_append_runP rfl _ _ _ rfl _ _ rfl rfl HR2.out ?_))
  refine (close_any n _ ps w2 HO2.out.prs).mono ?_
  intro e w3 hc3
  have B3 : Hid (Below w.heap.size w w3) := below_step B2.out hc3.1
  have HO3 := hidP (HO2.out.later hc3.1)
  have HC3 := hidP hc3
  clear hc3 HR2 HO2
  by_cases h0 : closeE n ps = 0
  · obtain ⟨_, gp, rfl, hp3⟩ := HC3.out.ok h0
    have HPc := hidP hp3
    have H0 := hidP h0
    clear hp3 h0 HC3
    go_wp2_with fail
    refine (refClose_any n _ ps w3 (HP.out.later B3.out)).mono ?_
    intro e w4 hc4
    obtain ⟨hb4, gq, rfl, hq4⟩ := hc4.ok H0.out
    have HQc := hidP hq4
    have HPc := hidP (HPc.out.later hb4)
    have HO4 : Hid (OwQ w4 w1.heap.size (.slice a2 ps.length c2) (ovr ps 0)) := HO3.out.later hb4
    have B4 : Hid (Below w.heap.size w w4) := below_step B3.out hb4
    clear hc4 hb4 hq4 HO3 B3
    go_wp2
    go_loopw [15] (fun i wr => ∃ k : Nat, k ≤ ps.length ∧ i = .int .i64 k ∧ OwQ wr w1.heap.size (.slice a2 ps.length c2) (ovr ps k) ∧ Below w.heap.size w wr ∧ Pc wr (.pointer (some ⟨gp, 0, none⟩)) ps ∧ Rc wr (.pointer (some ⟨gq, 0, none⟩)) ps) (fun i _ => ps.length - (intOf i).toNat)
    case atStart => exact ⟨0, by omega, rfl, HO4.out, B4.out, HPc.out, HQc.out⟩
    case round =>
      clear HO4 B4 HPc HQc
      obtain ⟨k, hk, rfl, hO, hbl, hx1, hx2⟩ := hrel
      have HO4 : Hid (OwQ wr w1.heap.size (.slice a2 ps.length c2) (ovr ps k)) := hO
      have B4 : Hid (Below w.heap.size w wr) := hbl
      have HPc : Hid (Pc wr (.pointer (some ⟨gp, 0, none⟩)) ps) := hx1
      have HQc : Hid (Rc wr (.pointer (some ⟨gq, 0, none⟩)) ps) := hx2
      clear hO hbl hx1 hx2
      by_cases hk2 : k < ps.length
      · obtain ⟨go, oo, a, b, ha2, hab, c1, c3, ha, hb⟩ := HO4.out.prs.at (k := k) (by rw [ovr_len hk]; exact hk2)
        obtain ⟨gi, oi, a', b', hao, hab2, c5, c6, _, _⟩ := (HP.out.later B4.out).at hk2
        rw [ovr_at, hab2] at hab
        simp only [Option.some.injEq, Prod.mk.injEq] at hab
        obtain ⟨rfl, rfl⟩ := hab
        subst hao
        obtain ⟨rfl, hoo⟩ : oo = 0 ∧ True := ⟨by obtain ⟨g9, cp9, hv9⟩ := own_form HO4.out.2 (by rw [ovr_len hk]; omega); simp only [Value.slice.injEq] at hv9; rw [hv9.1] at ha2; simp only [Option.some.injEq, Addr.mk.injEq] at ha2; exact ha2.2.1.symm, trivial⟩
        subst ha2
        rw [Nat.zero_add] at c1 c3
        have HB9 := hidP HO4.out.blk
        have hO9 : OwQ wr w1.heap.size (.slice (some ⟨go, 0, none⟩) (ovr ps k).length c2) (ovr ps k) := by rw [ovr_len hk]; exact HO4.out
        have hO8 := hO9.put (k := k) (a := 0) (b := 1) (by rw [ovr_len hk]; exact hk2) (by decide) (by decide)
        rw [ovr_step hk2, ovr_len hk] at hO8
        have HO8 := hidP hO8
        have B8 := hidP ((B4.out.setCell (p := ⟨go, k * 2, none⟩) (Nat.le_trans hw1.out HB9.out.1) (.int .i64 0)).setCell (p := ⟨go, k * 2 + 1, none⟩) (Nat.le_trans hw1.out HB9.out.1) (.int .i64 1))
        have HPc8 := hidP ((HPc.out.put (k := k * 2) (u := .int .i64 0) HB9.out.2).put (k := k * 2 + 1) (u := .int .i64 1) (pair_put HB9.out.2))
        have HQc8 := hidP ((HQc.out.put (k := k * 2) (u := .int .i64 0) HB9.out.2).put (k := k * 2 + 1) (u := .int .i64 1) (pair_put HB9.out.2))
        have f1 : wr.frozen? ⟨go, k * 2, none⟩ = false := by obtain ⟨c, hc⟩ := HB9.out.2; exact frozen_of_row _ _ _ _ _ hc
        have f2 : wr.frozen? ⟨go, k * 2 + 1, none⟩ = false := by obtain ⟨c, hc⟩ := HB9.out.2; exact frozen_of_row _ _ _ _ _ hc
        have hnq := fun w => run_eq_pair w a' b'
        have hkc : k < c2 := by omega
        clear hO9 hO8 hoo hab2
        go_wp2
        go_region
        go_wp2
        go_roundw
        case rel => exact ⟨k + 1, by omega, by go_num, HO8.out.later (Below.refl _ _).drew, B8.out.drew, HPc8.out.later (Below.refl _ _).drew, HQc8.out.later (Below.refl _ _).drew⟩
        case measure => simp [intOf]; omega
      · obtain rfl : k = ps.length := by omega
        have hn0 : 0 ≤ n := (closeE_zero H0.out).1
        have hn1 : n ≤ 128 := (closeE_zero H0.out).2.1
        go_wp2
        go_loopw [16] (fun x wr => ∃ j : Nat, (j : Int) ≤ n + 2 ∧ x = .int .i64 ((j : Int) - 1) ∧ Pc wr (.pointer (some ⟨gp, 0, none⟩)) ps ∧ Rc wr (.pointer (some ⟨gq, 0, none⟩)) ps ∧ Below w.heap.size w wr) (fun x _ => (n + 2 - intOf x).toNat)
        case atStart => exact ⟨0, by omega, rfl, HPc.out, HQc.out, B4.out⟩
        case round =>
          clear HPc HQc B4
          obtain ⟨i, hi, rfl, hx1, hx2, hx3⟩ := hrel
          have HPc : Hid (Pc wr (.pointer (some ⟨gp, 0, none⟩)) ps) := hx1
          have HQc : Hid (Rc wr (.pointer (some ⟨gq, 0, none⟩)) ps) := hx2
          have B4 : Hid (Below w.heap.size w wr) := hx3
          clear hx1 hx2 hx3
          obtain ⟨x, hx⟩ : ∃ x : Int, (i : Int) - 1 = x := ⟨_, rfl⟩
          have HX : Hid ((i : Int) - 1 = x) := hx
          rw [hx]
          clear hx
          by_cases hi2 : x ≤ n
          · have hid : decide (x ≤ n) = true := by simp [hi2]
            go_wp2
            go_loopw [17] (fun x wr => ∃ j : Nat, (j : Int) ≤ n + 2 ∧ x = .int .i64 ((j : Int) - 1) ∧ Pc wr (.pointer (some ⟨gp, 0, none⟩)) ps ∧ Rc wr (.pointer (some ⟨gq, 0, none⟩)) ps ∧ Below w.heap.size w wr) (fun x _ => (n + 2 - intOf x).toNat)
            case atStart => exact ⟨0, by omega, rfl, HPc.out, HQc.out, B4.out⟩
            case round =>
              clear HPc HQc B4
              obtain ⟨j, hj, rfl, hx1, hx2, hx3⟩ := hrel
              have HPc : Hid (Pc wr (.pointer (some ⟨gp, 0, none⟩)) ps) := hx1
              have HQc : Hid (Rc wr (.pointer (some ⟨gq, 0, none⟩)) ps) := hx2
              have B4 : Hid (Below w.heap.size w wr) := hx3
              clear hx1 hx2 hx3
              obtain ⟨y, hy⟩ : ∃ y : Int, (j : Int) - 1 = y := ⟨_, rfl⟩
              have HY : Hid ((j : Int) - 1 = y) := hy
              rw [hy]
              clear hy
              by_cases hj2 : y ≤ n
              · obtain ⟨z, hz⟩ : ∃ z, abB ps x y = z := ⟨_, rfl⟩
                have HZ := hidP hz
                clear hz
                have hyb : -1 ≤ y := by have := HY.out; omega
                go_wp2_with fail
                refine (above_any ps _ x y wr HPc.out).mono ?_
                rintro e w5 ⟨rfl, hbn⟩
                have HPcn : Hid (Pc w5 (.pointer (some ⟨gp, 0, none⟩)) ps) := HPc.out.later hbn
                have HQcn : Hid (Rc w5 (.pointer (some ⟨gq, 0, none⟩)) ps) := HQc.out.later hbn
                have B4n : Hid (Below w.heap.size w w5) := below_step B4.out hbn
                clear hbn HPc HQc B4
                have HPc := HPcn
                have HQc := HQcn
                have B4 := B4n
                clear HPcn HQcn B4n
                rw [HZ.out]
                go_wp2_with fail
                refine (refAbove_any ps _ x y w5 HQc.out).mono ?_
                rintro e w6 ⟨rfl, hwn⟩
                obtain rfl : w5 = w6 := hwn.symm
                rw [HZ.out]
                go_wp2
                go_roundw
                case rel => exact ⟨j + 1, by have := HY.out; omega, by have := HY.out; go_num, HPc.out, HQc.out, B4.out⟩
                case measure => simp [intOf]; omega
              · have hj3 : decide (y ≤ n) = false := by simp; omega
                have hxb : -1 ≤ x := by have := HX.out; omega
                go_wp2
                go_roundw
                case rel => exact ⟨i + 1, by have := HX.out; omega, by have := HX.out; go_num, HPc.out, HQc.out, B4.out⟩
                case measure => simp [intOf]; omega
          · have hi3 : decide (x ≤ n) = false := by simp; omega
            obtain ⟨z, hz⟩ : ∃ z, abB ps f g = z := ⟨_, rfl⟩
            have HZ := hidP hz
            clear hz
            go_wp2_with fail
            refine (above_any ps _ f g wr HPc.out).mono ?_
            rintro e w5 ⟨rfl, hbn⟩
            have HPcn : Hid (Pc w5 (.pointer (some ⟨gp, 0, none⟩)) ps) := HPc.out.later hbn
            have HQcn : Hid (Rc w5 (.pointer (some ⟨gq, 0, none⟩)) ps) := HQc.out.later hbn
            have B4n : Hid (Below w.heap.size w w5) := below_step B4.out hbn
            clear hbn HPc HQc B4
            have HPc := HPcn
            have HQc := HQcn
            have B4 := B4n
            clear HPcn HQcn B4n
            rw [HZ.out]
            go_wp2_with fail
            refine (refAbove_any ps _ f g w5 HQc.out).mono ?_
            rintro e w6 ⟨rfl, hwn⟩
            obtain rfl : w5 = w6 := hwn.symm
            rw [HZ.out]
            go_wp2
            go_ret
            exact ⟨ret1b (by simp), B4.out⟩
  · obtain ⟨_, rfl⟩ := HC3.out.err rfl h0
    have HE : Hid (closeE n ps = closeE n ps) := rfl
    clear HC3 HE
    generalize hcc : closeE n ps = c at h0 ⊢
    have HCC := hidP hcc
    clear hcc
    go_wp2_with fail
    refine (refClose_any n _ ps w3 (HP.out.later B3.out)).mono ?_
    intro e w4 hc4
    obtain ⟨hb4, rfl⟩ := hc4.err HCC.out h0
    have HO4 : Hid (OwQ w4 w1.heap.size (.slice a2 ps.length c2) (ovr ps 0)) := HO3.out.later hb4
    have B4 : Hid (Below w.heap.size w w4) := below_step B3.out hb4
    clear hc4 hb4 HO3 B3
    go_wp2
    go_loopw [15] (fun i wr => ∃ k : Nat, k ≤ ps.length ∧ i = .int .i64 k ∧ OwQ wr w1.heap.size (.slice a2 ps.length c2) (ovr ps k) ∧ Below w.heap.size w wr) (fun i _ => ps.length - (intOf i).toNat)
    case atStart => exact ⟨0, by omega, rfl, HO4.out, B4.out⟩
    case round =>
      clear HO4 B4
      obtain ⟨k, hk, rfl, hO, hbl⟩ := hrel
      have HO4 : Hid (OwQ wr w1.heap.size (.slice a2 ps.length c2) (ovr ps k)) := hO
      have B4 : Hid (Below w.heap.size w wr) := hbl
      clear hO hbl
      by_cases hk2 : k < ps.length
      · obtain ⟨go, oo, a, b, ha2, hab, c1, c3, ha, hb⟩ := HO4.out.prs.at (k := k) (by rw [ovr_len hk]; exact hk2)
        obtain ⟨gi, oi, a', b', hao, hab2, c5, c6, _, _⟩ := (HP.out.later B4.out).at hk2
        rw [ovr_at, hab2] at hab
        simp only [Option.some.injEq, Prod.mk.injEq] at hab
        obtain ⟨rfl, rfl⟩ := hab
        subst hao
        obtain ⟨rfl, hoo⟩ : oo = 0 ∧ True := ⟨by obtain ⟨g9, cp9, hv9⟩ := own_form HO4.out.2 (by rw [ovr_len hk]; omega); simp only [Value.slice.injEq] at hv9; rw [hv9.1] at ha2; simp only [Option.some.injEq, Addr.mk.injEq] at ha2; exact ha2.2.1.symm, trivial⟩
        subst ha2
        rw [Nat.zero_add] at c1 c3
        have HB9 := hidP HO4.out.blk
        have hO9 : OwQ wr w1.heap.size (.slice (some ⟨go, 0, none⟩) (ovr ps k).length c2) (ovr ps k) := by rw [ovr_len hk]; exact HO4.out
        have hO8 := hO9.put (k := k) (a := 0) (b := 1) (by rw [ovr_len hk]; exact hk2) (by decide) (by decide)
        rw [ovr_step hk2, ovr_len hk] at hO8
        have HO8 := hidP hO8
        have B8 := hidP ((B4.out.setCell (p := ⟨go, k * 2, none⟩) (Nat.le_trans hw1.out HB9.out.1) (.int .i64 0)).setCell (p := ⟨go, k * 2 + 1, none⟩) (Nat.le_trans hw1.out HB9.out.1) (.int .i64 1))
        have f1 : wr.frozen? ⟨go, k * 2, none⟩ = false := by obtain ⟨c, hc⟩ := HB9.out.2; exact frozen_of_row _ _ _ _ _ hc
        have f2 : wr.frozen? ⟨go, k * 2 + 1, none⟩ = false := by obtain ⟨c, hc⟩ := HB9.out.2; exact frozen_of_row _ _ _ _ _ hc
        have hnq := fun w => run_eq_pair w a' b'
        have hkc : k < c2 := by omega
        clear hO9 hO8 hoo hab2
        go_wp2
        go_region
        go_wp2
        go_roundw
        case rel => exact ⟨k + 1, by omega, by go_num, HO8.out.later (Below.refl _ _).drew, B8.out.drew⟩
        case measure => simp [intOf]; omega
      · obtain rfl : k = ps.length := by omega
        go_wp2
        go_ret
        exact ⟨rfl, B4.out⟩

end Go.Proofs.Ytagndlcpcggmpaa
