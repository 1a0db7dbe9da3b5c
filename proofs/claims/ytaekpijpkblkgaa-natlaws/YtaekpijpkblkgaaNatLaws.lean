/- Proved: for every three rows of limbs the law NatLaws answers true (sums and products may change their sides, be put together, and keep what comparing tells, where none of them is too big), and its arguments read afterwards as before. No condition. -/
import Derived.Test.YtaekpijpkblkgaaRight
import Derived.Deep.Cut
import Derived.Deep.CutRange
namespace Go.Proofs.Ytaekpijpkblkgaa
open Go.ChangeShapes Go.WideShapes Go.ChangeAt Go.RowKit

set_option maxRecDepth 10000 in
set_option maxHeartbeats 4000000 in
theorem natLaws_any (va vb vc : Value) (xs ys zs : List Nat) (w : World) (ha : Sl w va xs) (hb : Sl w vb ys) (hc : Sl w vc zs) :
    Calls Try.prog 8 #[va, vb, vc] w fun e w' => e = .returned (.bool true) ∧ Below w.heap.size w w' := by
  obtain ⟨ac, capc, rfl, hlc, hmc, q0⟩ := hc.flat
  unfold maxLen at hmc
  clear q0
  obtain ⟨X, hX⟩ : ∃ X, val xs = X := ⟨_, rfl⟩
  obtain ⟨Y, hY⟩ : ∃ Y, val ys = Y := ⟨_, rfl⟩
  obtain ⟨Z, hZ⟩ : ∃ Z, val zs = Z := ⟨_, rfl⟩
  have KX : Hid (val xs = X) := hX
  have KY : Hid (val ys = Y) := hY
  have KZ : Hid (val zs = Z) := hZ
  clear hX hY hZ
  go_enter Try.func8, Try.ntmps8
  go_wp2_with fail
  refine (shown_any _).mono ?_
  rintro e w0 ⟨rfl, hb_0⟩
  have sa_0 := ha.later hb_0
  have sb_0 := hb.later hb_0
  have sc_0 := hc.later hb_0
  clear ha hb hc
  go_wp2_with fail
  refine (refRight_any _ _ _ sa_0).mono ?_
  rintro e w1 ⟨rfl, hw⟩
  subst hw
  cases hrx : rightB xs
  · go_wp2
    go_ret
    exact ⟨rfl, hb_0⟩
  go_wp2_with fail
  refine (refRight_any _ _ _ sb_0).mono ?_
  rintro e w2 ⟨rfl, hw⟩
  subst hw
  cases hry : rightB ys
  · go_wp2
    go_ret
    exact ⟨rfl, hb_0⟩
  go_wp2_with fail
  refine (refRight_any _ _ _ sc_0).mono ?_
  rintro e w3 ⟨rfl, hw⟩
  subst hw
  cases hrz : rightB zs
  · go_wp2
    go_ret
    exact ⟨rfl, hb_0⟩
  go_wp2_with fail
  refine (add_right _ _ xs ys _ sa_0 sb_0 hrx hry (X + Y) (by rw [KX.out, KY.out])).mono ?_
  rintro e w1 ⟨vab, rfl, oab, hb⟩
  have sab_1 := oab.sl
  clear oab
  have sa_1 := sa_0.later hb
  have sb_1 := sb_0.later hb
  have sc_1 := sc_0.later hb
  have hb_1 := bnext hb_0 hb
  clear hb hb_0 sa_0 sb_0 sc_0
  go_wp2_with fail
  refine (add_right _ _ ys xs _ sb_1 sa_1 hry hrx (X + Y) (by rw [KX.out, KY.out]; omega)).mono ?_
  rintro e w2 ⟨vba, rfl, oba, hb⟩
  have sba_2 := oba.sl
  clear oba
  have sa_2 := sa_1.later hb
  have sb_2 := sb_1.later hb
  have sc_2 := sc_1.later hb
  have sab_2 := sab_1.later hb
  have hb_2 := bnext hb_1 hb
  clear hb hb_1 sa_1 sb_1 sc_1 sab_1
  go_wp2_with fail
  refine (add_right _ _ ys zs _ sb_2 sc_2 hry hrz (Y + Z) (by rw [KY.out, KZ.out])).mono ?_
  rintro e w3 ⟨vbc, rfl, obc, hb⟩
  have sbc_3 := obc.sl
  clear obc
  have sa_3 := sa_2.later hb
  have sb_3 := sb_2.later hb
  have sc_3 := sc_2.later hb
  have sab_3 := sab_2.later hb
  have sba_3 := sba_2.later hb
  have hb_3 := bnext hb_2 hb
  clear hb hb_2 sa_2 sb_2 sc_2 sab_2 sba_2
  go_wp2_with fail
  refine (mul_right _ _ xs ys _ sa_3 sb_3 hrx hry (X * Y) (by rw [KX.out, KY.out])).mono ?_
  rintro e w4 ⟨vp, rfl, op, hb⟩
  have sp_4 := op.sl
  clear op
  have sa_4 := sa_3.later hb
  have sb_4 := sb_3.later hb
  have sc_4 := sc_3.later hb
  have sab_4 := sab_3.later hb
  have sba_4 := sba_3.later hb
  have sbc_4 := sbc_3.later hb
  have hb_4 := bnext hb_3 hb
  clear hb hb_3 sa_3 sb_3 sc_3 sab_3 sba_3 sbc_3
  go_wp2_with fail
  refine (mul_right _ _ ys xs _ sb_4 sa_4 hry hrx (X * Y) (by rw [KX.out, KY.out, Nat.mul_comm])).mono ?_
  rintro e w5 ⟨vq, rfl, oq, hb⟩
  have sq_5 := oq.sl
  clear oq
  have sa_5 := sa_4.later hb
  have sb_5 := sb_4.later hb
  have sc_5 := sc_4.later hb
  have sab_5 := sab_4.later hb
  have sba_5 := sba_4.later hb
  have sbc_5 := sbc_4.later hb
  have sp_5 := sp_4.later hb
  have hb_5 := bnext hb_4 hb
  clear hb hb_4 sa_4 sb_4 sc_4 sab_4 sba_4 sbc_4 sp_4
  go_wp2_with fail
  refine (mul_right _ _ xs zs _ sa_5 sc_5 hrx hrz (X * Z) (by rw [KX.out, KZ.out])).mono ?_
  rintro e w6 ⟨vr, rfl, or, hb⟩
  have sr_6 := or.sl
  clear or
  have sa_6 := sa_5.later hb
  have sb_6 := sb_5.later hb
  have sc_6 := sc_5.later hb
  have sab_6 := sab_5.later hb
  have sba_6 := sba_5.later hb
  have sbc_6 := sbc_5.later hb
  have sp_6 := sp_5.later hb
  have sq_6 := sq_5.later hb
  have hb_6 := bnext hb_5 hb
  clear hb hb_5 sa_5 sb_5 sc_5 sab_5 sba_5 sbc_5 sp_5 sq_5
  go_wp2_with fail
  refine (same_any _ _ _ _ _ sab_6 sba_6).mono ?_
  rintro e w7 ⟨rfl, nd, hw⟩
  have hb := below_of_drawn hw
  clear hw
  rw [dec_same]
  have sa_7 := sa_6.later hb
  have sb_7 := sb_6.later hb
  have sc_7 := sc_6.later hb
  have sab_7 := sab_6.later hb
  have sba_7 := sba_6.later hb
  have sbc_7 := sbc_6.later hb
  have sp_7 := sp_6.later hb
  have sq_7 := sq_6.later hb
  have sr_7 := sr_6.later hb
  have hb_7 := bnext hb_6 hb
  clear hb hb_6 sa_6 sb_6 sc_6 sab_6 sba_6 sbc_6 sp_6 sq_6 sr_6
  go_wp2_with fail
  refine (same_any _ _ _ _ _ sp_7 sq_7).mono ?_
  rintro e w8 ⟨rfl, nd, hw⟩
  have hb := below_of_drawn hw
  clear hw
  rw [dec_same]
  have sa_8 := sa_7.later hb
  have sb_8 := sb_7.later hb
  have sc_8 := sc_7.later hb
  have sab_8 := sab_7.later hb
  have sba_8 := sba_7.later hb
  have sbc_8 := sbc_7.later hb
  have sp_8 := sp_7.later hb
  have sq_8 := sq_7.later hb
  have sr_8 := sr_7.later hb
  have hb_8 := bnext hb_7 hb
  clear hb hb_7 sa_7 sb_7 sc_7 sab_7 sba_7 sbc_7 sp_7 sq_7 sr_7
  obtain ⟨B, hB⟩ : ∃ B, (okB (X + Y) && okB (Y + Z)) = B := ⟨_, rfl⟩
  have KB : Hid ((okB (X + Y) && okB (Y + Z)) = B) := hB
  clear hB
  go_upto_region 17 with fail
  go_cut [124] from 119 to 124 (fun c wx => c = .bool B ∧ wx = w8)
  case first =>
    cases h1 : okB (X + Y)
    · have f1 : (resE (X + Y) == 0) = false := by rw [okB_int, h1]
      go_wp2
      go_meet
      case rel => exact ⟨by rw [← KB.out, h1]; rfl, rfl⟩
    · have f1 : (resE (X + Y) == 0) = true := by rw [okB_int, h1]
      have f3 : (resE (Y + Z) == 0) = okB (Y + Z) := okB_int _
      go_wp2
      go_meet
      case rel => exact ⟨by rw [← KB.out, h1]; rfl, rfl⟩
  obtain ⟨rfl, rfl⟩ := hcut
  go_upto_if 124 with fail
  go_cut [] from 23 (fun wx => Below wc.heap.size wc wx)
  case first =>
    cases B
    · go_wp2
      go_meet
      case rel => exact Below.refl _ _
    have h1 : okB (X + Y) = true := (Bool.and_eq_true_iff.1 KB.out).1
    have h3 : okB (Y + Z) = true := (Bool.and_eq_true_iff.1 KB.out).2
    clear hb_8
    have hb_8 := Below.refl wc.heap.size wc
    go_wp2_with fail
    refine (add_right _ _ (resL (X + Y)) zs _ sab_8 sc_8 (right_resL _) hrz (X + Y + Z) (by rw [val_resL h1, KZ.out])).mono ?_
    rintro e w9 ⟨vx, rfl, ox, hb⟩
    have sx_9 := ox.sl
    clear ox
    have sa_9 := sa_8.later hb
    have sb_9 := sb_8.later hb
    have sc_9 := sc_8.later hb
    have sab_9 := sab_8.later hb
    have sba_9 := sba_8.later hb
    have sbc_9 := sbc_8.later hb
    have sp_9 := sp_8.later hb
    have sq_9 := sq_8.later hb
    have sr_9 := sr_8.later hb
    have hb_9 := bnext hb_8 hb
    clear hb hb_8 sa_8 sb_8 sc_8 sab_8 sba_8 sbc_8 sp_8 sq_8 sr_8
    go_wp2_with fail
    refine (add_right _ _ xs (resL (Y + Z)) _ sa_9 sbc_9 hrx (right_resL _) (X + Y + Z) (by rw [val_resL h3, KX.out]; omega)).mono ?_
    rintro e w10 ⟨vy, rfl, oy, hb⟩
    have sy_10 := oy.sl
    clear oy
    have sa_10 := sa_9.later hb
    have sb_10 := sb_9.later hb
    have sc_10 := sc_9.later hb
    have sab_10 := sab_9.later hb
    have sba_10 := sba_9.later hb
    have sbc_10 := sbc_9.later hb
    have sp_10 := sp_9.later hb
    have sq_10 := sq_9.later hb
    have sr_10 := sr_9.later hb
    have sx_10 := sx_9.later hb
    have hb_10 := bnext hb_9 hb
    clear hb hb_9 sa_9 sb_9 sc_9 sab_9 sba_9 sbc_9 sp_9 sq_9 sr_9 sx_9
    go_wp2_with fail
    refine (same_any _ _ _ _ _ sx_10 sy_10).mono ?_
    rintro e w11 ⟨rfl, nd, hw⟩
    have hb := below_of_drawn hw
    clear hw
    rw [dec_same]
    have sa_11 := sa_10.later hb
    have sb_11 := sb_10.later hb
    have sc_11 := sc_10.later hb
    have sab_11 := sab_10.later hb
    have sba_11 := sba_10.later hb
    have sbc_11 := sbc_10.later hb
    have sp_11 := sp_10.later hb
    have sq_11 := sq_10.later hb
    have sr_11 := sr_10.later hb
    have sx_11 := sx_10.later hb
    have sy_11 := sy_10.later hb
    have hb_11 := bnext hb_10 hb
    clear hb hb_10 sa_10 sb_10 sc_10 sab_10 sba_10 sbc_10 sp_10 sq_10 sr_10 sx_10 sy_10
    go_wp2_with fail
    refine (mul_right _ _ xs (resL (Y + Z)) _ sa_11 sbc_11 hrx (right_resL _) (X * (Y + Z)) (by rw [val_resL h3, KX.out])).mono ?_
    rintro e w12 ⟨vz, rfl, oz, hb⟩
    have sz_12 := oz.sl
    clear oz
    have sa_12 := sa_11.later hb
    have sb_12 := sb_11.later hb
    have sc_12 := sc_11.later hb
    have sab_12 := sab_11.later hb
    have sba_12 := sba_11.later hb
    have sbc_12 := sbc_11.later hb
    have sp_12 := sp_11.later hb
    have sq_12 := sq_11.later hb
    have sr_12 := sr_11.later hb
    have sx_12 := sx_11.later hb
    have sy_12 := sy_11.later hb
    have hb_12 := bnext hb_11 hb
    clear hb hb_11 sa_11 sb_11 sc_11 sab_11 sba_11 sbc_11 sp_11 sq_11 sr_11 sx_11 sy_11
    cases g1 : okB (X * Y)
    · have jg1 : (resE (X * Y) == 0) = false := by rw [okB_int, g1]
      go_wp2
      go_meet
      case rel => exact hb_12
    have jg1 : (resE (X * Y) == 0) = true := by rw [okB_int, g1]
    cases g3 : okB (X * Z)
    · have jg3 : (resE (X * Z) == 0) = false := by rw [okB_int, g3]
      go_wp2
      go_meet
      case rel => exact hb_12
    have jg3 : (resE (X * Z) == 0) = true := by rw [okB_int, g3]
    cases g4 : okB (X * (Y + Z))
    · have jg4 : (resE (X * (Y + Z)) == 0) = false := by rw [okB_int, g4]
      go_wp2
      go_meet
      case rel => exact hb_12
    have jg4 : (resE (X * (Y + Z)) == 0) = true := by rw [okB_int, g4]
    go_wp2_with fail
    refine (add_right _ _ (resL (X * Y)) (resL (X * Z)) _ sp_12 sr_12 (right_resL _) (right_resL _) (X * (Y + Z)) (by rw [val_resL g1, val_resL g3, Nat.mul_add])).mono ?_
    rintro e w13 ⟨vw, rfl, ow, hb⟩
    have sw_13 := ow.sl
    clear ow
    have sa_13 := sa_12.later hb
    have sb_13 := sb_12.later hb
    have sc_13 := sc_12.later hb
    have sab_13 := sab_12.later hb
    have sba_13 := sba_12.later hb
    have sbc_13 := sbc_12.later hb
    have sp_13 := sp_12.later hb
    have sq_13 := sq_12.later hb
    have sr_13 := sr_12.later hb
    have sx_13 := sx_12.later hb
    have sy_13 := sy_12.later hb
    have sz_13 := sz_12.later hb
    have hb_13 := bnext hb_12 hb
    clear hb hb_12 sa_12 sb_12 sc_12 sab_12 sba_12 sbc_12 sp_12 sq_12 sr_12 sx_12 sy_12 sz_12
    go_wp2_with fail
    refine (same_any _ _ _ _ _ sz_13 sw_13).mono ?_
    rintro e w14 ⟨rfl, nd, hw⟩
    have hb := below_of_drawn hw
    clear hw
    rw [dec_same]
    have sa_14 := sa_13.later hb
    have sb_14 := sb_13.later hb
    have sc_14 := sc_13.later hb
    have sab_14 := sab_13.later hb
    have sba_14 := sba_13.later hb
    have sbc_14 := sbc_13.later hb
    have sp_14 := sp_13.later hb
    have sq_14 := sq_13.later hb
    have sr_14 := sr_13.later hb
    have sx_14 := sx_13.later hb
    have sy_14 := sy_13.later hb
    have sz_14 := sz_13.later hb
    have sw_14 := sw_13.later hb
    have hb_14 := bnext hb_13 hb
    clear hb hb_13 sa_13 sb_13 sc_13 sab_13 sba_13 sbc_13 sp_13 sq_13 sr_13 sx_13 sy_13 sz_13 sw_13
    have jn : (resE (X * (Y + Z)) != 0) = false := by rw [bne, jg4]; rfl
    go_wp2
    go_meet
    case rel => exact hb_14
  have hb := hcut
  clear hcut
  have sa_9 := sa_8.later hb
  have sb_9 := sb_8.later hb
  have sc_9 := sc_8.later hb
  have sab_9 := sab_8.later hb
  have sba_9 := sba_8.later hb
  have sbc_9 := sbc_8.later hb
  have sp_9 := sp_8.later hb
  have sq_9 := sq_8.later hb
  have sr_9 := sr_8.later hb
  have hb_9 := bnext hb_8 hb
  clear hb hb_8 sa_8 sb_8 sc_8 sab_8 sba_8 sbc_8 sp_8 sq_8 sr_8
  obtain ⟨N, hN⟩ : ∃ N, cmpI X Y = N := ⟨_, rfl⟩
  have hN1 := cmpI_bounds X Y
  have hNs := cmpI_swap X Y
  rw [hN] at hN1 hNs
  obtain ⟨hNl, hNu⟩ := hN1
  have KN : Hid (cmpI X Y = N) := hN
  have KS : Hid (cmpI Y X = -N) := hNs
  clear hN hNs
  go_wp2_with fail
  refine (cmp_right _ _ xs ys _ sa_9 sb_9 hrx hry N (by rw [KX.out, KY.out, KN.out])).mono ?_
  rintro e w10 ⟨rfl, nd, hw⟩
  have hb := below_of_drawn hw
  clear hw
  have sa_10 := sa_9.later hb
  have sb_10 := sb_9.later hb
  have sc_10 := sc_9.later hb
  have sab_10 := sab_9.later hb
  have sba_10 := sba_9.later hb
  have sbc_10 := sbc_9.later hb
  have sp_10 := sp_9.later hb
  have sq_10 := sq_9.later hb
  have sr_10 := sr_9.later hb
  have hb_10 := bnext hb_9 hb
  clear hb hb_9 sa_9 sb_9 sc_9 sab_9 sba_9 sbc_9 sp_9 sq_9 sr_9
  go_wp2_with fail
  refine (cmp_right _ _ ys xs _ sb_10 sa_10 hry hrx (-N) (by rw [KX.out, KY.out, KS.out])).mono ?_
  rintro e w11 ⟨rfl, nd, hw⟩
  have hb := below_of_drawn hw
  clear hw
  have sa_11 := sa_10.later hb
  have sb_11 := sb_10.later hb
  have sc_11 := sc_10.later hb
  have sab_11 := sab_10.later hb
  have sba_11 := sba_10.later hb
  have sbc_11 := sbc_10.later hb
  have sp_11 := sp_10.later hb
  have sq_11 := sq_10.later hb
  have sr_11 := sr_10.later hb
  have hb_11 := bnext hb_10 hb
  clear hb hb_10 sa_10 sb_10 sc_10 sab_10 sba_10 sbc_10 sp_10 sq_10 sr_10
  go_wp2_with fail
  refine (add_right _ _ xs zs _ sa_11 sc_11 hrx hrz (X + Z) (by rw [KX.out, KZ.out])).mono ?_
  rintro e w12 ⟨vac, rfl, oac, hb⟩
  have sac_12 := oac.sl
  clear oac
  have sa_12 := sa_11.later hb
  have sb_12 := sb_11.later hb
  have sc_12 := sc_11.later hb
  have sab_12 := sab_11.later hb
  have sba_12 := sba_11.later hb
  have sbc_12 := sbc_11.later hb
  have sp_12 := sp_11.later hb
  have sq_12 := sq_11.later hb
  have sr_12 := sr_11.later hb
  have hb_12 := bnext hb_11 hb
  clear hb hb_11 sa_11 sb_11 sc_11 sab_11 sba_11 sbc_11 sp_11 sq_11 sr_11
  have KL : Hid (0 < zs.length → 0 < Z) := by intro hl; rw [← KZ.out]; exact val_pos (limbs_val_of_right (sc_12).1 hrz) hl
  cases h7 : okB (X + Z)
  · have j7 : (resE (X + Z) == 0) = false := by rw [okB_int, h7]
    go_wp2_with fail
    refine (mul_right _ _ ys zs _ sb_12 sc_12 hry hrz (Y * Z) (by rw [KY.out, KZ.out])).mono ?_
    rintro e w13 ⟨vd, rfl, od, hb⟩
    have sd_13 := od.sl
    clear od
    have sa_13 := sa_12.later hb
    have sb_13 := sb_12.later hb
    have sc_13 := sc_12.later hb
    have sab_13 := sab_12.later hb
    have sba_13 := sba_12.later hb
    have sbc_13 := sbc_12.later hb
    have sp_13 := sp_12.later hb
    have sq_13 := sq_12.later hb
    have sr_13 := sr_12.later hb
    have sac_13 := sac_12.later hb
    have hb_13 := bnext hb_12 hb
    clear hb hb_12 sa_12 sb_12 sc_12 sab_12 sba_12 sbc_12 sp_12 sq_12 sr_12 sac_12
    cases g3 : okB (X * Z)
    · have jg3 : (resE (X * Z) == 0) = false := by rw [okB_int, g3]
      go_wp2
      go_ret
      exact ⟨rfl, hb_13⟩
    have jg3 : (resE (X * Z) == 0) = true := by rw [okB_int, g3]
    cases g5 : okB (Y * Z)
    · have jg5 : (resE (Y * Z) == 0) = false := by rw [okB_int, g5]
      go_wp2
      go_ret
      exact ⟨rfl, hb_13⟩
    have jg5 : (resE (Y * Z) == 0) = true := by rw [okB_int, g5]
    by_cases hl : 0 < zs.length
    · have hl0 := hl
      go_wp2_with fail
      refine (cmp_right _ _ (resL (X * Z)) (resL (Y * Z)) _ sr_13 sd_13 (right_resL _) (right_resL _) N (by rw [val_resL g3, val_resL g5, cmpI_mul _ _ _ (KL.out hl0), KN.out])).mono ?_
      rintro e w14 ⟨rfl, nd, hw⟩
      have hb := below_of_drawn hw
      clear hw
      have sa_14 := sa_13.later hb
      have sb_14 := sb_13.later hb
      have sc_14 := sc_13.later hb
      have sab_14 := sab_13.later hb
      have sba_14 := sba_13.later hb
      have sbc_14 := sbc_13.later hb
      have sp_14 := sp_13.later hb
      have sq_14 := sq_13.later hb
      have sr_14 := sr_13.later hb
      have sac_14 := sac_13.later hb
      have sd_14 := sd_13.later hb
      have hb_14 := bnext hb_13 hb
      clear hb hb_13 sa_13 sb_13 sc_13 sab_13 sba_13 sbc_13 sp_13 sq_13 sr_13 sac_13 sd_13
      go_wp2
      go_ret
      exact ⟨rfl, hb_14⟩
    · go_wp2
      go_ret
      exact ⟨rfl, hb_13⟩
  have j7 : (resE (X + Z) == 0) = true := by rw [okB_int, h7]
  cases h3 : okB (Y + Z)
  · have j3 : (resE (Y + Z) == 0) = false := by rw [okB_int, h3]
    go_wp2_with fail
    refine (mul_right _ _ ys zs _ sb_12 sc_12 hry hrz (Y * Z) (by rw [KY.out, KZ.out])).mono ?_
    rintro e w13 ⟨vd, rfl, od, hb⟩
    have sd_13 := od.sl
    clear od
    have sa_13 := sa_12.later hb
    have sb_13 := sb_12.later hb
    have sc_13 := sc_12.later hb
    have sab_13 := sab_12.later hb
    have sba_13 := sba_12.later hb
    have sbc_13 := sbc_12.later hb
    have sp_13 := sp_12.later hb
    have sq_13 := sq_12.later hb
    have sr_13 := sr_12.later hb
    have sac_13 := sac_12.later hb
    have hb_13 := bnext hb_12 hb
    clear hb hb_12 sa_12 sb_12 sc_12 sab_12 sba_12 sbc_12 sp_12 sq_12 sr_12 sac_12
    cases g3 : okB (X * Z)
    · have jg3 : (resE (X * Z) == 0) = false := by rw [okB_int, g3]
      go_wp2
      go_ret
      exact ⟨rfl, hb_13⟩
    have jg3 : (resE (X * Z) == 0) = true := by rw [okB_int, g3]
    cases g5 : okB (Y * Z)
    · have jg5 : (resE (Y * Z) == 0) = false := by rw [okB_int, g5]
      go_wp2
      go_ret
      exact ⟨rfl, hb_13⟩
    have jg5 : (resE (Y * Z) == 0) = true := by rw [okB_int, g5]
    by_cases hl : 0 < zs.length
    · have hl0 := hl
      go_wp2_with fail
      refine (cmp_right _ _ (resL (X * Z)) (resL (Y * Z)) _ sr_13 sd_13 (right_resL _) (right_resL _) N (by rw [val_resL g3, val_resL g5, cmpI_mul _ _ _ (KL.out hl0), KN.out])).mono ?_
      rintro e w14 ⟨rfl, nd, hw⟩
      have hb := below_of_drawn hw
      clear hw
      have sa_14 := sa_13.later hb
      have sb_14 := sb_13.later hb
      have sc_14 := sc_13.later hb
      have sab_14 := sab_13.later hb
      have sba_14 := sba_13.later hb
      have sbc_14 := sbc_13.later hb
      have sp_14 := sp_13.later hb
      have sq_14 := sq_13.later hb
      have sr_14 := sr_13.later hb
      have sac_14 := sac_13.later hb
      have sd_14 := sd_13.later hb
      have hb_14 := bnext hb_13 hb
      clear hb hb_13 sa_13 sb_13 sc_13 sab_13 sba_13 sbc_13 sp_13 sq_13 sr_13 sac_13 sd_13
      go_wp2
      go_ret
      exact ⟨rfl, hb_14⟩
    · go_wp2
      go_ret
      exact ⟨rfl, hb_13⟩
  have j3 : (resE (Y + Z) == 0) = true := by rw [okB_int, h3]
  go_wp2_with fail
  refine (cmp_right _ _ (resL (X + Z)) (resL (Y + Z)) _ sac_12 sbc_12 (right_resL _) (right_resL _) N (by rw [val_resL h7, val_resL h3, cmpI_add, KN.out])).mono ?_
  rintro e w13 ⟨rfl, nd, hw⟩
  have hb := below_of_drawn hw
  clear hw
  have sa_13 := sa_12.later hb
  have sb_13 := sb_12.later hb
  have sc_13 := sc_12.later hb
  have sab_13 := sab_12.later hb
  have sba_13 := sba_12.later hb
  have sbc_13 := sbc_12.later hb
  have sp_13 := sp_12.later hb
  have sq_13 := sq_12.later hb
  have sr_13 := sr_12.later hb
  have sac_13 := sac_12.later hb
  have hb_13 := bnext hb_12 hb
  clear hb hb_12 sa_12 sb_12 sc_12 sab_12 sba_12 sbc_12 sp_12 sq_12 sr_12 sac_12
  go_wp2_with fail
  refine (mul_right _ _ ys zs _ sb_13 sc_13 hry hrz (Y * Z) (by rw [KY.out, KZ.out])).mono ?_
  rintro e w14 ⟨vd, rfl, od, hb⟩
  have sd_14 := od.sl
  clear od
  have sa_14 := sa_13.later hb
  have sb_14 := sb_13.later hb
  have sc_14 := sc_13.later hb
  have sab_14 := sab_13.later hb
  have sba_14 := sba_13.later hb
  have sbc_14 := sbc_13.later hb
  have sp_14 := sp_13.later hb
  have sq_14 := sq_13.later hb
  have sr_14 := sr_13.later hb
  have sac_14 := sac_13.later hb
  have hb_14 := bnext hb_13 hb
  clear hb hb_13 sa_13 sb_13 sc_13 sab_13 sba_13 sbc_13 sp_13 sq_13 sr_13 sac_13
  cases g3 : okB (X * Z)
  · have jg3 : (resE (X * Z) == 0) = false := by rw [okB_int, g3]
    go_wp2
    go_ret
    exact ⟨rfl, hb_14⟩
  have jg3 : (resE (X * Z) == 0) = true := by rw [okB_int, g3]
  cases g5 : okB (Y * Z)
  · have jg5 : (resE (Y * Z) == 0) = false := by rw [okB_int, g5]
    go_wp2
    go_ret
    exact ⟨rfl, hb_14⟩
  have jg5 : (resE (Y * Z) == 0) = true := by rw [okB_int, g5]
  by_cases hl : 0 < zs.length
  · have hl0 := hl
    go_wp2_with fail
    refine (cmp_right _ _ (resL (X * Z)) (resL (Y * Z)) _ sr_14 sd_14 (right_resL _) (right_resL _) N (by rw [val_resL g3, val_resL g5, cmpI_mul _ _ _ (KL.out hl0), KN.out])).mono ?_
    rintro e w15 ⟨rfl, nd, hw⟩
    have hb := below_of_drawn hw
    clear hw
    have sa_15 := sa_14.later hb
    have sb_15 := sb_14.later hb
    have sc_15 := sc_14.later hb
    have sab_15 := sab_14.later hb
    have sba_15 := sba_14.later hb
    have sbc_15 := sbc_14.later hb
    have sp_15 := sp_14.later hb
    have sq_15 := sq_14.later hb
    have sr_15 := sr_14.later hb
    have sac_15 := sac_14.later hb
    have sd_15 := sd_14.later hb
    have hb_15 := bnext hb_14 hb
    clear hb hb_14 sa_14 sb_14 sc_14 sab_14 sba_14 sbc_14 sp_14 sq_14 sr_14 sac_14 sd_14
    go_wp2
    go_ret
    exact ⟨rfl, hb_15⟩
  · go_wp2
    go_ret
    exact ⟨rfl, hb_14⟩

set_option maxRecDepth 100000 in
theorem natLaws_lifted (os : Os) (started : os.Started) (H : Type) (enc : TypeId × Value → H) :
    ReturnsInHanded {} Try.checked os 8 .any (Rows.natLawsSpec.pre6 enc Try.prog Try.f8 Rows.natLawsRow.domain false) (Rows.natLawsSpec.post enc Try.prog Try.f8 false true false false) := by
  refine returnsInHanded_of_change (C := Try.checked) own started (by kernel_rfl) Try.func8
    (ChangeSpec.witness6 (enc := enc) (C := Try.checked) false ⟨#[], #[.slice none 0 0, .slice none 0 0, .slice none 0 0], []⟩ 8 (by kernel_rfl) (by kernel_rfl) (by kernel_rfl) (by kernel_rfl)) ?_
  intro W base args ds gs before hval0 hW hcnd _
  have hval : ∀ (j : Nat) t v, Try.f8.params[j]? = some t → args[j]? = some v → Value.okWide Try.prog W .any base t v := hval0
  have hW' := hW
  obtain ⟨p, q, hA0, hV, rfl, hfz, hnd⟩ := hW
  have hA : DataW.TrodAll enc Try.prog W 0 (fun _ => true) true Try.f8.params.toList args.toList ds p := hA0
  rw [Try.params8] at hA hval
  obtain ⟨v0, vs0, d0, ds0, p0, q0, hargs, rfl, rfl, h0, r0⟩ := trodAll_cons hA
  obtain ⟨v1, vs1, d1, ds1, p1, q1, rfl, rfl, rfl, h1, r1⟩ := trodAll_cons r0
  obtain ⟨v2, vs2, d2, ds2, p2, q2, rfl, rfl, rfl, h2, r2⟩ := trodAll_cons r1
  obtain ⟨rfl, rfl, rfl⟩ := trodAll_nil r2
  obtain rfl : args = #[v0, v1, v2] := by cases args; simp_all
  obtain ⟨rfl, rfl⟩ := trodVars_none hV
  obtain ⟨a0, len0, cap0, rfl⟩ := okWide_slice Try.underlying22 (hval 0 22 v0 rfl rfl)
  have k0 := h0
  have lt0 : ∀ x ∈ p0, x.block < W.heap.size := by obtain ⟨m, hm⟩ := k0; exact DataW.trod_lt m _ _ _ hm
  obtain ⟨z0, w0⟩ : ∃ zs, IsRow .u32 W a0 len0 cap0 zs := by
    obtain ⟨fuel, hf⟩ := h0
    rcases open_ints Try.underlying22 Try.underlying42 (by kernel_rfl) hf with ⟨hcs, _⟩ | ⟨x, l, c, zs, hcs, _, hl, hm, hz, _, hcell, hwz⟩
    · simp [Value.cells] at hcs
      obtain ⟨rfl, rfl, rfl⟩ := hcs
      exact ⟨[], .inl ⟨rfl, rfl, rfl, rfl⟩⟩
    · simp [Value.cells] at hcs
      obtain ⟨rfl, rfl, rfl⟩ := hcs
      exact ⟨zs, .inr ⟨_, rfl, hl, hm, by simpa using hz, hcell, hwz⟩⟩
  obtain ⟨a1, len1, cap1, rfl⟩ := okWide_slice Try.underlying22 (hval 1 22 v1 rfl rfl)
  have k1 := h1
  have lt1 : ∀ x ∈ p1, x.block < W.heap.size := by obtain ⟨m, hm⟩ := k1; exact DataW.trod_lt m _ _ _ hm
  obtain ⟨z1, w1⟩ : ∃ zs, IsRow .u32 W a1 len1 cap1 zs := by
    obtain ⟨fuel, hf⟩ := h1
    rcases open_ints Try.underlying22 Try.underlying42 (by kernel_rfl) hf with ⟨hcs, _⟩ | ⟨x, l, c, zs, hcs, _, hl, hm, hz, _, hcell, hwz⟩
    · simp [Value.cells] at hcs
      obtain ⟨rfl, rfl, rfl⟩ := hcs
      exact ⟨[], .inl ⟨rfl, rfl, rfl, rfl⟩⟩
    · simp [Value.cells] at hcs
      obtain ⟨rfl, rfl, rfl⟩ := hcs
      exact ⟨zs, .inr ⟨_, rfl, hl, hm, by simpa using hz, hcell, hwz⟩⟩
  obtain ⟨a2, len2, cap2, rfl⟩ := okWide_slice Try.underlying22 (hval 2 22 v2 rfl rfl)
  have k2 := h2
  have lt2 : ∀ x ∈ p2, x.block < W.heap.size := by obtain ⟨m, hm⟩ := k2; exact DataW.trod_lt m _ _ _ hm
  obtain ⟨z2, w2⟩ : ∃ zs, IsRow .u32 W a2 len2 cap2 zs := by
    obtain ⟨fuel, hf⟩ := h2
    rcases open_ints Try.underlying22 Try.underlying42 (by kernel_rfl) hf with ⟨hcs, _⟩ | ⟨x, l, c, zs, hcs, _, hl, hm, hz, _, hcell, hwz⟩
    · simp [Value.cells] at hcs
      obtain ⟨rfl, rfl, rfl⟩ := hcs
      exact ⟨[], .inl ⟨rfl, rfl, rfl, rfl⟩⟩
    · simp [Value.cells] at hcs
      obtain ⟨rfl, rfl, rfl⟩ := hcs
      exact ⟨zs, .inr ⟨_, rfl, hl, hm, by simpa using hz, hcell, hwz⟩⟩
  clear hA0 hval0
  refine (natLaws_any _ _ _ _ _ _ W w0.sl w1.sl w2.sl).mono fun e W' ⟨he, bel⟩ => ?_
  subst he
  exact ⟨_, rfl, _, _, _, [], _, [], hW', trodAll_mk1 (shut_bool Try.underlying4 _), (trodAll_cons_mk (Below.trod laidOut (by kernel_rfl) (of_decide_eq_true (by kernel_rfl)) k0 bel lt0) (trodAll_cons_mk (Below.trod laidOut (by kernel_rfl) (of_decide_eq_true (by kernel_rfl)) k1 bel lt1) (trodAll_cons_mk (Below.trod laidOut (by kernel_rfl) (of_decide_eq_true (by kernel_rfl)) k2 bel lt2) trodAll_mk0))), rfl, bel.frame _, fun h => by cases h⟩

theorem natLaws_holds : Rows.NatLawsSaid :=
  OpenClaim.holds_of_wide 8 Try.f8 rfl rfl rfl rfl rfl rfl rfl ⟨rfl, rfl, rfl, rfl, rfl⟩ rfl rfl rfl rfl rfl (by kernel_rfl) Try.func8 (by kernel_rfl)
    (of_decide_eq_true (by kernel_rfl)) (by unfold Func.isWrapper; first | (rw [if_pos (by decide +kernel)]; kernel_rfl) | (rw [if_neg (by decide +kernel)]; exact ⟨rfl, rfl⟩))
    (fun os started H enc _ => natLaws_lifted os started H enc)

#print axioms natLaws_holds

end Go.Proofs.Ytaekpijpkblkgaa
