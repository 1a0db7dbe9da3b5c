/- Proved: for every row of limbs and every number d the law NatTens answers true (a digit behind a number makes ten times as much and that digit), and its arguments read afterwards as before. No condition. -/
import Derived.Test.YtaekpijpkblkgabRight
namespace Go.Proofs.Ytaekpijpkblkgab
open Go.ChangeShapes Go.WideShapes Go.ChangeAt Go.RowKit

theorem digit_neg {d : Int} (h : d < 0) : ∃ D : Nat, -((d + 1).tmod 10) = (D : Int) ∧ D ≤ 9 := by
  have h1 : -((d + 1).tmod 10) = (-(d + 1)).tmod 10 := by rw [Int.neg_tmod]
  have h2 : (-(d + 1)).tmod 10 = (-(d + 1)) % 10 := Int.tmod_eq_emod_of_nonneg (by omega)
  refine ⟨((-(d + 1)) % 10).toNat, ?_, ?_⟩
  · rw [h1, h2]; omega
  · omega

theorem digit_pos {d : Int} (_h : ¬ d < 0) : ∃ D : Nat, d % 10 = (D : Int) ∧ D ≤ 9 := ⟨(d % 10).toNat, by omega, by omega⟩

theorem cat_toList (a : List UInt8) (c : UInt8) : (ByteArray.mk a.toArray ++ ByteArray.mk #[c]).data.toList = a ++ [c] := by simp
theorem cat_size (a : List UInt8) (c : UInt8) : (ByteArray.mk a.toArray ++ ByteArray.mk #[c]).size = a.length + 1 := by simp [ByteArray.size]

theorem okB_small {D : Nat} (h : D ≤ 9) : okB D = true := by
  have : (limbs D).length ≤ 1 := length_limbs_le (by omega)
  unfold okB
  simp
  omega

theorem dec_tens {X D : Nat} (hX : X ≠ 0) (hD : D ≤ 9) : dec X ++ [letter D] = dec (10 * X + D) := by
  unfold dec
  rw [if_neg hX, if_neg (by omega), tens_mul_add (by omega) (by omega), List.reverse_cons, List.map_append]
  rfl

theorem tens_parse {xs : List Nat} (hl : Lim xs) (hr : rightB xs = true) (h0 : ¬ xs.length = 0) {D : Nat} (hD : D ≤ 9) :
    parseE (textS xs ++ [letter D]) = resE (10 * val xs + D) ∧ parseL (textS xs ++ [letter D]) = resL (10 * val xs + D) := by
  have hv : val xs ≠ 0 := by
    intro hv
    have := limbs_val_of_right hl hr
    rw [hv, limbs_zero] at this
    rw [← this] at h0
    simp at h0
  unfold textS parseE parseL
  rw [hr, if_pos rfl, dec_tens hv hD, numB_dec, numV_dec]
  simp

theorem text_len {xs : List Nat} (hl : Lim xs) (hr : rightB xs = true) : (textS xs).length ≤ 700 := by
  unfold textS
  rw [hr, if_pos rfl]
  unfold dec
  by_cases h : val xs = 0
  · rw [if_pos h]; simp
  · rw [if_neg h, List.length_map, List.length_reverse]
    have h1 := tens_length_limbs hl
    have h2 := length_le_of_right hr
    omega

set_option maxHeartbeats 1000000 in
theorem natTens_any (va : Value) (xs : List Nat) (d : Int) (w : World) (ha : Sl w va xs) (hd1 : -9223372036854775808 ≤ d) (hd2 : d ≤ 9223372036854775807) :
    Calls Try.prog 3 #[va, .int .i64 d] w fun e w' => e = .returned (.bool true) ∧ Below w.heap.size w w' := by
  obtain ⟨ac, capc, rfl, hlc, hmc, q0⟩ := ha.flat
  unfold maxLen at hmc
  clear q0
  go_enter Try.func3, Try.ntmps3
  go_wp2_with fail
  refine (shown_any _).mono ?_
  rintro e w0 ⟨rfl, hb_0⟩
  have sa_0 := ha.later hb_0
  clear ha
  go_wp2_with fail
  refine (refRight_any _ _ _ sa_0).mono ?_
  rintro e w1 ⟨rfl, hw⟩
  subst hw
  cases hrx : rightB xs
  · go_wp2
    go_ret
    exact ⟨rfl, hb_0⟩
  by_cases h0 : xs.length = 0
  · have hb0 : ((xs.length : Int) == 0) = true := by rw [beq_iff_eq]; omega
    go_wp2
    go_ret
    exact ⟨rfl, hb_0⟩
  have hb0 : ((xs.length : Int) == 0) = false := by rw [beq_eq_false_iff_ne]; omega
  obtain ⟨X, hX⟩ : ∃ X, val xs = X := ⟨_, rfl⟩
  have KX : Hid (val xs = X) := hX
  have KE : Hid (textE xs = 0) := by show _ = _; simp [textE, hrx]
  have KP : Hid (∀ D, D ≤ 9 → parseE (textS xs ++ [letter D]) = resE (10 * X + D) ∧ parseL (textS xs ++ [letter D]) = resL (10 * X + D)) := by
    intro D hD
    rw [← hX]
    exact tens_parse sa_0.1 hrx h0 hD
  have hlen : (textS xs).length ≤ 700 := text_len sa_0.1 hrx
  clear hX
  by_cases hneg : d < 0
  · obtain ⟨D, hD, hD9⟩ : ∃ D : Nat, -((d + 1).tmod 10) = (D : Int) ∧ D ≤ 9 := digit_neg hneg
    go_wp2_with fail
    clear hD
    refine (text_any _ _ _ sa_0).mono ?_
    rintro e w1 ⟨rfl, hb⟩
    rw [KE.out]
    have sa_1 := sa_0.later hb
    have hb_1 := bnext hb_0 hb
    clear hb hb_0 sa_0
    have hconv := conv_one w1 D hD9
    go_wp2_with fail
    refine (parse_any _ _ (by rw [cat_size]; unfold maxLen; omega)).mono ?_
    rintro e w2 ⟨vb, rfl, ob, hb⟩
    rw [cat_toList] at ob ⊢
    rw [(KP.out D hD9).1]
    rw [(KP.out D hD9).2] at ob
    clear hconv
    have sb_2 := ob.sl
    have sa_2 := (sa_1.alloc _).later hb
    have hb_2 := bnext (balloc hb_1 _) hb
    clear ob hb hb_1 sa_1
    go_wp2_with fail
    refine (mul_right _ _ xs [10] _ (sa_2.alloc _) (sl_one _ 10 _ _ rfl (by omega) rfl) hrx (by decide) (10 * X) (by rw [KX.out]; simp [val]; omega)).mono ?_
    rintro e w3 ⟨vc, rfl, oc, hb⟩
    have sc_3 := oc.sl
    have sa_3 := (sa_2.alloc _).later hb
    have sb_3 := (sb_2.alloc _).later hb
    have hb_3 := bnext (balloc hb_2 _) hb
    clear oc hb hb_2 sa_2 sb_2
    cases hok : okB (10 * X)
    · have j1 : (resE (10 * X) != 0) = true := by rw [resE_no hok]; rfl
      have j2 : (resE (10 * X + D) == 2) = true := by
        rw [resE_no]
        · rfl
        · cases h : okB (10 * X + D)
          · rfl
          · rw [okB_mono (by omega) h] at hok; cases hok
      go_wp2
      go_ret
      exact ⟨rfl, hb_3⟩
    have j1 : (resE (10 * X) != 0) = false := by rw [resE_ok hok]; rfl
    go_wp2_with fail
    refine (of_any D _ (by omega)).mono ?_
    rintro e w4 ⟨vd, rfl, od, hb⟩
    have sd_4 := od.sl
    clear od
    have sa_4 := sa_3.later hb
    have sb_4 := sb_3.later hb
    have sc_4 := sc_3.later hb
    have hb_4 := bnext hb_3 hb
    clear hb hb_3 sa_3 sb_3 sc_3
    go_wp2_with fail
    refine (add_right _ _ (resL (10 * X)) (limbs D) _ sc_4 sd_4 (right_resL _) (right_limbs (okB_small hD9)) (10 * X + D) (by rw [val_resL hok, val_limbs])).mono ?_
    rintro e w5 ⟨vx, rfl, ox, hb⟩
    have sx_5 := ox.sl
    clear ox
    have sa_5 := sa_4.later hb
    have sb_5 := sb_4.later hb
    have sc_5 := sc_4.later hb
    have sd_5 := sd_4.later hb
    have hb_5 := bnext hb_4 hb
    clear hb hb_4 sa_4 sb_4 sc_4 sd_4
    go_wp2_with fail
    refine (same_any _ _ _ _ _ sb_5 sx_5).mono ?_
    rintro e w6 ⟨rfl, nd, hw⟩
    have hb := below_of_drawn hw
    clear hw
    rw [dec_same]
    have sa_6 := sa_5.later hb
    have sb_6 := sb_5.later hb
    have sc_6 := sc_5.later hb
    have sd_6 := sd_5.later hb
    have sx_6 := sx_5.later hb
    have hb_6 := bnext hb_5 hb
    clear hb hb_5 sa_5 sb_5 sc_5 sd_5 sx_5
    go_wp2
    go_ret
    exact ⟨ret1b (by simp), hb_6⟩
  · obtain ⟨D, hD, hD9⟩ : ∃ D : Nat, d % 10 = (D : Int) ∧ D ≤ 9 := digit_pos hneg
    go_wp2_with fail
    rw [hD]
    clear hD
    refine (text_any _ _ _ sa_0).mono ?_
    rintro e w1 ⟨rfl, hb⟩
    rw [KE.out]
    have sa_1 := sa_0.later hb
    have hb_1 := bnext hb_0 hb
    clear hb hb_0 sa_0
    have hconv := conv_one w1 D hD9
    go_wp2_with fail
    refine (parse_any _ _ (by rw [cat_size]; unfold maxLen; omega)).mono ?_
    rintro e w2 ⟨vb, rfl, ob, hb⟩
    rw [cat_toList] at ob ⊢
    rw [(KP.out D hD9).1]
    rw [(KP.out D hD9).2] at ob
    clear hconv
    have sb_2 := ob.sl
    have sa_2 := (sa_1.alloc _).later hb
    have hb_2 := bnext (balloc hb_1 _) hb
    clear ob hb hb_1 sa_1
    go_wp2_with fail
    refine (mul_right _ _ xs [10] _ (sa_2.alloc _) (sl_one _ 10 _ _ rfl (by omega) rfl) hrx (by decide) (10 * X) (by rw [KX.out]; simp [val]; omega)).mono ?_
    rintro e w3 ⟨vc, rfl, oc, hb⟩
    have sc_3 := oc.sl
    have sa_3 := (sa_2.alloc _).later hb
    have sb_3 := (sb_2.alloc _).later hb
    have hb_3 := bnext (balloc hb_2 _) hb
    clear oc hb hb_2 sa_2 sb_2
    cases hok : okB (10 * X)
    · have j1 : (resE (10 * X) != 0) = true := by rw [resE_no hok]; rfl
      have j2 : (resE (10 * X + D) == 2) = true := by
        rw [resE_no]
        · rfl
        · cases h : okB (10 * X + D)
          · rfl
          · rw [okB_mono (by omega) h] at hok; cases hok
      go_wp2
      go_ret
      exact ⟨rfl, hb_3⟩
    have j1 : (resE (10 * X) != 0) = false := by rw [resE_ok hok]; rfl
    go_wp2_with fail
    refine (of_any D _ (by omega)).mono ?_
    rintro e w4 ⟨vd, rfl, od, hb⟩
    have sd_4 := od.sl
    clear od
    have sa_4 := sa_3.later hb
    have sb_4 := sb_3.later hb
    have sc_4 := sc_3.later hb
    have hb_4 := bnext hb_3 hb
    clear hb hb_3 sa_3 sb_3 sc_3
    go_wp2_with fail
    refine (add_right _ _ (resL (10 * X)) (limbs D) _ sc_4 sd_4 (right_resL _) (right_limbs (okB_small hD9)) (10 * X + D) (by rw [val_resL hok, val_limbs])).mono ?_
    rintro e w5 ⟨vx, rfl, ox, hb⟩
    have sx_5 := ox.sl
    clear ox
    have sa_5 := sa_4.later hb
    have sb_5 := sb_4.later hb
    have sc_5 := sc_4.later hb
    have sd_5 := sd_4.later hb
    have hb_5 := bnext hb_4 hb
    clear hb hb_4 sa_4 sb_4 sc_4 sd_4
    go_wp2_with fail
    refine (same_any _ _ _ _ _ sb_5 sx_5).mono ?_
    rintro e w6 ⟨rfl, nd, hw⟩
    have hb := below_of_drawn hw
    clear hw
    rw [dec_same]
    have sa_6 := sa_5.later hb
    have sb_6 := sb_5.later hb
    have sc_6 := sc_5.later hb
    have sd_6 := sd_5.later hb
    have sx_6 := sx_5.later hb
    have hb_6 := bnext hb_5 hb
    clear hb hb_5 sa_5 sb_5 sc_5 sd_5 sx_5
    go_wp2
    go_ret
    exact ⟨ret1b (by simp), hb_6⟩

set_option maxRecDepth 100000 in
theorem natTens_lifted (os : Os) (started : os.Started) (H : Type) (enc : TypeId × Value → H) :
    ReturnsInHanded {} Try.checked os 3 .any (Rows.natTensSpec.pre6 enc Try.prog Try.f3 Rows.natTensRow.domain false) (Rows.natTensSpec.post enc Try.prog Try.f3 false true false false) := by
  refine returnsInHanded_of_change (C := Try.checked) own started (by kernel_rfl) Try.func3
    (ChangeSpec.witness6 (enc := enc) (C := Try.checked) false ⟨#[], #[.slice none 0 0, .int .i64 0], []⟩ 8 (by kernel_rfl) (by kernel_rfl) (by kernel_rfl) (by kernel_rfl)) ?_
  intro W base args ds gs before hval0 hW hcnd _
  have hval : ∀ (j : Nat) t v, Try.f3.params[j]? = some t → args[j]? = some v → Value.okWide Try.prog W .any base t v := hval0
  have hW' := hW
  obtain ⟨p, q, hA0, hV, rfl, hfz, hnd⟩ := hW
  have hA : DataW.TrodAll enc Try.prog W 0 (fun _ => true) true Try.f3.params.toList args.toList ds p := hA0
  rw [Try.params3] at hA hval
  obtain ⟨v0, vs0, d0, ds0, p0, q0, hargs, rfl, rfl, h0, r0⟩ := trodAll_cons hA
  obtain ⟨v1, vs1, d1, ds1, p1, q1, rfl, rfl, rfl, h1, r1⟩ := trodAll_cons r0
  obtain ⟨rfl, rfl, rfl⟩ := trodAll_nil r1
  obtain rfl : args = #[v0, v1] := by cases args; simp_all
  obtain ⟨rfl, rfl⟩ := trodVars_none hV
  obtain ⟨a0, len0, cap0, rfl⟩ := okWide_slice Try.underlying22 (hval 0 22 v0 rfl rfl)
  have k0 := h0
  have lt0 : ∀ x ∈ p0, x.block < W.heap.size := by obtain ⟨m, hm⟩ := k0; exact DataW.trod_lt m _ _ _ hm
  obtain ⟨z0, w0⟩ : ∃ zs, IsRow .u32 W a0 len0 cap0 zs := by
    obtain ⟨fuel, hf⟩ := h0
    rcases open_ints Try.underlying22 Try.underlying32 (by kernel_rfl) hf with ⟨hcs, _⟩ | ⟨x, l, c, zs, hcs, _, hl, hm, hz, _, hcell, hwz⟩
    · simp [Value.cells] at hcs
      obtain ⟨rfl, rfl, rfl⟩ := hcs
      exact ⟨[], .inl ⟨rfl, rfl, rfl, rfl⟩⟩
    · simp [Value.cells] at hcs
      obtain ⟨rfl, rfl, rfl⟩ := hcs
      exact ⟨zs, .inr ⟨_, rfl, hl, hm, by simpa using hz, hcell, hwz⟩⟩
  obtain ⟨a1, rfl, rfl, rfl, w1⟩ := open_int Try.underlying3 (hval 1 3 v1 rfl rfl) h1
  have b1 := bounds_i64 w1
  clear hA0 hval0
  refine (natTens_any _ _ a1 W w0.sl b1.1 b1.2).mono fun e W' ⟨he, bel⟩ => ?_
  subst he
  exact ⟨_, rfl, _, _, _, [], _, [], hW', trodAll_mk1 (shut_bool Try.underlying4 _), (trodAll_cons_mk (Below.trod laidOut (by kernel_rfl) (of_decide_eq_true (by kernel_rfl)) k0 bel lt0) (trodAll_cons_mk (shut_int Try.underlying3 w1) trodAll_mk0)), rfl, bel.frame _, fun h => by cases h⟩

theorem natTens_holds : Rows.NatTensSaid :=
  OpenClaim.holds_of_wide 3 Try.f3 rfl rfl rfl rfl rfl rfl rfl ⟨rfl, rfl, rfl, rfl, rfl⟩ rfl rfl rfl rfl rfl (by kernel_rfl) Try.func3 (by kernel_rfl)
    (of_decide_eq_true (by kernel_rfl)) (by unfold Func.isWrapper; first | (rw [if_pos (by decide +kernel)]; kernel_rfl) | (rw [if_neg (by decide +kernel)]; exact ⟨rfl, rfl⟩))
    (fun os started H enc _ => natTens_lifted os started H enc)

#print axioms natTens_holds

end Go.Proofs.Ytaekpijpkblkgab
