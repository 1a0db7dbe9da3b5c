/- The examples come out true. -/
import Derived.Test.YtifpanfgojfbkaaDoorTShownB
namespace Go.Proofs.YtifpanfgojfbkaaDoor
open Go.RowKit Go.Maps Go.BigFrame

theorem call_same (w : World) (v : Value) (xs : List Int) (h : Is w v xs) (hz : ∀ x ∈ xs, -9223372036854775808 ≤ x ∧ x ≤ 9223372036854775807) (hl : xs.length ≤ 1000) :
    Calls Tryd.prog 16 #[v, .slice (some ⟨w.heap.size, 0, none⟩) xs.length xs.length] (w.alloc (.cells (xs.map I64).toArray 3)) fun e w' => e = .returned (.bool true) ∧ Below w.heap.size w w' := by
  refine (same_any v _ xs xs _ (h.kp (Kp.of_below (below_alloc _))) (is_new w xs _ hz hl)).mono ?_
  rintro e w' ⟨rfl, n, hw⟩
  rw [decide_eq_true rfl]
  exact ⟨rfl, below_step (below_alloc _) (drawn_below hw)⟩

set_option maxRecDepth 100000 in
set_option maxHeartbeats 2000000 in
theorem shown_any (w : World) (hT : Tabs w) : Calls Tryd.prog 9 #[] w fun e w' => e = .returned (.bool true) ∧ Below w.heap.size w w' := by
  have HT := hid hT
  clear hT
  go_enter Tryd.func9, Tryd.ntmps9
  go_wp2_with fail
  refine (sum_any w).mono ?_
  rintro e w1 ⟨v1, rfl, hs1, hb1⟩
  have HS1 := hid hs1
  have HB1 := hid hb1
  clear hs1 hb1
  go_wp2_with fail
  refine (call_apply w1 v1 HS1.out (HT.out.below HB1.out)).mono ?_
  rintro e w2 ⟨va, rfl, hia, hb2⟩
  have HA := hid hia
  have HB2 := hid (below_step HB1.out hb2)
  clear hia hb2 HS1 HB1
  go_wp2_with fail
  refine (call_shift w2).mono ?_
  rintro e w3 ⟨vb, rfl, hib, hb3⟩
  have HA3 := hid (HA.out.kp (Kp.of_below hb3))
  have HBb := hid hib
  have HB3 := hid (below_step HB2.out hb3)
  clear hib hb3 HA HB2
  go_wp2_with fail
  refine (call_shift2 w3).mono ?_
  rintro e w4 ⟨vg, rfl, hb4⟩
  have HA4 := hid (HA3.out.kp (Kp.of_below hb4))
  have HBb4 := hid (HBb.out.kp (Kp.of_below hb4))
  have HB4 := hid (below_step HB3.out hb4)
  clear hb4 HA3 HBb HB3
  go_wp2_with fail
  refine (call_canon w4).mono ?_
  rintro e w5 ⟨gc, cc, u1, u2, rfl, hc1, hc2, hi1, hi2, hcc1, hcc2, hb5⟩
  have HA5 := hid (HA4.out.kp (Kp.of_below hb5))
  have HBb5 := hid (HBb4.out.kp (Kp.of_below hb5))
  have HC1 := hid hc1
  have HC2 := hid hc2
  have HI1 := hid hi1
  have HI2 := hid hi2
  have HB5 := hid (below_step HB4.out hb5)
  clear hc1 hc2 hi1 hi2 hb5 HA4 HBb4 HB4
  go_wp2_with fail
  refine (sum_any w5).mono ?_
  rintro e w6 ⟨v6, rfl, hs6, hb6⟩
  have HB6 := hid (below_step HB5.out hb6)
  have hc6 := call_check1 w6 v6 hs6 (HT.out.below HB6.out)
  have HC6 := hid hc6
  have HK6 := hid hb6
  clear hs6 hb6 hc6
  go_wp2_with fail
  refine HC6.out.mono ?_
  rintro e w7 ⟨rfl, hb7⟩
  have HK7 := hid (below_step HK6.out hb7)
  clear hb7 HC6 HK6 HB6
  go_wp2_with fail
  refine (sum_any w7).mono ?_
  rintro e w8 ⟨v8, rfl, hs8, hb8⟩
  have HK8 := hid (below_step HK7.out hb8)
  have hc8 := call_check2 w8 v8 hs8 (HT.out.below (below_step HB5.out HK8.out))
  have HC8 := hid hc8
  clear hs8 hb8 hc8 HK7
  go_wp2_with fail
  refine HC8.out.mono ?_
  rintro e w9 ⟨rfl, hb9⟩
  have HK := hid (below_step HK8.out hb9)
  clear hb9 HC8 HK8
  have HA9 := hid (HA5.out.kp (Kp.of_below HK.out))
  have HB9 := hid (HBb5.out.kp (Kp.of_below HK.out))
  have hc1 := (Kp.of_below HK.out).cell _ _ HC1.out
  have hc2 := (Kp.of_below HK.out).cell _ _ HC2.out
  have HI19 := hid (HI1.out.kp (Kp.of_below HK.out))
  have HI29 := hid (HI2.out.kp (Kp.of_below HK.out))
  have HBl := hid (below_step HB5.out HK.out)
  clear HA5 HBb5 HC1 HC2 HI1 HI2 HB5 HK
  go_wp2_with fail
  refine (call_same w9 va [2, 1, -2, 0] HA9.out (by decide) (by decide)).mono ?_
  rintro e wa ⟨rfl, hba⟩
  have HBa := hid (below_step HBl.out hba)
  have HB10 := hid (HB9.out.kp (Kp.of_below hba))
  have hd1 := (Kp.of_below hba).cell _ _ hc1
  have hd2 := (Kp.of_below hba).cell _ _ hc2
  have HI1a := hid (HI19.out.kp (Kp.of_below hba))
  have HI2a := hid (HI29.out.kp (Kp.of_below hba))
  clear hba hc1 hc2 HA9 HB9 HI19 HI29 HBl
  go_wp2_with fail
  refine (call_same wa vb [2, -4, -5] HB10.out (by decide) (by decide)).mono ?_
  rintro e wb ⟨rfl, hbb⟩
  have HBb := hid (below_step HBa.out hbb)
  have hc1 := (Kp.of_below hbb).cell _ _ hd1
  have hc2 := (Kp.of_below hbb).cell _ _ hd2
  have HI1b := hid (HI1a.out.kp (Kp.of_below hbb))
  have HI2b := hid (HI2a.out.kp (Kp.of_below hbb))
  clear hbb hd1 hd2 HB10 HI1a HI2a HBa
  go_wp2_with fail
  refine (call_same wb u1 [2, -1, -2] HI1b.out (by decide) (by decide)).mono ?_
  rintro e wc ⟨rfl, hbc⟩
  have HBc := hid (below_step HBb.out hbc)
  have hd2 := (Kp.of_below hbc).cell _ _ hc2
  have HI2c := hid (HI2b.out.kp (Kp.of_below hbc))
  clear hbc hc1 hc2 HI1b HI2b HBb
  go_wp2_with fail
  refine (call_same wc u2 [-2, -3] HI2c.out (by decide) (by decide)).mono ?_
  rintro e wd ⟨rfl, hbd⟩
  have HBd := hid (below_step HBc.out hbd)
  clear hbd HI2c HBc
  go_wp2
  go_ret
  exact ⟨rfl, HBd.out⟩

end Go.Proofs.YtifpanfgojfbkaaDoor
