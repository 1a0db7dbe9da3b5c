/- Proved: for every three rows of monomials, the law PolyRing answers true (sums and products of polynomials are those of a ring, where nothing is too big), and its arguments read afterwards as before. No condition. -/
import Derived.Test.YtfifgmcjilkigaaPShown
import Derived.Test.YtfifgmcjilkigaaPRingB
import Derived.Test.YtfifgmcjilkigaaPFrame
namespace Go.Proofs.Ytfifgmcjilkigaa
open Go.ChangeShapes Go.WideShapes Go.ChangeAt Go.RowKit Go.Maps

theorem Ms.lim {w : World} {v : Value} {p : List Mn} (h : Ms w v p) : ∀ m ∈ p, Lim m.1 := by
  intro m hm
  obtain ⟨k, hk⟩ := List.mem_iff_getElem?.1 hm
  obtain ⟨ao, cap, rfl, _, _, hx⟩ := Row.flat h
  obtain ⟨g, off, x, _, hk2, cv, ev, _, _, hmo⟩ := hx k (List.getElem?_eq_some_iff.1 hk).1
  rw [hk] at hk2
  cases hk2
  exact hmo.1.1

theorem same_at (B : Bool) (v u : Value) (p q : List Mn) (w : World) (hB : decide (p = q) = B) (h : Ms w v p) (h' : Ms w u q) :
    Calls Try.prog 13 #[v, u] w fun e w' => e = .returned (.bool B) ∧ ∃ n, w' = w.drewN n := by
  subst hB
  exact same_any v u p q w h h'

set_option maxRecDepth 100000 in
set_option maxHeartbeats 40000000 in
theorem polyRing_any (v u x : Value) (p q r : List Mn) (w : World) (h : Ms w v p) (h' : Ms w u q) (hr : Ms w x r) :
    Calls Try.prog 8 #[v, u, x] w fun e w' => e = .returned (.bool true) ∧ Below w.heap.size w w' := by
  have HL : Hid (∀ m ∈ p, Lim m.1) := h.lim
  have HLq : Hid (∀ m ∈ q, Lim m.1) := h'.lim
  have HLr : Hid (∀ m ∈ r, Lim m.1) := hr.lim
  have HP : Hid (Ms w v p) := h
  have HQ : Hid (Ms w u q) := h'
  have HR : Hid (Ms w x r) := hr
  have HB : Hid (Below w.heap.size w w) := Below.refl _ _
  clear h h' hr
  go_enter Try.func8, Try.ntmps8
  go_wp2_with fail
  refine (shown_any _).mono ?_
  rintro e w1 ⟨rfl, hb⟩
  have K := Kp.of_below hb
  have B := hb
  clear hb
  have HBn : Hid (Below w.heap.size w w1) := below_step HB.out B
  clear HB B
  have HB := HBn
  clear HBn
  have HPn : Hid (Ms w1 v p) := HP.out.kp K
  clear HP
  have HP := HPn
  clear HPn
  have HQn : Hid (Ms w1 u q) := HQ.out.kp K
  clear HQ
  have HQ := HQn
  clear HQn
  have HRn : Hid (Ms w1 x r) := HR.out.kp K
  clear HR
  have HR := HRn
  clear HRn
  clear K
  go_wp2_with fail
  refine (padd_any _ _ p q _ HP.out HQ.out).mono ?_
  rintro e w2 ⟨vs, rfl, ovs, hb⟩
  have K := Kp.of_below hb
  have B := hb
  clear hb
  have HBn : Hid (Below w.heap.size w w2) := below_step HB.out B
  clear HB B
  have HB := HBn
  clear HBn
  have HPn : Hid (Ms w2 v p) := HP.out.kp K
  clear HP
  have HP := HPn
  clear HPn
  have HQn : Hid (Ms w2 u q) := HQ.out.kp K
  clear HQ
  have HQ := HQn
  clear HQn
  have HRn : Hid (Ms w2 x r) := HR.out.kp K
  clear HR
  have HR := HRn
  clear HRn
  clear K
  have HS : Hid (Ms w2 vs (addPL p q)) := ovs.ms
  clear ovs
  obtain ⟨E1, hE1⟩ : ∃ E, E = addPE p q := ⟨_, rfl⟩
  have HE1 : Hid (E1 = addPE p q) := hE1
  rw [← hE1]
  clear hE1
  go_wp2_with fail
  refine (padd_any _ _ q p _ HQ.out HP.out).mono ?_
  rintro e w3 ⟨vt, rfl, ovt, hb⟩
  have K := Kp.of_below hb
  have B := hb
  clear hb
  have HBn : Hid (Below w.heap.size w w3) := below_step HB.out B
  clear HB B
  have HB := HBn
  clear HBn
  have HPn : Hid (Ms w3 v p) := HP.out.kp K
  clear HP
  have HP := HPn
  clear HPn
  have HQn : Hid (Ms w3 u q) := HQ.out.kp K
  clear HQ
  have HQ := HQn
  clear HQn
  have HRn : Hid (Ms w3 x r) := HR.out.kp K
  clear HR
  have HR := HRn
  clear HRn
  have HSn : Hid (Ms w3 vs (addPL p q)) := HS.out.kp K
  clear HS
  have HS := HSn
  clear HSn
  clear K
  have HT : Hid (Ms w3 vt (addPL q p)) := ovt.ms
  clear ovt
  obtain ⟨E2, hE2⟩ : ∃ E, E = addPE q p := ⟨_, rfl⟩
  have HE2 : Hid (E2 = addPE q p) := hE2
  rw [← hE2]
  clear hE2
  go_wp2_with fail
  refine (pmul_any _ _ p q _ HP.out HQ.out).mono ?_
  rintro e w4 ⟨vm, rfl, ovm, hb⟩
  have K := Kp.of_below hb
  have B := hb
  clear hb
  have HBn : Hid (Below w.heap.size w w4) := below_step HB.out B
  clear HB B
  have HB := HBn
  clear HBn
  have HPn : Hid (Ms w4 v p) := HP.out.kp K
  clear HP
  have HP := HPn
  clear HPn
  have HQn : Hid (Ms w4 u q) := HQ.out.kp K
  clear HQ
  have HQ := HQn
  clear HQn
  have HRn : Hid (Ms w4 x r) := HR.out.kp K
  clear HR
  have HR := HRn
  clear HRn
  have HSn : Hid (Ms w4 vs (addPL p q)) := HS.out.kp K
  clear HS
  have HS := HSn
  clear HSn
  have HTn : Hid (Ms w4 vt (addPL q p)) := HT.out.kp K
  clear HT
  have HT := HTn
  clear HTn
  clear K
  have HM : Hid (Ms w4 vm (mulPL p q)) := ovm.ms
  clear ovm
  obtain ⟨E3, hE3⟩ : ∃ E, E = mulPE p q := ⟨_, rfl⟩
  have HE3 : Hid (E3 = mulPE p q) := hE3
  rw [← hE3]
  clear hE3
  go_wp2_with fail
  refine (pmul_any _ _ q p _ HQ.out HP.out).mono ?_
  rintro e w5 ⟨vn, rfl, ovn, hb⟩
  have K := Kp.of_below hb
  have B := hb
  clear hb
  have HBn : Hid (Below w.heap.size w w5) := below_step HB.out B
  clear HB B
  have HB := HBn
  clear HBn
  have HPn : Hid (Ms w5 v p) := HP.out.kp K
  clear HP
  have HP := HPn
  clear HPn
  have HQn : Hid (Ms w5 u q) := HQ.out.kp K
  clear HQ
  have HQ := HQn
  clear HQn
  have HRn : Hid (Ms w5 x r) := HR.out.kp K
  clear HR
  have HR := HRn
  clear HRn
  have HSn : Hid (Ms w5 vs (addPL p q)) := HS.out.kp K
  clear HS
  have HS := HSn
  clear HSn
  have HTn : Hid (Ms w5 vt (addPL q p)) := HT.out.kp K
  clear HT
  have HT := HTn
  clear HTn
  have HMn : Hid (Ms w5 vm (mulPL p q)) := HM.out.kp K
  clear HM
  have HM := HMn
  clear HMn
  clear K
  have HN : Hid (Ms w5 vn (mulPL q p)) := ovn.ms
  clear ovn
  obtain ⟨E4, hE4⟩ : ∃ E, E = mulPE q p := ⟨_, rfl⟩
  have HE4 : Hid (E4 = mulPE q p) := hE4
  rw [← hE4]
  clear hE4
  by_cases cp : checkE p 9223372036854775807 = 0
  rotate_left
  · have Hcp : Hid (¬ checkE p 9223372036854775807 = 0) := cp
    have HNo : Hid (¬ addPE p q = 0 ∧ addPL p q = [] ∧ ¬ mulPE p q = 0 ∧ mulPL p q = []) := addP_no fun hh => cp hh.1
    clear cp
    go_wp2_with fail
    refine (check_any _ p 1099511627776 _ HP.out (by omega) (by omega)).mono ?_
    rintro e w6 ⟨rfl, hb⟩
    have K := Kp.of_below hb
    have B := hb
    clear hb
    have HBn : Hid (Below w.heap.size w w6) := below_step HB.out B
    clear HB B
    have HB := HBn
    clear HBn
    have HPn : Hid (Ms w6 v p) := HP.out.kp K
    clear HP
    have HP := HPn
    clear HPn
    have HQn : Hid (Ms w6 u q) := HQ.out.kp K
    clear HQ
    have HQ := HQn
    clear HQn
    have HRn : Hid (Ms w6 x r) := HR.out.kp K
    clear HR
    have HR := HRn
    clear HRn
    have HSn : Hid (Ms w6 vs (addPL p q)) := HS.out.kp K
    clear HS
    have HS := HSn
    clear HSn
    have HTn : Hid (Ms w6 vt (addPL q p)) := HT.out.kp K
    clear HT
    have HT := HTn
    clear HTn
    have HMn : Hid (Ms w6 vm (mulPL p q)) := HM.out.kp K
    clear HM
    have HM := HMn
    clear HMn
    have HNn : Hid (Ms w6 vn (mulPL q p)) := HN.out.kp K
    clear HN
    have HN := HNn
    clear HNn
    clear K
    obtain ⟨C, hC⟩ : ∃ C, C = checkE p 1099511627776 := ⟨_, rfl⟩
    rw [← hC]
    have xC : ¬ C = 0 := by rw [hC]; exact fun e => Hcp.out ((check_any_iff p).1 e)
    clear hC
    have bC : (C != 0) = true := by rw [bne_iff_ne]; exact xC
    have cC : (C == 0) = false := by rw [beq_eq_false_iff_ne]; exact xC
    clear xC
    have n1 := HNo.out
    have hs := HS.out
    rw [n1.2.1] at hs
    obtain ⟨as_, cs_, rfl, _⟩ := Row.flat hs
    have hm := HM.out
    rw [n1.2.2.2] at hm
    obtain ⟨am_, cm_, rfl, _⟩ := Row.flat hm
    have x1 : ¬ E1 = 0 := by rw [HE1.out]; exact n1.1
    have x3 : ¬ E3 = 0 := by rw [HE3.out]; exact n1.2.2.1
    clear n1 hs hm
    have bE1 : (E1 != 0) = true := by rw [bne_iff_ne]; exact x1
    have cE1 : (E1 == 0) = false := by rw [beq_eq_false_iff_ne]; exact x1
    clear x1
    have bE3 : (E3 != 0) = true := by rw [bne_iff_ne]; exact x3
    have cE3 : (E3 == 0) = false := by rw [beq_eq_false_iff_ne]; exact x3
    clear x3
    rw [List.length_nil] at HS HM ⊢
    go_wp2
    go_ret
    exact ⟨rfl, HB.out⟩
  have Hcp : Hid (checkE p 9223372036854775807 = 0) := cp
  clear cp
  go_wp2_with fail
  refine (check_any _ p 1099511627776 _ HP.out (by omega) (by omega)).mono ?_
  rintro e w6 ⟨rfl, hb⟩
  rw [(check_any_iff p).2 Hcp.out]
  have K := Kp.of_below hb
  have B := hb
  clear hb
  have HBn : Hid (Below w.heap.size w w6) := below_step HB.out B
  clear HB B
  have HB := HBn
  clear HBn
  have HPn : Hid (Ms w6 v p) := HP.out.kp K
  clear HP
  have HP := HPn
  clear HPn
  have HQn : Hid (Ms w6 u q) := HQ.out.kp K
  clear HQ
  have HQ := HQn
  clear HQn
  have HRn : Hid (Ms w6 x r) := HR.out.kp K
  clear HR
  have HR := HRn
  clear HRn
  have HSn : Hid (Ms w6 vs (addPL p q)) := HS.out.kp K
  clear HS
  have HS := HSn
  clear HSn
  have HTn : Hid (Ms w6 vt (addPL q p)) := HT.out.kp K
  clear HT
  have HT := HTn
  clear HTn
  have HMn : Hid (Ms w6 vm (mulPL p q)) := HM.out.kp K
  clear HM
  have HM := HMn
  clear HMn
  have HNn : Hid (Ms w6 vn (mulPL q p)) := HN.out.kp K
  clear HN
  have HN := HNn
  clear HNn
  clear K
  by_cases cq : checkE q 9223372036854775807 = 0
  rotate_left
  · have Hcq : Hid (¬ checkE q 9223372036854775807 = 0) := cq
    have HNo : Hid (¬ addPE p q = 0 ∧ addPL p q = [] ∧ ¬ mulPE p q = 0 ∧ mulPL p q = []) := addP_no fun hh => cq hh.2
    clear cq
    go_wp2_with fail
    refine (check_any _ q 1099511627776 _ HQ.out (by omega) (by omega)).mono ?_
    rintro e w7 ⟨rfl, hb⟩
    have K := Kp.of_below hb
    have B := hb
    clear hb
    have HBn : Hid (Below w.heap.size w w7) := below_step HB.out B
    clear HB B
    have HB := HBn
    clear HBn
    have HPn : Hid (Ms w7 v p) := HP.out.kp K
    clear HP
    have HP := HPn
    clear HPn
    have HQn : Hid (Ms w7 u q) := HQ.out.kp K
    clear HQ
    have HQ := HQn
    clear HQn
    have HRn : Hid (Ms w7 x r) := HR.out.kp K
    clear HR
    have HR := HRn
    clear HRn
    have HSn : Hid (Ms w7 vs (addPL p q)) := HS.out.kp K
    clear HS
    have HS := HSn
    clear HSn
    have HTn : Hid (Ms w7 vt (addPL q p)) := HT.out.kp K
    clear HT
    have HT := HTn
    clear HTn
    have HMn : Hid (Ms w7 vm (mulPL p q)) := HM.out.kp K
    clear HM
    have HM := HMn
    clear HMn
    have HNn : Hid (Ms w7 vn (mulPL q p)) := HN.out.kp K
    clear HN
    have HN := HNn
    clear HNn
    clear K
    obtain ⟨C, hC⟩ : ∃ C, C = checkE q 1099511627776 := ⟨_, rfl⟩
    rw [← hC]
    have xC : ¬ C = 0 := by rw [hC]; exact fun e => Hcq.out ((check_any_iff q).1 e)
    clear hC
    have bC : (C != 0) = true := by rw [bne_iff_ne]; exact xC
    have cC : (C == 0) = false := by rw [beq_eq_false_iff_ne]; exact xC
    clear xC
    have n1 := HNo.out
    have hs := HS.out
    rw [n1.2.1] at hs
    obtain ⟨as_, cs_, rfl, _⟩ := Row.flat hs
    have hm := HM.out
    rw [n1.2.2.2] at hm
    obtain ⟨am_, cm_, rfl, _⟩ := Row.flat hm
    have x1 : ¬ E1 = 0 := by rw [HE1.out]; exact n1.1
    have x3 : ¬ E3 = 0 := by rw [HE3.out]; exact n1.2.2.1
    clear n1 hs hm
    have bE1 : (E1 != 0) = true := by rw [bne_iff_ne]; exact x1
    have cE1 : (E1 == 0) = false := by rw [beq_eq_false_iff_ne]; exact x1
    clear x1
    have bE3 : (E3 != 0) = true := by rw [bne_iff_ne]; exact x3
    have cE3 : (E3 == 0) = false := by rw [beq_eq_false_iff_ne]; exact x3
    clear x3
    rw [List.length_nil] at HS HM ⊢
    go_wp2
    go_ret
    exact ⟨rfl, HB.out⟩
  have Hcq : Hid (checkE q 9223372036854775807 = 0) := cq
  clear cq
  go_wp2_with fail
  refine (check_any _ q 1099511627776 _ HQ.out (by omega) (by omega)).mono ?_
  rintro e w7 ⟨rfl, hb⟩
  rw [(check_any_iff q).2 Hcq.out]
  have K := Kp.of_below hb
  have B := hb
  clear hb
  have HBn : Hid (Below w.heap.size w w7) := below_step HB.out B
  clear HB B
  have HB := HBn
  clear HBn
  have HPn : Hid (Ms w7 v p) := HP.out.kp K
  clear HP
  have HP := HPn
  clear HPn
  have HQn : Hid (Ms w7 u q) := HQ.out.kp K
  clear HQ
  have HQ := HQn
  clear HQn
  have HRn : Hid (Ms w7 x r) := HR.out.kp K
  clear HR
  have HR := HRn
  clear HRn
  have HSn : Hid (Ms w7 vs (addPL p q)) := HS.out.kp K
  clear HS
  have HS := HSn
  clear HSn
  have HTn : Hid (Ms w7 vt (addPL q p)) := HT.out.kp K
  clear HT
  have HT := HTn
  clear HTn
  have HMn : Hid (Ms w7 vm (mulPL p q)) := HM.out.kp K
  clear HM
  have HM := HMn
  clear HMn
  have HNn : Hid (Ms w7 vn (mulPL q p)) := HN.out.kp K
  clear HN
  have HN := HNn
  clear HNn
  clear K
  have HCp : Hid (Ch p) := ⟨Pol.of HL.out (by omega) Hcp.out, Hcp.out⟩
  have HCq : Hid (Ch q) := ⟨Pol.of HLq.out (by omega) Hcq.out, Hcq.out⟩
  have HCo : Hid _ := ring_comm HCp.out HCq.out
  obtain rfl : E1 = E2 := by rw [HE1.out, HE2.out]; exact HCo.out.1
  obtain rfl : E3 = E4 := by rw [HE3.out, HE4.out]; exact HCo.out.2.2.1
  have d1 : (E1 != E1) = false := by simp
  have d3 : (E3 != E3) = false := by simp
  go_wp2_with fail
  refine (same_at true _ _ (addPL p q) (addPL q p) _ (decide_eq_true HCo.out.2.1) HS.out HT.out).mono ?_
  rintro e w8 ⟨rfl, n, hw⟩
  have K := kp_drawn hw
  have B := below_drawn hw
  clear hw
  have HBn : Hid (Below w.heap.size w w8) := below_step HB.out B
  clear HB B
  have HB := HBn
  clear HBn
  have HPn : Hid (Ms w8 v p) := HP.out.kp K
  clear HP
  have HP := HPn
  clear HPn
  have HQn : Hid (Ms w8 u q) := HQ.out.kp K
  clear HQ
  have HQ := HQn
  clear HQn
  have HRn : Hid (Ms w8 x r) := HR.out.kp K
  clear HR
  have HR := HRn
  clear HRn
  have HSn : Hid (Ms w8 vs (addPL p q)) := HS.out.kp K
  clear HS
  have HS := HSn
  clear HSn
  have HTn : Hid (Ms w8 vt (addPL q p)) := HT.out.kp K
  clear HT
  have HT := HTn
  clear HTn
  have HMn : Hid (Ms w8 vm (mulPL p q)) := HM.out.kp K
  clear HM
  have HM := HMn
  clear HMn
  have HNn : Hid (Ms w8 vn (mulPL q p)) := HN.out.kp K
  clear HN
  have HN := HNn
  clear HNn
  clear K
  go_wp2_with fail
  refine (same_at true _ _ (mulPL p q) (mulPL q p) _ (decide_eq_true HCo.out.2.2.2) HM.out HN.out).mono ?_
  rintro e w9 ⟨rfl, n, hw⟩
  have K := kp_drawn hw
  have B := below_drawn hw
  clear hw
  have HBn : Hid (Below w.heap.size w w9) := below_step HB.out B
  clear HB B
  have HB := HBn
  clear HBn
  have HPn : Hid (Ms w9 v p) := HP.out.kp K
  clear HP
  have HP := HPn
  clear HPn
  have HQn : Hid (Ms w9 u q) := HQ.out.kp K
  clear HQ
  have HQ := HQn
  clear HQn
  have HRn : Hid (Ms w9 x r) := HR.out.kp K
  clear HR
  have HR := HRn
  clear HRn
  have HSn : Hid (Ms w9 vs (addPL p q)) := HS.out.kp K
  clear HS
  have HS := HSn
  clear HSn
  have HTn : Hid (Ms w9 vt (addPL q p)) := HT.out.kp K
  clear HT
  have HT := HTn
  clear HTn
  have HMn : Hid (Ms w9 vm (mulPL p q)) := HM.out.kp K
  clear HM
  have HM := HMn
  clear HMn
  have HNn : Hid (Ms w9 vn (mulPL q p)) := HN.out.kp K
  clear HN
  have HN := HNn
  clear HNn
  clear K
  clear HT
  clear HN
  clear d1 d3 HE2 HE4
  by_cases hE1 : E1 = 0
  rotate_left
  · skip
    have bE1 : (E1 != 0) = true := by rw [bne_iff_ne]; exact hE1
    have cE1 : (E1 == 0) = false := by rw [beq_eq_false_iff_ne]; exact hE1
    clear hE1
    go_wp2
    go_ret
    exact ⟨rfl, HB.out⟩
  subst hE1
  by_cases hE3 : E3 = 0
  rotate_left
  · skip
    have bE3 : (E3 != 0) = true := by rw [bne_iff_ne]; exact hE3
    have cE3 : (E3 == 0) = false := by rw [beq_eq_false_iff_ne]; exact hE3
    clear hE3
    go_wp2
    go_ret
    exact ⟨rfl, HB.out⟩
  subst hE3
  by_cases cr : checkE r 9223372036854775807 = 0
  rotate_left
  · have Hcr : Hid (¬ checkE r 9223372036854775807 = 0) := cr
    clear cr
    go_wp2_with fail
    refine (check_any _ r 1099511627776 _ HR.out (by omega) (by omega)).mono ?_
    rintro e w10 ⟨rfl, hb⟩
    have K := Kp.of_below hb
    have B := hb
    clear hb
    have HBn : Hid (Below w.heap.size w w10) := below_step HB.out B
    clear HB B
    have HB := HBn
    clear HBn
    have HPn : Hid (Ms w10 v p) := HP.out.kp K
    clear HP
    have HP := HPn
    clear HPn
    have HQn : Hid (Ms w10 u q) := HQ.out.kp K
    clear HQ
    have HQ := HQn
    clear HQn
    have HRn : Hid (Ms w10 x r) := HR.out.kp K
    clear HR
    have HR := HRn
    clear HRn
    have HSn : Hid (Ms w10 vs (addPL p q)) := HS.out.kp K
    clear HS
    have HS := HSn
    clear HSn
    have HMn : Hid (Ms w10 vm (mulPL p q)) := HM.out.kp K
    clear HM
    have HM := HMn
    clear HMn
    clear K
    obtain ⟨C, hC⟩ : ∃ C, C = checkE r 1099511627776 := ⟨_, rfl⟩
    rw [← hC]
    have xC : ¬ C = 0 := by rw [hC]; exact fun e => Hcr.out ((check_any_iff r).1 e)
    clear hC
    have bC : (C != 0) = true := by rw [bne_iff_ne]; exact xC
    have cC : (C == 0) = false := by rw [beq_eq_false_iff_ne]; exact xC
    clear xC
    go_wp2
    go_ret
    exact ⟨rfl, HB.out⟩
  have Hcr : Hid (checkE r 9223372036854775807 = 0) := cr
  clear cr
  go_wp2_with fail
  refine (check_any _ r 1099511627776 _ HR.out (by omega) (by omega)).mono ?_
  rintro e w10 ⟨rfl, hb⟩
  rw [(check_any_iff r).2 Hcr.out]
  have K := Kp.of_below hb
  have B := hb
  clear hb
  have HBn : Hid (Below w.heap.size w w10) := below_step HB.out B
  clear HB B
  have HB := HBn
  clear HBn
  have HPn : Hid (Ms w10 v p) := HP.out.kp K
  clear HP
  have HP := HPn
  clear HPn
  have HQn : Hid (Ms w10 u q) := HQ.out.kp K
  clear HQ
  have HQ := HQn
  clear HQn
  have HRn : Hid (Ms w10 x r) := HR.out.kp K
  clear HR
  have HR := HRn
  clear HRn
  have HSn : Hid (Ms w10 vs (addPL p q)) := HS.out.kp K
  clear HS
  have HS := HSn
  clear HSn
  have HMn : Hid (Ms w10 vm (mulPL p q)) := HM.out.kp K
  clear HM
  have HM := HMn
  clear HMn
  clear K
  have HCr : Hid (Ch r) := ⟨Pol.of HLr.out (by omega) Hcr.out, Hcr.out⟩
  have HUn : Hid _ := ring_units HCp.out
  go_wp2_with fail
  refine (padd_any _ _ p [] _ (HP.out.kp kp_a) (Row.nil (by simp [maxLen]))).mono ?_
  rintro e w11 ⟨vz, rfl, oz, hb⟩
  rw [HUn.out.1.2] at oz
  rw [HUn.out.1.1]
  have K := Kp.of_below hb
  have B := hb
  clear hb
  have Bn := below_step (below_alloc _) B
  clear B
  have B := Bn
  clear Bn
  have Kn := kp_a.trans K
  clear K
  have K := Kn
  clear Kn
  have HBn : Hid (Below w.heap.size w w11) := below_step HB.out B
  clear HB B
  have HB := HBn
  clear HBn
  have HPn : Hid (Ms w11 v p) := HP.out.kp K
  clear HP
  have HP := HPn
  clear HPn
  have HQn : Hid (Ms w11 u q) := HQ.out.kp K
  clear HQ
  have HQ := HQn
  clear HQn
  have HRn : Hid (Ms w11 x r) := HR.out.kp K
  clear HR
  have HR := HRn
  clear HRn
  have HSn : Hid (Ms w11 vs (addPL p q)) := HS.out.kp K
  clear HS
  have HS := HSn
  clear HSn
  have HMn : Hid (Ms w11 vm (mulPL p q)) := HM.out.kp K
  clear HM
  have HM := HMn
  clear HMn
  clear K
  have HZ : Hid (Ms w11 vz p) := oz.ms
  clear oz
  go_wp2_with fail
  refine (one_any _).mono ?_
  rintro e w12 ⟨vi, rfl, mi, hb⟩
  have K := Kp.of_below hb
  have B := hb
  clear hb
  have HBn : Hid (Below w.heap.size w w12) := below_step HB.out B
  clear HB B
  have HB := HBn
  clear HBn
  have HPn : Hid (Ms w12 v p) := HP.out.kp K
  clear HP
  have HP := HPn
  clear HPn
  have HQn : Hid (Ms w12 u q) := HQ.out.kp K
  clear HQ
  have HQ := HQn
  clear HQn
  have HRn : Hid (Ms w12 x r) := HR.out.kp K
  clear HR
  have HR := HRn
  clear HRn
  have HSn : Hid (Ms w12 vs (addPL p q)) := HS.out.kp K
  clear HS
  have HS := HSn
  clear HSn
  have HMn : Hid (Ms w12 vm (mulPL p q)) := HM.out.kp K
  clear HM
  have HM := HMn
  clear HMn
  have HZn : Hid (Ms w12 vz p) := HZ.out.kp K
  clear HZ
  have HZ := HZn
  clear HZn
  clear K
  have HI : Hid (Ms w12 vi [([1], [])]) := mi
  clear mi
  go_wp2_with fail
  refine (pmul_any _ _ p [([1], [])] _ HP.out HI.out).mono ?_
  rintro e w13 ⟨vu, rfl, ou, hb⟩
  rw [HUn.out.2.1.2] at ou
  rw [HUn.out.2.1.1]
  have K := Kp.of_below hb
  have B := hb
  clear hb
  have HBn : Hid (Below w.heap.size w w13) := below_step HB.out B
  clear HB B
  have HB := HBn
  clear HBn
  have HPn : Hid (Ms w13 v p) := HP.out.kp K
  clear HP
  have HP := HPn
  clear HPn
  have HQn : Hid (Ms w13 u q) := HQ.out.kp K
  clear HQ
  have HQ := HQn
  clear HQn
  have HRn : Hid (Ms w13 x r) := HR.out.kp K
  clear HR
  have HR := HRn
  clear HRn
  have HSn : Hid (Ms w13 vs (addPL p q)) := HS.out.kp K
  clear HS
  have HS := HSn
  clear HSn
  have HMn : Hid (Ms w13 vm (mulPL p q)) := HM.out.kp K
  clear HM
  have HM := HMn
  clear HMn
  have HZn : Hid (Ms w13 vz p) := HZ.out.kp K
  clear HZ
  have HZ := HZn
  clear HZn
  have HIn : Hid (Ms w13 vi [([1], [])]) := HI.out.kp K
  clear HI
  have HI := HIn
  clear HIn
  clear K
  have HU : Hid (Ms w13 vu p) := ou.ms
  clear ou HI
  go_wp2_with fail
  refine (pmul_any _ _ p [] _ (HP.out.kp kp_a) (Row.nil (by simp [maxLen]))).mono ?_
  rintro e w14 ⟨vo, rfl, oo, hb⟩
  rw [HUn.out.2.2.2] at oo
  rw [HUn.out.2.2.1]
  obtain ⟨ano, cno, rfl⟩ := oo.slice
  rw [List.length_nil]
  have K := Kp.of_below hb
  have B := hb
  clear hb
  have Bn := below_step (below_alloc _) B
  clear B
  have B := Bn
  clear Bn
  have Kn := kp_a.trans K
  clear K
  have K := Kn
  clear Kn
  have HBn : Hid (Below w.heap.size w w14) := below_step HB.out B
  clear HB B
  have HB := HBn
  clear HBn
  have HPn : Hid (Ms w14 v p) := HP.out.kp K
  clear HP
  have HP := HPn
  clear HPn
  have HQn : Hid (Ms w14 u q) := HQ.out.kp K
  clear HQ
  have HQ := HQn
  clear HQn
  have HRn : Hid (Ms w14 x r) := HR.out.kp K
  clear HR
  have HR := HRn
  clear HRn
  have HSn : Hid (Ms w14 vs (addPL p q)) := HS.out.kp K
  clear HS
  have HS := HSn
  clear HSn
  have HMn : Hid (Ms w14 vm (mulPL p q)) := HM.out.kp K
  clear HM
  have HM := HMn
  clear HMn
  have HZn : Hid (Ms w14 vz p) := HZ.out.kp K
  clear HZ
  have HZ := HZn
  clear HZn
  have HUn : Hid (Ms w14 vu p) := HU.out.kp K
  clear HU
  have HU := HUn
  clear HUn
  clear K
  clear oo
  go_wp2_with fail
  refine (same_at true _ _ p p _ (decide_eq_true rfl) HZ.out HP.out).mono ?_
  rintro e w15 ⟨rfl, n, hw⟩
  have K := kp_drawn hw
  have B := below_drawn hw
  clear hw
  have HBn : Hid (Below w.heap.size w w15) := below_step HB.out B
  clear HB B
  have HB := HBn
  clear HBn
  have HPn : Hid (Ms w15 v p) := HP.out.kp K
  clear HP
  have HP := HPn
  clear HPn
  have HQn : Hid (Ms w15 u q) := HQ.out.kp K
  clear HQ
  have HQ := HQn
  clear HQn
  have HRn : Hid (Ms w15 x r) := HR.out.kp K
  clear HR
  have HR := HRn
  clear HRn
  have HSn : Hid (Ms w15 vs (addPL p q)) := HS.out.kp K
  clear HS
  have HS := HSn
  clear HSn
  have HMn : Hid (Ms w15 vm (mulPL p q)) := HM.out.kp K
  clear HM
  have HM := HMn
  clear HMn
  have HZn : Hid (Ms w15 vz p) := HZ.out.kp K
  clear HZ
  have HZ := HZn
  clear HZn
  have HUn : Hid (Ms w15 vu p) := HU.out.kp K
  clear HU
  have HU := HUn
  clear HUn
  clear K
  go_wp2_with fail
  refine (same_at true _ _ p p _ (decide_eq_true rfl) HU.out HP.out).mono ?_
  rintro e w16 ⟨rfl, n, hw⟩
  have K := kp_drawn hw
  have B := below_drawn hw
  clear hw
  have HBn : Hid (Below w.heap.size w w16) := below_step HB.out B
  clear HB B
  have HB := HBn
  clear HBn
  have HPn : Hid (Ms w16 v p) := HP.out.kp K
  clear HP
  have HP := HPn
  clear HPn
  have HQn : Hid (Ms w16 u q) := HQ.out.kp K
  clear HQ
  have HQ := HQn
  clear HQn
  have HRn : Hid (Ms w16 x r) := HR.out.kp K
  clear HR
  have HR := HRn
  clear HRn
  have HSn : Hid (Ms w16 vs (addPL p q)) := HS.out.kp K
  clear HS
  have HS := HSn
  clear HSn
  have HMn : Hid (Ms w16 vm (mulPL p q)) := HM.out.kp K
  clear HM
  have HM := HMn
  clear HMn
  have HZn : Hid (Ms w16 vz p) := HZ.out.kp K
  clear HZ
  have HZ := HZn
  clear HZn
  have HUn : Hid (Ms w16 vu p) := HU.out.kp K
  clear HU
  have HU := HUn
  clear HUn
  clear K
  clear HZ
  clear HU
  clear HUn
  go_wp2_with fail
  refine (padd_any _ _ (addPL p q) r _ HS.out HR.out).mono ?_
  rintro e w17 ⟨va, rfl, ova, hb⟩
  have K := Kp.of_below hb
  have B := hb
  clear hb
  have HBn : Hid (Below w.heap.size w w17) := below_step HB.out B
  clear HB B
  have HB := HBn
  clear HBn
  have HPn : Hid (Ms w17 v p) := HP.out.kp K
  clear HP
  have HP := HPn
  clear HPn
  have HQn : Hid (Ms w17 u q) := HQ.out.kp K
  clear HQ
  have HQ := HQn
  clear HQn
  have HRn : Hid (Ms w17 x r) := HR.out.kp K
  clear HR
  have HR := HRn
  clear HRn
  have HSn : Hid (Ms w17 vs (addPL p q)) := HS.out.kp K
  clear HS
  have HS := HSn
  clear HSn
  have HMn : Hid (Ms w17 vm (mulPL p q)) := HM.out.kp K
  clear HM
  have HM := HMn
  clear HMn
  clear K
  have HA : Hid (Ms w17 va (addPL (addPL p q) r)) := ova.ms
  clear ova
  obtain ⟨E5, hE5⟩ : ∃ E, E = addPE (addPL p q) r := ⟨_, rfl⟩
  have HE5 : Hid (E5 = addPE (addPL p q) r) := hE5
  rw [← hE5]
  clear hE5
  go_wp2_with fail
  refine (padd_any _ _ q r _ HQ.out HR.out).mono ?_
  rintro e w18 ⟨vw, rfl, ovw, hb⟩
  have K := Kp.of_below hb
  have B := hb
  clear hb
  have HBn : Hid (Below w.heap.size w w18) := below_step HB.out B
  clear HB B
  have HB := HBn
  clear HBn
  have HPn : Hid (Ms w18 v p) := HP.out.kp K
  clear HP
  have HP := HPn
  clear HPn
  have HQn : Hid (Ms w18 u q) := HQ.out.kp K
  clear HQ
  have HQ := HQn
  clear HQn
  have HRn : Hid (Ms w18 x r) := HR.out.kp K
  clear HR
  have HR := HRn
  clear HRn
  have HSn : Hid (Ms w18 vs (addPL p q)) := HS.out.kp K
  clear HS
  have HS := HSn
  clear HSn
  have HMn : Hid (Ms w18 vm (mulPL p q)) := HM.out.kp K
  clear HM
  have HM := HMn
  clear HMn
  have HAn : Hid (Ms w18 va (addPL (addPL p q) r)) := HA.out.kp K
  clear HA
  have HA := HAn
  clear HAn
  clear K
  have HW : Hid (Ms w18 vw (addPL q r)) := ovw.ms
  clear ovw
  obtain ⟨E6, hE6⟩ : ∃ E, E = addPE q r := ⟨_, rfl⟩
  have HE6 : Hid (E6 = addPE q r) := hE6
  rw [← hE6]
  clear hE6
  go_wp2_with fail
  refine (padd_any _ _ p (addPL q r) _ HP.out HW.out).mono ?_
  rintro e w19 ⟨vb, rfl, ovb, hb⟩
  have K := Kp.of_below hb
  have B := hb
  clear hb
  have HBn : Hid (Below w.heap.size w w19) := below_step HB.out B
  clear HB B
  have HB := HBn
  clear HBn
  have HPn : Hid (Ms w19 v p) := HP.out.kp K
  clear HP
  have HP := HPn
  clear HPn
  have HQn : Hid (Ms w19 u q) := HQ.out.kp K
  clear HQ
  have HQ := HQn
  clear HQn
  have HRn : Hid (Ms w19 x r) := HR.out.kp K
  clear HR
  have HR := HRn
  clear HRn
  have HSn : Hid (Ms w19 vs (addPL p q)) := HS.out.kp K
  clear HS
  have HS := HSn
  clear HSn
  have HMn : Hid (Ms w19 vm (mulPL p q)) := HM.out.kp K
  clear HM
  have HM := HMn
  clear HMn
  have HAn : Hid (Ms w19 va (addPL (addPL p q) r)) := HA.out.kp K
  clear HA
  have HA := HAn
  clear HAn
  have HWn : Hid (Ms w19 vw (addPL q r)) := HW.out.kp K
  clear HW
  have HW := HWn
  clear HWn
  clear K
  have HBb : Hid (Ms w19 vb (addPL p (addPL q r))) := ovb.ms
  clear ovb
  obtain ⟨E7, hE7⟩ : ∃ E, E = addPE p (addPL q r) := ⟨_, rfl⟩
  have HE7 : Hid (E7 = addPE p (addPL q r)) := hE7
  rw [← hE7]
  clear hE7
  by_cases h5 : E5 = 0
  · subst h5
    have HRa : Hid _ := ring_add HCp.out HCq.out HCr.out HE1.out.symm HE5.out.symm
    obtain rfl : E6 = 0 := HE6.out.trans HRa.out.1
    obtain rfl : E7 = 0 := HE7.out.trans HRa.out.2.1
    go_wp2_with fail
    refine (same_at true _ _ (addPL (addPL p q) r) (addPL p (addPL q r)) _ (decide_eq_true HRa.out.2.2) HA.out HBb.out).mono ?_
    rintro e w20 ⟨rfl, n, hw⟩
    have K := kp_drawn hw
    have B := below_drawn hw
    clear hw
    have HBn : Hid (Below w.heap.size w w20) := below_step HB.out B
    clear HB B
    have HB := HBn
    clear HBn
    have HPn : Hid (Ms w20 v p) := HP.out.kp K
    clear HP
    have HP := HPn
    clear HPn
    have HQn : Hid (Ms w20 u q) := HQ.out.kp K
    clear HQ
    have HQ := HQn
    clear HQn
    have HRn : Hid (Ms w20 x r) := HR.out.kp K
    clear HR
    have HR := HRn
    clear HRn
    have HSn : Hid (Ms w20 vs (addPL p q)) := HS.out.kp K
    clear HS
    have HS := HSn
    clear HSn
    have HMn : Hid (Ms w20 vm (mulPL p q)) := HM.out.kp K
    clear HM
    have HM := HMn
    clear HMn
    have HAn : Hid (Ms w20 va (addPL (addPL p q) r)) := HA.out.kp K
    clear HA
    have HA := HAn
    clear HAn
    have HWn : Hid (Ms w20 vw (addPL q r)) := HW.out.kp K
    clear HW
    have HW := HWn
    clear HWn
    have HBbn : Hid (Ms w20 vb (addPL p (addPL q r))) := HBb.out.kp K
    clear HBb
    have HBb := HBbn
    clear HBbn
    clear K
    clear HA
    clear HW
    clear HBb
    go_wp2_with fail
    refine (pmul_any _ _ (mulPL p q) r _ HM.out HR.out).mono ?_
    rintro e w21 ⟨vc, rfl, ovc, hb⟩
    have K := Kp.of_below hb
    have B := hb
    clear hb
    have HBn : Hid (Below w.heap.size w w21) := below_step HB.out B
    clear HB B
    have HB := HBn
    clear HBn
    have HPn : Hid (Ms w21 v p) := HP.out.kp K
    clear HP
    have HP := HPn
    clear HPn
    have HQn : Hid (Ms w21 u q) := HQ.out.kp K
    clear HQ
    have HQ := HQn
    clear HQn
    have HRn : Hid (Ms w21 x r) := HR.out.kp K
    clear HR
    have HR := HRn
    clear HRn
    have HSn : Hid (Ms w21 vs (addPL p q)) := HS.out.kp K
    clear HS
    have HS := HSn
    clear HSn
    have HMn : Hid (Ms w21 vm (mulPL p q)) := HM.out.kp K
    clear HM
    have HM := HMn
    clear HMn
    clear K
    have HC : Hid (Ms w21 vc (mulPL (mulPL p q) r)) := ovc.ms
    clear ovc
    obtain ⟨E8, hE8⟩ : ∃ E, E = mulPE (mulPL p q) r := ⟨_, rfl⟩
    have HE8 : Hid (E8 = mulPE (mulPL p q) r) := hE8
    rw [← hE8]
    clear hE8
    go_wp2_with fail
    refine (pmul_any _ _ q r _ HQ.out HR.out).mono ?_
    rintro e w22 ⟨vv, rfl, ovv, hb⟩
    have K := Kp.of_below hb
    have B := hb
    clear hb
    have HBn : Hid (Below w.heap.size w w22) := below_step HB.out B
    clear HB B
    have HB := HBn
    clear HBn
    have HPn : Hid (Ms w22 v p) := HP.out.kp K
    clear HP
    have HP := HPn
    clear HPn
    have HQn : Hid (Ms w22 u q) := HQ.out.kp K
    clear HQ
    have HQ := HQn
    clear HQn
    have HRn : Hid (Ms w22 x r) := HR.out.kp K
    clear HR
    have HR := HRn
    clear HRn
    have HSn : Hid (Ms w22 vs (addPL p q)) := HS.out.kp K
    clear HS
    have HS := HSn
    clear HSn
    have HMn : Hid (Ms w22 vm (mulPL p q)) := HM.out.kp K
    clear HM
    have HM := HMn
    clear HMn
    have HCn : Hid (Ms w22 vc (mulPL (mulPL p q) r)) := HC.out.kp K
    clear HC
    have HC := HCn
    clear HCn
    clear K
    have HV : Hid (Ms w22 vv (mulPL q r)) := ovv.ms
    clear ovv
    obtain ⟨E9, hE9⟩ : ∃ E, E = mulPE q r := ⟨_, rfl⟩
    have HE9 : Hid (E9 = mulPE q r) := hE9
    rw [← hE9]
    clear hE9
    go_wp2_with fail
    refine (pmul_any _ _ p (mulPL q r) _ HP.out HV.out).mono ?_
    rintro e w23 ⟨vd, rfl, ovd, hb⟩
    have K := Kp.of_below hb
    have B := hb
    clear hb
    have HBn : Hid (Below w.heap.size w w23) := below_step HB.out B
    clear HB B
    have HB := HBn
    clear HBn
    have HPn : Hid (Ms w23 v p) := HP.out.kp K
    clear HP
    have HP := HPn
    clear HPn
    have HQn : Hid (Ms w23 u q) := HQ.out.kp K
    clear HQ
    have HQ := HQn
    clear HQn
    have HRn : Hid (Ms w23 x r) := HR.out.kp K
    clear HR
    have HR := HRn
    clear HRn
    have HSn : Hid (Ms w23 vs (addPL p q)) := HS.out.kp K
    clear HS
    have HS := HSn
    clear HSn
    have HMn : Hid (Ms w23 vm (mulPL p q)) := HM.out.kp K
    clear HM
    have HM := HMn
    clear HMn
    have HCn : Hid (Ms w23 vc (mulPL (mulPL p q) r)) := HC.out.kp K
    clear HC
    have HC := HCn
    clear HCn
    have HVn : Hid (Ms w23 vv (mulPL q r)) := HV.out.kp K
    clear HV
    have HV := HVn
    clear HVn
    clear K
    have HD : Hid (Ms w23 vd (mulPL p (mulPL q r))) := ovd.ms
    clear ovd
    obtain ⟨E10, hE10⟩ : ∃ E, E = mulPE p (mulPL q r) := ⟨_, rfl⟩
    have HE10 : Hid (E10 = mulPE p (mulPL q r)) := hE10
    rw [← hE10]
    clear hE10
    by_cases h9 : E9 = 0
    rotate_left
    · have H9 : Hid (¬ E9 = 0) := h9
      have bE9 : (E9 != 0) = true := by rw [bne_iff_ne]; exact h9
      have cE9 : (E9 == 0) = false := by rw [beq_eq_false_iff_ne]; exact h9
      clear h9
      by_cases h8 : E8 = 0
      · subst h8
        go_wp2_with fail
        refine (pmul_any _ _ (addPL p q) r _ HS.out HR.out).mono ?_
        rintro e w24 ⟨ve, rfl, ove, hb⟩
        have K := Kp.of_below hb
        have B := hb
        clear hb
        have HBn : Hid (Below w.heap.size w w24) := below_step HB.out B
        clear HB B
        have HB := HBn
        clear HBn
        have HPn : Hid (Ms w24 v p) := HP.out.kp K
        clear HP
        have HP := HPn
        clear HPn
        have HQn : Hid (Ms w24 u q) := HQ.out.kp K
        clear HQ
        have HQ := HQn
        clear HQn
        have HRn : Hid (Ms w24 x r) := HR.out.kp K
        clear HR
        have HR := HRn
        clear HRn
        have HSn : Hid (Ms w24 vs (addPL p q)) := HS.out.kp K
        clear HS
        have HS := HSn
        clear HSn
        have HMn : Hid (Ms w24 vm (mulPL p q)) := HM.out.kp K
        clear HM
        have HM := HMn
        clear HMn
        have HCn : Hid (Ms w24 vc (mulPL (mulPL p q) r)) := HC.out.kp K
        clear HC
        have HC := HCn
        clear HCn
        have HVn : Hid (Ms w24 vv (mulPL q r)) := HV.out.kp K
        clear HV
        have HV := HVn
        clear HVn
        have HDn : Hid (Ms w24 vd (mulPL p (mulPL q r))) := HD.out.kp K
        clear HD
        have HD := HDn
        clear HDn
        clear K
        have HEe : Hid (Ms w24 ve (mulPL (addPL p q) r)) := ove.ms
        clear ove
        obtain ⟨E11, hE11⟩ : ∃ E, E = mulPE (addPL p q) r := ⟨_, rfl⟩
        have HE11 : Hid (E11 = mulPE (addPL p q) r) := hE11
        rw [← hE11]
        clear hE11
        go_wp2_with fail
        refine (pmul_any _ _ p r _ HP.out HR.out).mono ?_
        rintro e w25 ⟨vy, rfl, ovy, hb⟩
        have K := Kp.of_below hb
        have B := hb
        clear hb
        have HBn : Hid (Below w.heap.size w w25) := below_step HB.out B
        clear HB B
        have HB := HBn
        clear HBn
        have HPn : Hid (Ms w25 v p) := HP.out.kp K
        clear HP
        have HP := HPn
        clear HPn
        have HQn : Hid (Ms w25 u q) := HQ.out.kp K
        clear HQ
        have HQ := HQn
        clear HQn
        have HRn : Hid (Ms w25 x r) := HR.out.kp K
        clear HR
        have HR := HRn
        clear HRn
        have HSn : Hid (Ms w25 vs (addPL p q)) := HS.out.kp K
        clear HS
        have HS := HSn
        clear HSn
        have HMn : Hid (Ms w25 vm (mulPL p q)) := HM.out.kp K
        clear HM
        have HM := HMn
        clear HMn
        have HCn : Hid (Ms w25 vc (mulPL (mulPL p q) r)) := HC.out.kp K
        clear HC
        have HC := HCn
        clear HCn
        have HVn : Hid (Ms w25 vv (mulPL q r)) := HV.out.kp K
        clear HV
        have HV := HVn
        clear HVn
        have HDn : Hid (Ms w25 vd (mulPL p (mulPL q r))) := HD.out.kp K
        clear HD
        have HD := HDn
        clear HDn
        have HEen : Hid (Ms w25 ve (mulPL (addPL p q) r)) := HEe.out.kp K
        clear HEe
        have HEe := HEen
        clear HEen
        clear K
        have HY : Hid (Ms w25 vy (mulPL p r)) := ovy.ms
        clear ovy
        obtain ⟨E12, hE12⟩ : ∃ E, E = mulPE p r := ⟨_, rfl⟩
        have HE12 : Hid (E12 = mulPE p r) := hE12
        rw [← hE12]
        clear hE12
        by_cases hE11 : E11 = 0
        rotate_left
        · skip
          have bE11 : (E11 != 0) = true := by rw [bne_iff_ne]; exact hE11
          have cE11 : (E11 == 0) = false := by rw [beq_eq_false_iff_ne]; exact hE11
          clear hE11
          go_wp2_with fail
          refine (padd_any _ _ (mulPL p r) (mulPL q r) _ HY.out HV.out).mono ?_
          rintro e w26 ⟨vq, rfl, ovq, hb⟩
          have K := Kp.of_below hb
          have B := hb
          clear hb
          have HBn : Hid (Below w.heap.size w w26) := below_step HB.out B
          clear HB B
          have HB := HBn
          clear HBn
          have HPn : Hid (Ms w26 v p) := HP.out.kp K
          clear HP
          have HP := HPn
          clear HPn
          have HQn : Hid (Ms w26 u q) := HQ.out.kp K
          clear HQ
          have HQ := HQn
          clear HQn
          have HRn : Hid (Ms w26 x r) := HR.out.kp K
          clear HR
          have HR := HRn
          clear HRn
          have HSn : Hid (Ms w26 vs (addPL p q)) := HS.out.kp K
          clear HS
          have HS := HSn
          clear HSn
          have HMn : Hid (Ms w26 vm (mulPL p q)) := HM.out.kp K
          clear HM
          have HM := HMn
          clear HMn
          have HCn : Hid (Ms w26 vc (mulPL (mulPL p q) r)) := HC.out.kp K
          clear HC
          have HC := HCn
          clear HCn
          have HVn : Hid (Ms w26 vv (mulPL q r)) := HV.out.kp K
          clear HV
          have HV := HVn
          clear HVn
          have HDn : Hid (Ms w26 vd (mulPL p (mulPL q r))) := HD.out.kp K
          clear HD
          have HD := HDn
          clear HDn
          have HEen : Hid (Ms w26 ve (mulPL (addPL p q) r)) := HEe.out.kp K
          clear HEe
          have HEe := HEen
          clear HEen
          have HYn : Hid (Ms w26 vy (mulPL p r)) := HY.out.kp K
          clear HY
          have HY := HYn
          clear HYn
          clear K
          have HO : Hid (Ms w26 vq (addPL (mulPL p r) (mulPL q r))) := ovq.ms
          clear ovq
          obtain ⟨E13, hE13⟩ : ∃ E, E = addPE (mulPL p r) (mulPL q r) := ⟨_, rfl⟩
          have HE13 : Hid (E13 = addPE (mulPL p r) (mulPL q r)) := hE13
          rw [← hE13]
          clear hE13
          go_wp2
          go_ret
          exact ⟨rfl, HB.out⟩
        subst hE11
        have HRb : Hid _ := ring_both HCp.out HCq.out HCr.out HE1.out.symm HE11.out.symm
        exact absurd (HE9.out.trans HRb.out.2.1) H9.out
      · skip
        have bE8 : (E8 != 0) = true := by rw [bne_iff_ne]; exact h8
        have cE8 : (E8 == 0) = false := by rw [beq_eq_false_iff_ne]; exact h8
        clear h8
        go_wp2_with fail
        refine (pmul_any _ _ (addPL p q) r _ HS.out HR.out).mono ?_
        rintro e w24 ⟨ve, rfl, ove, hb⟩
        have K := Kp.of_below hb
        have B := hb
        clear hb
        have HBn : Hid (Below w.heap.size w w24) := below_step HB.out B
        clear HB B
        have HB := HBn
        clear HBn
        have HPn : Hid (Ms w24 v p) := HP.out.kp K
        clear HP
        have HP := HPn
        clear HPn
        have HQn : Hid (Ms w24 u q) := HQ.out.kp K
        clear HQ
        have HQ := HQn
        clear HQn
        have HRn : Hid (Ms w24 x r) := HR.out.kp K
        clear HR
        have HR := HRn
        clear HRn
        have HSn : Hid (Ms w24 vs (addPL p q)) := HS.out.kp K
        clear HS
        have HS := HSn
        clear HSn
        have HMn : Hid (Ms w24 vm (mulPL p q)) := HM.out.kp K
        clear HM
        have HM := HMn
        clear HMn
        have HCn : Hid (Ms w24 vc (mulPL (mulPL p q) r)) := HC.out.kp K
        clear HC
        have HC := HCn
        clear HCn
        have HVn : Hid (Ms w24 vv (mulPL q r)) := HV.out.kp K
        clear HV
        have HV := HVn
        clear HVn
        have HDn : Hid (Ms w24 vd (mulPL p (mulPL q r))) := HD.out.kp K
        clear HD
        have HD := HDn
        clear HDn
        clear K
        have HEe : Hid (Ms w24 ve (mulPL (addPL p q) r)) := ove.ms
        clear ove
        obtain ⟨E11, hE11⟩ : ∃ E, E = mulPE (addPL p q) r := ⟨_, rfl⟩
        have HE11 : Hid (E11 = mulPE (addPL p q) r) := hE11
        rw [← hE11]
        clear hE11
        go_wp2_with fail
        refine (pmul_any _ _ p r _ HP.out HR.out).mono ?_
        rintro e w25 ⟨vy, rfl, ovy, hb⟩
        have K := Kp.of_below hb
        have B := hb
        clear hb
        have HBn : Hid (Below w.heap.size w w25) := below_step HB.out B
        clear HB B
        have HB := HBn
        clear HBn
        have HPn : Hid (Ms w25 v p) := HP.out.kp K
        clear HP
        have HP := HPn
        clear HPn
        have HQn : Hid (Ms w25 u q) := HQ.out.kp K
        clear HQ
        have HQ := HQn
        clear HQn
        have HRn : Hid (Ms w25 x r) := HR.out.kp K
        clear HR
        have HR := HRn
        clear HRn
        have HSn : Hid (Ms w25 vs (addPL p q)) := HS.out.kp K
        clear HS
        have HS := HSn
        clear HSn
        have HMn : Hid (Ms w25 vm (mulPL p q)) := HM.out.kp K
        clear HM
        have HM := HMn
        clear HMn
        have HCn : Hid (Ms w25 vc (mulPL (mulPL p q) r)) := HC.out.kp K
        clear HC
        have HC := HCn
        clear HCn
        have HVn : Hid (Ms w25 vv (mulPL q r)) := HV.out.kp K
        clear HV
        have HV := HVn
        clear HVn
        have HDn : Hid (Ms w25 vd (mulPL p (mulPL q r))) := HD.out.kp K
        clear HD
        have HD := HDn
        clear HDn
        have HEen : Hid (Ms w25 ve (mulPL (addPL p q) r)) := HEe.out.kp K
        clear HEe
        have HEe := HEen
        clear HEen
        clear K
        have HY : Hid (Ms w25 vy (mulPL p r)) := ovy.ms
        clear ovy
        obtain ⟨E12, hE12⟩ : ∃ E, E = mulPE p r := ⟨_, rfl⟩
        have HE12 : Hid (E12 = mulPE p r) := hE12
        rw [← hE12]
        clear hE12
        by_cases hE11 : E11 = 0
        rotate_left
        · skip
          have bE11 : (E11 != 0) = true := by rw [bne_iff_ne]; exact hE11
          have cE11 : (E11 == 0) = false := by rw [beq_eq_false_iff_ne]; exact hE11
          clear hE11
          go_wp2_with fail
          refine (padd_any _ _ (mulPL p r) (mulPL q r) _ HY.out HV.out).mono ?_
          rintro e w26 ⟨vq, rfl, ovq, hb⟩
          have K := Kp.of_below hb
          have B := hb
          clear hb
          have HBn : Hid (Below w.heap.size w w26) := below_step HB.out B
          clear HB B
          have HB := HBn
          clear HBn
          have HPn : Hid (Ms w26 v p) := HP.out.kp K
          clear HP
          have HP := HPn
          clear HPn
          have HQn : Hid (Ms w26 u q) := HQ.out.kp K
          clear HQ
          have HQ := HQn
          clear HQn
          have HRn : Hid (Ms w26 x r) := HR.out.kp K
          clear HR
          have HR := HRn
          clear HRn
          have HSn : Hid (Ms w26 vs (addPL p q)) := HS.out.kp K
          clear HS
          have HS := HSn
          clear HSn
          have HMn : Hid (Ms w26 vm (mulPL p q)) := HM.out.kp K
          clear HM
          have HM := HMn
          clear HMn
          have HCn : Hid (Ms w26 vc (mulPL (mulPL p q) r)) := HC.out.kp K
          clear HC
          have HC := HCn
          clear HCn
          have HVn : Hid (Ms w26 vv (mulPL q r)) := HV.out.kp K
          clear HV
          have HV := HVn
          clear HVn
          have HDn : Hid (Ms w26 vd (mulPL p (mulPL q r))) := HD.out.kp K
          clear HD
          have HD := HDn
          clear HDn
          have HEen : Hid (Ms w26 ve (mulPL (addPL p q) r)) := HEe.out.kp K
          clear HEe
          have HEe := HEen
          clear HEen
          have HYn : Hid (Ms w26 vy (mulPL p r)) := HY.out.kp K
          clear HY
          have HY := HYn
          clear HYn
          clear K
          have HO : Hid (Ms w26 vq (addPL (mulPL p r) (mulPL q r))) := ovq.ms
          clear ovq
          obtain ⟨E13, hE13⟩ : ∃ E, E = addPE (mulPL p r) (mulPL q r) := ⟨_, rfl⟩
          have HE13 : Hid (E13 = addPE (mulPL p r) (mulPL q r)) := hE13
          rw [← hE13]
          clear hE13
          go_wp2
          go_ret
          exact ⟨rfl, HB.out⟩
        subst hE11
        have HRb : Hid _ := ring_both HCp.out HCq.out HCr.out HE1.out.symm HE11.out.symm
        exact absurd (HE9.out.trans HRb.out.2.1) H9.out
    subst h9
    by_cases h8 : E8 = 0
    · subst h8
      have HRm : Hid _ := ring_mul HCp.out HCq.out HCr.out HE3.out.symm HE8.out.symm HE9.out.symm
      obtain rfl : E10 = 0 := HE10.out.trans HRm.out.1
      go_wp2_with fail
      refine (same_at true _ _ (mulPL (mulPL p q) r) (mulPL p (mulPL q r)) _ (decide_eq_true HRm.out.2) HC.out HD.out).mono ?_
      rintro e w24 ⟨rfl, n, hw⟩
      have K := kp_drawn hw
      have B := below_drawn hw
      clear hw
      have HBn : Hid (Below w.heap.size w w24) := below_step HB.out B
      clear HB B
      have HB := HBn
      clear HBn
      have HPn : Hid (Ms w24 v p) := HP.out.kp K
      clear HP
      have HP := HPn
      clear HPn
      have HQn : Hid (Ms w24 u q) := HQ.out.kp K
      clear HQ
      have HQ := HQn
      clear HQn
      have HRn : Hid (Ms w24 x r) := HR.out.kp K
      clear HR
      have HR := HRn
      clear HRn
      have HSn : Hid (Ms w24 vs (addPL p q)) := HS.out.kp K
      clear HS
      have HS := HSn
      clear HSn
      have HMn : Hid (Ms w24 vm (mulPL p q)) := HM.out.kp K
      clear HM
      have HM := HMn
      clear HMn
      have HCn : Hid (Ms w24 vc (mulPL (mulPL p q) r)) := HC.out.kp K
      clear HC
      have HC := HCn
      clear HCn
      have HVn : Hid (Ms w24 vv (mulPL q r)) := HV.out.kp K
      clear HV
      have HV := HVn
      clear HVn
      have HDn : Hid (Ms w24 vd (mulPL p (mulPL q r))) := HD.out.kp K
      clear HD
      have HD := HDn
      clear HDn
      clear K
      go_wp2_with fail
      refine (pmul_any _ _ (addPL p q) r _ HS.out HR.out).mono ?_
      rintro e w25 ⟨ve, rfl, ove, hb⟩
      have K := Kp.of_below hb
      have B := hb
      clear hb
      have HBn : Hid (Below w.heap.size w w25) := below_step HB.out B
      clear HB B
      have HB := HBn
      clear HBn
      have HPn : Hid (Ms w25 v p) := HP.out.kp K
      clear HP
      have HP := HPn
      clear HPn
      have HQn : Hid (Ms w25 u q) := HQ.out.kp K
      clear HQ
      have HQ := HQn
      clear HQn
      have HRn : Hid (Ms w25 x r) := HR.out.kp K
      clear HR
      have HR := HRn
      clear HRn
      have HSn : Hid (Ms w25 vs (addPL p q)) := HS.out.kp K
      clear HS
      have HS := HSn
      clear HSn
      have HMn : Hid (Ms w25 vm (mulPL p q)) := HM.out.kp K
      clear HM
      have HM := HMn
      clear HMn
      have HCn : Hid (Ms w25 vc (mulPL (mulPL p q) r)) := HC.out.kp K
      clear HC
      have HC := HCn
      clear HCn
      have HVn : Hid (Ms w25 vv (mulPL q r)) := HV.out.kp K
      clear HV
      have HV := HVn
      clear HVn
      have HDn : Hid (Ms w25 vd (mulPL p (mulPL q r))) := HD.out.kp K
      clear HD
      have HD := HDn
      clear HDn
      clear K
      have HEe : Hid (Ms w25 ve (mulPL (addPL p q) r)) := ove.ms
      clear ove
      obtain ⟨E11, hE11⟩ : ∃ E, E = mulPE (addPL p q) r := ⟨_, rfl⟩
      have HE11 : Hid (E11 = mulPE (addPL p q) r) := hE11
      rw [← hE11]
      clear hE11
      go_wp2_with fail
      refine (pmul_any _ _ p r _ HP.out HR.out).mono ?_
      rintro e w26 ⟨vy, rfl, ovy, hb⟩
      have K := Kp.of_below hb
      have B := hb
      clear hb
      have HBn : Hid (Below w.heap.size w w26) := below_step HB.out B
      clear HB B
      have HB := HBn
      clear HBn
      have HPn : Hid (Ms w26 v p) := HP.out.kp K
      clear HP
      have HP := HPn
      clear HPn
      have HQn : Hid (Ms w26 u q) := HQ.out.kp K
      clear HQ
      have HQ := HQn
      clear HQn
      have HRn : Hid (Ms w26 x r) := HR.out.kp K
      clear HR
      have HR := HRn
      clear HRn
      have HSn : Hid (Ms w26 vs (addPL p q)) := HS.out.kp K
      clear HS
      have HS := HSn
      clear HSn
      have HMn : Hid (Ms w26 vm (mulPL p q)) := HM.out.kp K
      clear HM
      have HM := HMn
      clear HMn
      have HCn : Hid (Ms w26 vc (mulPL (mulPL p q) r)) := HC.out.kp K
      clear HC
      have HC := HCn
      clear HCn
      have HVn : Hid (Ms w26 vv (mulPL q r)) := HV.out.kp K
      clear HV
      have HV := HVn
      clear HVn
      have HDn : Hid (Ms w26 vd (mulPL p (mulPL q r))) := HD.out.kp K
      clear HD
      have HD := HDn
      clear HDn
      have HEen : Hid (Ms w26 ve (mulPL (addPL p q) r)) := HEe.out.kp K
      clear HEe
      have HEe := HEen
      clear HEen
      clear K
      have HY : Hid (Ms w26 vy (mulPL p r)) := ovy.ms
      clear ovy
      obtain ⟨E12, hE12⟩ : ∃ E, E = mulPE p r := ⟨_, rfl⟩
      have HE12 : Hid (E12 = mulPE p r) := hE12
      rw [← hE12]
      clear hE12
      by_cases hE11 : E11 = 0
      rotate_left
      · skip
        have bE11 : (E11 != 0) = true := by rw [bne_iff_ne]; exact hE11
        have cE11 : (E11 == 0) = false := by rw [beq_eq_false_iff_ne]; exact hE11
        clear hE11
        go_wp2_with fail
        refine (padd_any _ _ (mulPL p r) (mulPL q r) _ HY.out HV.out).mono ?_
        rintro e w27 ⟨vq, rfl, ovq, hb⟩
        have K := Kp.of_below hb
        have B := hb
        clear hb
        have HBn : Hid (Below w.heap.size w w27) := below_step HB.out B
        clear HB B
        have HB := HBn
        clear HBn
        have HPn : Hid (Ms w27 v p) := HP.out.kp K
        clear HP
        have HP := HPn
        clear HPn
        have HQn : Hid (Ms w27 u q) := HQ.out.kp K
        clear HQ
        have HQ := HQn
        clear HQn
        have HRn : Hid (Ms w27 x r) := HR.out.kp K
        clear HR
        have HR := HRn
        clear HRn
        have HSn : Hid (Ms w27 vs (addPL p q)) := HS.out.kp K
        clear HS
        have HS := HSn
        clear HSn
        have HMn : Hid (Ms w27 vm (mulPL p q)) := HM.out.kp K
        clear HM
        have HM := HMn
        clear HMn
        have HCn : Hid (Ms w27 vc (mulPL (mulPL p q) r)) := HC.out.kp K
        clear HC
        have HC := HCn
        clear HCn
        have HVn : Hid (Ms w27 vv (mulPL q r)) := HV.out.kp K
        clear HV
        have HV := HVn
        clear HVn
        have HDn : Hid (Ms w27 vd (mulPL p (mulPL q r))) := HD.out.kp K
        clear HD
        have HD := HDn
        clear HDn
        have HEen : Hid (Ms w27 ve (mulPL (addPL p q) r)) := HEe.out.kp K
        clear HEe
        have HEe := HEen
        clear HEen
        have HYn : Hid (Ms w27 vy (mulPL p r)) := HY.out.kp K
        clear HY
        have HY := HYn
        clear HYn
        clear K
        have HO : Hid (Ms w27 vq (addPL (mulPL p r) (mulPL q r))) := ovq.ms
        clear ovq
        obtain ⟨E13, hE13⟩ : ∃ E, E = addPE (mulPL p r) (mulPL q r) := ⟨_, rfl⟩
        have HE13 : Hid (E13 = addPE (mulPL p r) (mulPL q r)) := hE13
        rw [← hE13]
        clear hE13
        go_wp2
        go_ret
        exact ⟨rfl, HB.out⟩
      subst hE11
      have HRb : Hid _ := ring_both HCp.out HCq.out HCr.out HE1.out.symm HE11.out.symm
      obtain rfl : E12 = 0 := HE12.out.trans HRb.out.1
      go_wp2_with fail
      refine (padd_any _ _ (mulPL p r) (mulPL q r) _ HY.out HV.out).mono ?_
      rintro e w27 ⟨vq, rfl, oq, hb⟩
      rw [HRb.out.2.2.1]
      have K := Kp.of_below hb
      have B := hb
      clear hb
      have HBn : Hid (Below w.heap.size w w27) := below_step HB.out B
      clear HB B
      have HB := HBn
      clear HBn
      have HPn : Hid (Ms w27 v p) := HP.out.kp K
      clear HP
      have HP := HPn
      clear HPn
      have HQn : Hid (Ms w27 u q) := HQ.out.kp K
      clear HQ
      have HQ := HQn
      clear HQn
      have HRn : Hid (Ms w27 x r) := HR.out.kp K
      clear HR
      have HR := HRn
      clear HRn
      have HSn : Hid (Ms w27 vs (addPL p q)) := HS.out.kp K
      clear HS
      have HS := HSn
      clear HSn
      have HMn : Hid (Ms w27 vm (mulPL p q)) := HM.out.kp K
      clear HM
      have HM := HMn
      clear HMn
      have HCn : Hid (Ms w27 vc (mulPL (mulPL p q) r)) := HC.out.kp K
      clear HC
      have HC := HCn
      clear HCn
      have HVn : Hid (Ms w27 vv (mulPL q r)) := HV.out.kp K
      clear HV
      have HV := HVn
      clear HVn
      have HDn : Hid (Ms w27 vd (mulPL p (mulPL q r))) := HD.out.kp K
      clear HD
      have HD := HDn
      clear HDn
      have HEen : Hid (Ms w27 ve (mulPL (addPL p q) r)) := HEe.out.kp K
      clear HEe
      have HEe := HEen
      clear HEen
      have HYn : Hid (Ms w27 vy (mulPL p r)) := HY.out.kp K
      clear HY
      have HY := HYn
      clear HYn
      clear K
      have HO : Hid (Ms w27 vq (addPL (mulPL p r) (mulPL q r))) := oq.ms
      clear oq
      go_wp2_with fail
      refine (same_at true _ _ (mulPL (addPL p q) r) (addPL (mulPL p r) (mulPL q r)) _ (decide_eq_true HRb.out.2.2.2) HEe.out HO.out).mono ?_
      rintro e w28 ⟨rfl, n, hw⟩
      have K := kp_drawn hw
      have B := below_drawn hw
      clear hw
      have HBn : Hid (Below w.heap.size w w28) := below_step HB.out B
      clear HB B
      have HB := HBn
      clear HBn
      have HPn : Hid (Ms w28 v p) := HP.out.kp K
      clear HP
      have HP := HPn
      clear HPn
      have HQn : Hid (Ms w28 u q) := HQ.out.kp K
      clear HQ
      have HQ := HQn
      clear HQn
      have HRn : Hid (Ms w28 x r) := HR.out.kp K
      clear HR
      have HR := HRn
      clear HRn
      have HSn : Hid (Ms w28 vs (addPL p q)) := HS.out.kp K
      clear HS
      have HS := HSn
      clear HSn
      have HMn : Hid (Ms w28 vm (mulPL p q)) := HM.out.kp K
      clear HM
      have HM := HMn
      clear HMn
      have HCn : Hid (Ms w28 vc (mulPL (mulPL p q) r)) := HC.out.kp K
      clear HC
      have HC := HCn
      clear HCn
      have HVn : Hid (Ms w28 vv (mulPL q r)) := HV.out.kp K
      clear HV
      have HV := HVn
      clear HVn
      have HDn : Hid (Ms w28 vd (mulPL p (mulPL q r))) := HD.out.kp K
      clear HD
      have HD := HDn
      clear HDn
      have HEen : Hid (Ms w28 ve (mulPL (addPL p q) r)) := HEe.out.kp K
      clear HEe
      have HEe := HEen
      clear HEen
      have HYn : Hid (Ms w28 vy (mulPL p r)) := HY.out.kp K
      clear HY
      have HY := HYn
      clear HYn
      have HOn : Hid (Ms w28 vq (addPL (mulPL p r) (mulPL q r))) := HO.out.kp K
      clear HO
      have HO := HOn
      clear HOn
      clear K
      go_wp2
      go_ret
      exact ⟨rfl, HB.out⟩
    · skip
      have bE8 : (E8 != 0) = true := by rw [bne_iff_ne]; exact h8
      have cE8 : (E8 == 0) = false := by rw [beq_eq_false_iff_ne]; exact h8
      clear h8
      go_wp2_with fail
      refine (pmul_any _ _ (addPL p q) r _ HS.out HR.out).mono ?_
      rintro e w24 ⟨ve, rfl, ove, hb⟩
      have K := Kp.of_below hb
      have B := hb
      clear hb
      have HBn : Hid (Below w.heap.size w w24) := below_step HB.out B
      clear HB B
      have HB := HBn
      clear HBn
      have HPn : Hid (Ms w24 v p) := HP.out.kp K
      clear HP
      have HP := HPn
      clear HPn
      have HQn : Hid (Ms w24 u q) := HQ.out.kp K
      clear HQ
      have HQ := HQn
      clear HQn
      have HRn : Hid (Ms w24 x r) := HR.out.kp K
      clear HR
      have HR := HRn
      clear HRn
      have HSn : Hid (Ms w24 vs (addPL p q)) := HS.out.kp K
      clear HS
      have HS := HSn
      clear HSn
      have HMn : Hid (Ms w24 vm (mulPL p q)) := HM.out.kp K
      clear HM
      have HM := HMn
      clear HMn
      have HCn : Hid (Ms w24 vc (mulPL (mulPL p q) r)) := HC.out.kp K
      clear HC
      have HC := HCn
      clear HCn
      have HVn : Hid (Ms w24 vv (mulPL q r)) := HV.out.kp K
      clear HV
      have HV := HVn
      clear HVn
      have HDn : Hid (Ms w24 vd (mulPL p (mulPL q r))) := HD.out.kp K
      clear HD
      have HD := HDn
      clear HDn
      clear K
      have HEe : Hid (Ms w24 ve (mulPL (addPL p q) r)) := ove.ms
      clear ove
      obtain ⟨E11, hE11⟩ : ∃ E, E = mulPE (addPL p q) r := ⟨_, rfl⟩
      have HE11 : Hid (E11 = mulPE (addPL p q) r) := hE11
      rw [← hE11]
      clear hE11
      go_wp2_with fail
      refine (pmul_any _ _ p r _ HP.out HR.out).mono ?_
      rintro e w25 ⟨vy, rfl, ovy, hb⟩
      have K := Kp.of_below hb
      have B := hb
      clear hb
      have HBn : Hid (Below w.heap.size w w25) := below_step HB.out B
      clear HB B
      have HB := HBn
      clear HBn
      have HPn : Hid (Ms w25 v p) := HP.out.kp K
      clear HP
      have HP := HPn
      clear HPn
      have HQn : Hid (Ms w25 u q) := HQ.out.kp K
      clear HQ
      have HQ := HQn
      clear HQn
      have HRn : Hid (Ms w25 x r) := HR.out.kp K
      clear HR
      have HR := HRn
      clear HRn
      have HSn : Hid (Ms w25 vs (addPL p q)) := HS.out.kp K
      clear HS
      have HS := HSn
      clear HSn
      have HMn : Hid (Ms w25 vm (mulPL p q)) := HM.out.kp K
      clear HM
      have HM := HMn
      clear HMn
      have HCn : Hid (Ms w25 vc (mulPL (mulPL p q) r)) := HC.out.kp K
      clear HC
      have HC := HCn
      clear HCn
      have HVn : Hid (Ms w25 vv (mulPL q r)) := HV.out.kp K
      clear HV
      have HV := HVn
      clear HVn
      have HDn : Hid (Ms w25 vd (mulPL p (mulPL q r))) := HD.out.kp K
      clear HD
      have HD := HDn
      clear HDn
      have HEen : Hid (Ms w25 ve (mulPL (addPL p q) r)) := HEe.out.kp K
      clear HEe
      have HEe := HEen
      clear HEen
      clear K
      have HY : Hid (Ms w25 vy (mulPL p r)) := ovy.ms
      clear ovy
      obtain ⟨E12, hE12⟩ : ∃ E, E = mulPE p r := ⟨_, rfl⟩
      have HE12 : Hid (E12 = mulPE p r) := hE12
      rw [← hE12]
      clear hE12
      by_cases hE11 : E11 = 0
      rotate_left
      · skip
        have bE11 : (E11 != 0) = true := by rw [bne_iff_ne]; exact hE11
        have cE11 : (E11 == 0) = false := by rw [beq_eq_false_iff_ne]; exact hE11
        clear hE11
        go_wp2_with fail
        refine (padd_any _ _ (mulPL p r) (mulPL q r) _ HY.out HV.out).mono ?_
        rintro e w26 ⟨vq, rfl, ovq, hb⟩
        have K := Kp.of_below hb
        have B := hb
        clear hb
        have HBn : Hid (Below w.heap.size w w26) := below_step HB.out B
        clear HB B
        have HB := HBn
        clear HBn
        have HPn : Hid (Ms w26 v p) := HP.out.kp K
        clear HP
        have HP := HPn
        clear HPn
        have HQn : Hid (Ms w26 u q) := HQ.out.kp K
        clear HQ
        have HQ := HQn
        clear HQn
        have HRn : Hid (Ms w26 x r) := HR.out.kp K
        clear HR
        have HR := HRn
        clear HRn
        have HSn : Hid (Ms w26 vs (addPL p q)) := HS.out.kp K
        clear HS
        have HS := HSn
        clear HSn
        have HMn : Hid (Ms w26 vm (mulPL p q)) := HM.out.kp K
        clear HM
        have HM := HMn
        clear HMn
        have HCn : Hid (Ms w26 vc (mulPL (mulPL p q) r)) := HC.out.kp K
        clear HC
        have HC := HCn
        clear HCn
        have HVn : Hid (Ms w26 vv (mulPL q r)) := HV.out.kp K
        clear HV
        have HV := HVn
        clear HVn
        have HDn : Hid (Ms w26 vd (mulPL p (mulPL q r))) := HD.out.kp K
        clear HD
        have HD := HDn
        clear HDn
        have HEen : Hid (Ms w26 ve (mulPL (addPL p q) r)) := HEe.out.kp K
        clear HEe
        have HEe := HEen
        clear HEen
        have HYn : Hid (Ms w26 vy (mulPL p r)) := HY.out.kp K
        clear HY
        have HY := HYn
        clear HYn
        clear K
        have HO : Hid (Ms w26 vq (addPL (mulPL p r) (mulPL q r))) := ovq.ms
        clear ovq
        obtain ⟨E13, hE13⟩ : ∃ E, E = addPE (mulPL p r) (mulPL q r) := ⟨_, rfl⟩
        have HE13 : Hid (E13 = addPE (mulPL p r) (mulPL q r)) := hE13
        rw [← hE13]
        clear hE13
        go_wp2
        go_ret
        exact ⟨rfl, HB.out⟩
      subst hE11
      have HRb : Hid _ := ring_both HCp.out HCq.out HCr.out HE1.out.symm HE11.out.symm
      obtain rfl : E12 = 0 := HE12.out.trans HRb.out.1
      go_wp2_with fail
      refine (padd_any _ _ (mulPL p r) (mulPL q r) _ HY.out HV.out).mono ?_
      rintro e w26 ⟨vq, rfl, oq, hb⟩
      rw [HRb.out.2.2.1]
      have K := Kp.of_below hb
      have B := hb
      clear hb
      have HBn : Hid (Below w.heap.size w w26) := below_step HB.out B
      clear HB B
      have HB := HBn
      clear HBn
      have HPn : Hid (Ms w26 v p) := HP.out.kp K
      clear HP
      have HP := HPn
      clear HPn
      have HQn : Hid (Ms w26 u q) := HQ.out.kp K
      clear HQ
      have HQ := HQn
      clear HQn
      have HRn : Hid (Ms w26 x r) := HR.out.kp K
      clear HR
      have HR := HRn
      clear HRn
      have HSn : Hid (Ms w26 vs (addPL p q)) := HS.out.kp K
      clear HS
      have HS := HSn
      clear HSn
      have HMn : Hid (Ms w26 vm (mulPL p q)) := HM.out.kp K
      clear HM
      have HM := HMn
      clear HMn
      have HCn : Hid (Ms w26 vc (mulPL (mulPL p q) r)) := HC.out.kp K
      clear HC
      have HC := HCn
      clear HCn
      have HVn : Hid (Ms w26 vv (mulPL q r)) := HV.out.kp K
      clear HV
      have HV := HVn
      clear HVn
      have HDn : Hid (Ms w26 vd (mulPL p (mulPL q r))) := HD.out.kp K
      clear HD
      have HD := HDn
      clear HDn
      have HEen : Hid (Ms w26 ve (mulPL (addPL p q) r)) := HEe.out.kp K
      clear HEe
      have HEe := HEen
      clear HEen
      have HYn : Hid (Ms w26 vy (mulPL p r)) := HY.out.kp K
      clear HY
      have HY := HYn
      clear HYn
      clear K
      have HO : Hid (Ms w26 vq (addPL (mulPL p r) (mulPL q r))) := oq.ms
      clear oq
      go_wp2_with fail
      refine (same_at true _ _ (mulPL (addPL p q) r) (addPL (mulPL p r) (mulPL q r)) _ (decide_eq_true HRb.out.2.2.2) HEe.out HO.out).mono ?_
      rintro e w27 ⟨rfl, n, hw⟩
      have K := kp_drawn hw
      have B := below_drawn hw
      clear hw
      have HBn : Hid (Below w.heap.size w w27) := below_step HB.out B
      clear HB B
      have HB := HBn
      clear HBn
      have HPn : Hid (Ms w27 v p) := HP.out.kp K
      clear HP
      have HP := HPn
      clear HPn
      have HQn : Hid (Ms w27 u q) := HQ.out.kp K
      clear HQ
      have HQ := HQn
      clear HQn
      have HRn : Hid (Ms w27 x r) := HR.out.kp K
      clear HR
      have HR := HRn
      clear HRn
      have HSn : Hid (Ms w27 vs (addPL p q)) := HS.out.kp K
      clear HS
      have HS := HSn
      clear HSn
      have HMn : Hid (Ms w27 vm (mulPL p q)) := HM.out.kp K
      clear HM
      have HM := HMn
      clear HMn
      have HCn : Hid (Ms w27 vc (mulPL (mulPL p q) r)) := HC.out.kp K
      clear HC
      have HC := HCn
      clear HCn
      have HVn : Hid (Ms w27 vv (mulPL q r)) := HV.out.kp K
      clear HV
      have HV := HVn
      clear HVn
      have HDn : Hid (Ms w27 vd (mulPL p (mulPL q r))) := HD.out.kp K
      clear HD
      have HD := HDn
      clear HDn
      have HEen : Hid (Ms w27 ve (mulPL (addPL p q) r)) := HEe.out.kp K
      clear HEe
      have HEe := HEen
      clear HEen
      have HYn : Hid (Ms w27 vy (mulPL p r)) := HY.out.kp K
      clear HY
      have HY := HYn
      clear HYn
      have HOn : Hid (Ms w27 vq (addPL (mulPL p r) (mulPL q r))) := HO.out.kp K
      clear HO
      have HO := HOn
      clear HOn
      clear K
      go_wp2
      go_ret
      exact ⟨rfl, HB.out⟩
  · skip
    have bE5 : (E5 != 0) = true := by rw [bne_iff_ne]; exact h5
    have cE5 : (E5 == 0) = false := by rw [beq_eq_false_iff_ne]; exact h5
    clear h5
    clear HA
    clear HW
    clear HBb
    go_wp2_with fail
    refine (pmul_any _ _ (mulPL p q) r _ HM.out HR.out).mono ?_
    rintro e w20 ⟨vc, rfl, ovc, hb⟩
    have K := Kp.of_below hb
    have B := hb
    clear hb
    have HBn : Hid (Below w.heap.size w w20) := below_step HB.out B
    clear HB B
    have HB := HBn
    clear HBn
    have HPn : Hid (Ms w20 v p) := HP.out.kp K
    clear HP
    have HP := HPn
    clear HPn
    have HQn : Hid (Ms w20 u q) := HQ.out.kp K
    clear HQ
    have HQ := HQn
    clear HQn
    have HRn : Hid (Ms w20 x r) := HR.out.kp K
    clear HR
    have HR := HRn
    clear HRn
    have HSn : Hid (Ms w20 vs (addPL p q)) := HS.out.kp K
    clear HS
    have HS := HSn
    clear HSn
    have HMn : Hid (Ms w20 vm (mulPL p q)) := HM.out.kp K
    clear HM
    have HM := HMn
    clear HMn
    clear K
    have HC : Hid (Ms w20 vc (mulPL (mulPL p q) r)) := ovc.ms
    clear ovc
    obtain ⟨E8, hE8⟩ : ∃ E, E = mulPE (mulPL p q) r := ⟨_, rfl⟩
    have HE8 : Hid (E8 = mulPE (mulPL p q) r) := hE8
    rw [← hE8]
    clear hE8
    go_wp2_with fail
    refine (pmul_any _ _ q r _ HQ.out HR.out).mono ?_
    rintro e w21 ⟨vv, rfl, ovv, hb⟩
    have K := Kp.of_below hb
    have B := hb
    clear hb
    have HBn : Hid (Below w.heap.size w w21) := below_step HB.out B
    clear HB B
    have HB := HBn
    clear HBn
    have HPn : Hid (Ms w21 v p) := HP.out.kp K
    clear HP
    have HP := HPn
    clear HPn
    have HQn : Hid (Ms w21 u q) := HQ.out.kp K
    clear HQ
    have HQ := HQn
    clear HQn
    have HRn : Hid (Ms w21 x r) := HR.out.kp K
    clear HR
    have HR := HRn
    clear HRn
    have HSn : Hid (Ms w21 vs (addPL p q)) := HS.out.kp K
    clear HS
    have HS := HSn
    clear HSn
    have HMn : Hid (Ms w21 vm (mulPL p q)) := HM.out.kp K
    clear HM
    have HM := HMn
    clear HMn
    have HCn : Hid (Ms w21 vc (mulPL (mulPL p q) r)) := HC.out.kp K
    clear HC
    have HC := HCn
    clear HCn
    clear K
    have HV : Hid (Ms w21 vv (mulPL q r)) := ovv.ms
    clear ovv
    obtain ⟨E9, hE9⟩ : ∃ E, E = mulPE q r := ⟨_, rfl⟩
    have HE9 : Hid (E9 = mulPE q r) := hE9
    rw [← hE9]
    clear hE9
    go_wp2_with fail
    refine (pmul_any _ _ p (mulPL q r) _ HP.out HV.out).mono ?_
    rintro e w22 ⟨vd, rfl, ovd, hb⟩
    have K := Kp.of_below hb
    have B := hb
    clear hb
    have HBn : Hid (Below w.heap.size w w22) := below_step HB.out B
    clear HB B
    have HB := HBn
    clear HBn
    have HPn : Hid (Ms w22 v p) := HP.out.kp K
    clear HP
    have HP := HPn
    clear HPn
    have HQn : Hid (Ms w22 u q) := HQ.out.kp K
    clear HQ
    have HQ := HQn
    clear HQn
    have HRn : Hid (Ms w22 x r) := HR.out.kp K
    clear HR
    have HR := HRn
    clear HRn
    have HSn : Hid (Ms w22 vs (addPL p q)) := HS.out.kp K
    clear HS
    have HS := HSn
    clear HSn
    have HMn : Hid (Ms w22 vm (mulPL p q)) := HM.out.kp K
    clear HM
    have HM := HMn
    clear HMn
    have HCn : Hid (Ms w22 vc (mulPL (mulPL p q) r)) := HC.out.kp K
    clear HC
    have HC := HCn
    clear HCn
    have HVn : Hid (Ms w22 vv (mulPL q r)) := HV.out.kp K
    clear HV
    have HV := HVn
    clear HVn
    clear K
    have HD : Hid (Ms w22 vd (mulPL p (mulPL q r))) := ovd.ms
    clear ovd
    obtain ⟨E10, hE10⟩ : ∃ E, E = mulPE p (mulPL q r) := ⟨_, rfl⟩
    have HE10 : Hid (E10 = mulPE p (mulPL q r)) := hE10
    rw [← hE10]
    clear hE10
    by_cases h9 : E9 = 0
    rotate_left
    · have H9 : Hid (¬ E9 = 0) := h9
      have bE9 : (E9 != 0) = true := by rw [bne_iff_ne]; exact h9
      have cE9 : (E9 == 0) = false := by rw [beq_eq_false_iff_ne]; exact h9
      clear h9
      by_cases h8 : E8 = 0
      · subst h8
        go_wp2_with fail
        refine (pmul_any _ _ (addPL p q) r _ HS.out HR.out).mono ?_
        rintro e w23 ⟨ve, rfl, ove, hb⟩
        have K := Kp.of_below hb
        have B := hb
        clear hb
        have HBn : Hid (Below w.heap.size w w23) := below_step HB.out B
        clear HB B
        have HB := HBn
        clear HBn
        have HPn : Hid (Ms w23 v p) := HP.out.kp K
        clear HP
        have HP := HPn
        clear HPn
        have HQn : Hid (Ms w23 u q) := HQ.out.kp K
        clear HQ
        have HQ := HQn
        clear HQn
        have HRn : Hid (Ms w23 x r) := HR.out.kp K
        clear HR
        have HR := HRn
        clear HRn
        have HSn : Hid (Ms w23 vs (addPL p q)) := HS.out.kp K
        clear HS
        have HS := HSn
        clear HSn
        have HMn : Hid (Ms w23 vm (mulPL p q)) := HM.out.kp K
        clear HM
        have HM := HMn
        clear HMn
        have HCn : Hid (Ms w23 vc (mulPL (mulPL p q) r)) := HC.out.kp K
        clear HC
        have HC := HCn
        clear HCn
        have HVn : Hid (Ms w23 vv (mulPL q r)) := HV.out.kp K
        clear HV
        have HV := HVn
        clear HVn
        have HDn : Hid (Ms w23 vd (mulPL p (mulPL q r))) := HD.out.kp K
        clear HD
        have HD := HDn
        clear HDn
        clear K
        have HEe : Hid (Ms w23 ve (mulPL (addPL p q) r)) := ove.ms
        clear ove
        obtain ⟨E11, hE11⟩ : ∃ E, E = mulPE (addPL p q) r := ⟨_, rfl⟩
        have HE11 : Hid (E11 = mulPE (addPL p q) r) := hE11
        rw [← hE11]
        clear hE11
        go_wp2_with fail
        refine (pmul_any _ _ p r _ HP.out HR.out).mono ?_
        rintro e w24 ⟨vy, rfl, ovy, hb⟩
        have K := Kp.of_below hb
        have B := hb
        clear hb
        have HBn : Hid (Below w.heap.size w w24) := below_step HB.out B
        clear HB B
        have HB := HBn
        clear HBn
        have HPn : Hid (Ms w24 v p) := HP.out.kp K
        clear HP
        have HP := HPn
        clear HPn
        have HQn : Hid (Ms w24 u q) := HQ.out.kp K
        clear HQ
        have HQ := HQn
        clear HQn
        have HRn : Hid (Ms w24 x r) := HR.out.kp K
        clear HR
        have HR := HRn
        clear HRn
        have HSn : Hid (Ms w24 vs (addPL p q)) := HS.out.kp K
        clear HS
        have HS := HSn
        clear HSn
        have HMn : Hid (Ms w24 vm (mulPL p q)) := HM.out.kp K
        clear HM
        have HM := HMn
        clear HMn
        have HCn : Hid (Ms w24 vc (mulPL (mulPL p q) r)) := HC.out.kp K
        clear HC
        have HC := HCn
        clear HCn
        have HVn : Hid (Ms w24 vv (mulPL q r)) := HV.out.kp K
        clear HV
        have HV := HVn
        clear HVn
        have HDn : Hid (Ms w24 vd (mulPL p (mulPL q r))) := HD.out.kp K
        clear HD
        have HD := HDn
        clear HDn
        have HEen : Hid (Ms w24 ve (mulPL (addPL p q) r)) := HEe.out.kp K
        clear HEe
        have HEe := HEen
        clear HEen
        clear K
        have HY : Hid (Ms w24 vy (mulPL p r)) := ovy.ms
        clear ovy
        obtain ⟨E12, hE12⟩ : ∃ E, E = mulPE p r := ⟨_, rfl⟩
        have HE12 : Hid (E12 = mulPE p r) := hE12
        rw [← hE12]
        clear hE12
        by_cases hE11 : E11 = 0
        rotate_left
        · skip
          have bE11 : (E11 != 0) = true := by rw [bne_iff_ne]; exact hE11
          have cE11 : (E11 == 0) = false := by rw [beq_eq_false_iff_ne]; exact hE11
          clear hE11
          go_wp2_with fail
          refine (padd_any _ _ (mulPL p r) (mulPL q r) _ HY.out HV.out).mono ?_
          rintro e w25 ⟨vq, rfl, ovq, hb⟩
          have K := Kp.of_below hb
          have B := hb
          clear hb
          have HBn : Hid (Below w.heap.size w w25) := below_step HB.out B
          clear HB B
          have HB := HBn
          clear HBn
          have HPn : Hid (Ms w25 v p) := HP.out.kp K
          clear HP
          have HP := HPn
          clear HPn
          have HQn : Hid (Ms w25 u q) := HQ.out.kp K
          clear HQ
          have HQ := HQn
          clear HQn
          have HRn : Hid (Ms w25 x r) := HR.out.kp K
          clear HR
          have HR := HRn
          clear HRn
          have HSn : Hid (Ms w25 vs (addPL p q)) := HS.out.kp K
          clear HS
          have HS := HSn
          clear HSn
          have HMn : Hid (Ms w25 vm (mulPL p q)) := HM.out.kp K
          clear HM
          have HM := HMn
          clear HMn
          have HCn : Hid (Ms w25 vc (mulPL (mulPL p q) r)) := HC.out.kp K
          clear HC
          have HC := HCn
          clear HCn
          have HVn : Hid (Ms w25 vv (mulPL q r)) := HV.out.kp K
          clear HV
          have HV := HVn
          clear HVn
          have HDn : Hid (Ms w25 vd (mulPL p (mulPL q r))) := HD.out.kp K
          clear HD
          have HD := HDn
          clear HDn
          have HEen : Hid (Ms w25 ve (mulPL (addPL p q) r)) := HEe.out.kp K
          clear HEe
          have HEe := HEen
          clear HEen
          have HYn : Hid (Ms w25 vy (mulPL p r)) := HY.out.kp K
          clear HY
          have HY := HYn
          clear HYn
          clear K
          have HO : Hid (Ms w25 vq (addPL (mulPL p r) (mulPL q r))) := ovq.ms
          clear ovq
          obtain ⟨E13, hE13⟩ : ∃ E, E = addPE (mulPL p r) (mulPL q r) := ⟨_, rfl⟩
          have HE13 : Hid (E13 = addPE (mulPL p r) (mulPL q r)) := hE13
          rw [← hE13]
          clear hE13
          go_wp2
          go_ret
          exact ⟨rfl, HB.out⟩
        subst hE11
        have HRb : Hid _ := ring_both HCp.out HCq.out HCr.out HE1.out.symm HE11.out.symm
        exact absurd (HE9.out.trans HRb.out.2.1) H9.out
      · skip
        have bE8 : (E8 != 0) = true := by rw [bne_iff_ne]; exact h8
        have cE8 : (E8 == 0) = false := by rw [beq_eq_false_iff_ne]; exact h8
        clear h8
        go_wp2_with fail
        refine (pmul_any _ _ (addPL p q) r _ HS.out HR.out).mono ?_
        rintro e w23 ⟨ve, rfl, ove, hb⟩
        have K := Kp.of_below hb
        have B := hb
        clear hb
        have HBn : Hid (Below w.heap.size w w23) := below_step HB.out B
        clear HB B
        have HB := HBn
        clear HBn
        have HPn : Hid (Ms w23 v p) := HP.out.kp K
        clear HP
        have HP := HPn
        clear HPn
        have HQn : Hid (Ms w23 u q) := HQ.out.kp K
        clear HQ
        have HQ := HQn
        clear HQn
        have HRn : Hid (Ms w23 x r) := HR.out.kp K
        clear HR
        have HR := HRn
        clear HRn
        have HSn : Hid (Ms w23 vs (addPL p q)) := HS.out.kp K
        clear HS
        have HS := HSn
        clear HSn
        have HMn : Hid (Ms w23 vm (mulPL p q)) := HM.out.kp K
        clear HM
        have HM := HMn
        clear HMn
        have HCn : Hid (Ms w23 vc (mulPL (mulPL p q) r)) := HC.out.kp K
        clear HC
        have HC := HCn
        clear HCn
        have HVn : Hid (Ms w23 vv (mulPL q r)) := HV.out.kp K
        clear HV
        have HV := HVn
        clear HVn
        have HDn : Hid (Ms w23 vd (mulPL p (mulPL q r))) := HD.out.kp K
        clear HD
        have HD := HDn
        clear HDn
        clear K
        have HEe : Hid (Ms w23 ve (mulPL (addPL p q) r)) := ove.ms
        clear ove
        obtain ⟨E11, hE11⟩ : ∃ E, E = mulPE (addPL p q) r := ⟨_, rfl⟩
        have HE11 : Hid (E11 = mulPE (addPL p q) r) := hE11
        rw [← hE11]
        clear hE11
        go_wp2_with fail
        refine (pmul_any _ _ p r _ HP.out HR.out).mono ?_
        rintro e w24 ⟨vy, rfl, ovy, hb⟩
        have K := Kp.of_below hb
        have B := hb
        clear hb
        have HBn : Hid (Below w.heap.size w w24) := below_step HB.out B
        clear HB B
        have HB := HBn
        clear HBn
        have HPn : Hid (Ms w24 v p) := HP.out.kp K
        clear HP
        have HP := HPn
        clear HPn
        have HQn : Hid (Ms w24 u q) := HQ.out.kp K
        clear HQ
        have HQ := HQn
        clear HQn
        have HRn : Hid (Ms w24 x r) := HR.out.kp K
        clear HR
        have HR := HRn
        clear HRn
        have HSn : Hid (Ms w24 vs (addPL p q)) := HS.out.kp K
        clear HS
        have HS := HSn
        clear HSn
        have HMn : Hid (Ms w24 vm (mulPL p q)) := HM.out.kp K
        clear HM
        have HM := HMn
        clear HMn
        have HCn : Hid (Ms w24 vc (mulPL (mulPL p q) r)) := HC.out.kp K
        clear HC
        have HC := HCn
        clear HCn
        have HVn : Hid (Ms w24 vv (mulPL q r)) := HV.out.kp K
        clear HV
        have HV := HVn
        clear HVn
        have HDn : Hid (Ms w24 vd (mulPL p (mulPL q r))) := HD.out.kp K
        clear HD
        have HD := HDn
        clear HDn
        have HEen : Hid (Ms w24 ve (mulPL (addPL p q) r)) := HEe.out.kp K
        clear HEe
        have HEe := HEen
        clear HEen
        clear K
        have HY : Hid (Ms w24 vy (mulPL p r)) := ovy.ms
        clear ovy
        obtain ⟨E12, hE12⟩ : ∃ E, E = mulPE p r := ⟨_, rfl⟩
        have HE12 : Hid (E12 = mulPE p r) := hE12
        rw [← hE12]
        clear hE12
        by_cases hE11 : E11 = 0
        rotate_left
        · skip
          have bE11 : (E11 != 0) = true := by rw [bne_iff_ne]; exact hE11
          have cE11 : (E11 == 0) = false := by rw [beq_eq_false_iff_ne]; exact hE11
          clear hE11
          go_wp2_with fail
          refine (padd_any _ _ (mulPL p r) (mulPL q r) _ HY.out HV.out).mono ?_
          rintro e w25 ⟨vq, rfl, ovq, hb⟩
          have K := Kp.of_below hb
          have B := hb
          clear hb
          have HBn : Hid (Below w.heap.size w w25) := below_step HB.out B
          clear HB B
          have HB := HBn
          clear HBn
          have HPn : Hid (Ms w25 v p) := HP.out.kp K
          clear HP
          have HP := HPn
          clear HPn
          have HQn : Hid (Ms w25 u q) := HQ.out.kp K
          clear HQ
          have HQ := HQn
          clear HQn
          have HRn : Hid (Ms w25 x r) := HR.out.kp K
          clear HR
          have HR := HRn
          clear HRn
          have HSn : Hid (Ms w25 vs (addPL p q)) := HS.out.kp K
          clear HS
          have HS := HSn
          clear HSn
          have HMn : Hid (Ms w25 vm (mulPL p q)) := HM.out.kp K
          clear HM
          have HM := HMn
          clear HMn
          have HCn : Hid (Ms w25 vc (mulPL (mulPL p q) r)) := HC.out.kp K
          clear HC
          have HC := HCn
          clear HCn
          have HVn : Hid (Ms w25 vv (mulPL q r)) := HV.out.kp K
          clear HV
          have HV := HVn
          clear HVn
          have HDn : Hid (Ms w25 vd (mulPL p (mulPL q r))) := HD.out.kp K
          clear HD
          have HD := HDn
          clear HDn
          have HEen : Hid (Ms w25 ve (mulPL (addPL p q) r)) := HEe.out.kp K
          clear HEe
          have HEe := HEen
          clear HEen
          have HYn : Hid (Ms w25 vy (mulPL p r)) := HY.out.kp K
          clear HY
          have HY := HYn
          clear HYn
          clear K
          have HO : Hid (Ms w25 vq (addPL (mulPL p r) (mulPL q r))) := ovq.ms
          clear ovq
          obtain ⟨E13, hE13⟩ : ∃ E, E = addPE (mulPL p r) (mulPL q r) := ⟨_, rfl⟩
          have HE13 : Hid (E13 = addPE (mulPL p r) (mulPL q r)) := hE13
          rw [← hE13]
          clear hE13
          go_wp2
          go_ret
          exact ⟨rfl, HB.out⟩
        subst hE11
        have HRb : Hid _ := ring_both HCp.out HCq.out HCr.out HE1.out.symm HE11.out.symm
        exact absurd (HE9.out.trans HRb.out.2.1) H9.out
    subst h9
    by_cases h8 : E8 = 0
    · subst h8
      have HRm : Hid _ := ring_mul HCp.out HCq.out HCr.out HE3.out.symm HE8.out.symm HE9.out.symm
      obtain rfl : E10 = 0 := HE10.out.trans HRm.out.1
      go_wp2_with fail
      refine (same_at true _ _ (mulPL (mulPL p q) r) (mulPL p (mulPL q r)) _ (decide_eq_true HRm.out.2) HC.out HD.out).mono ?_
      rintro e w23 ⟨rfl, n, hw⟩
      have K := kp_drawn hw
      have B := below_drawn hw
      clear hw
      have HBn : Hid (Below w.heap.size w w23) := below_step HB.out B
      clear HB B
      have HB := HBn
      clear HBn
      have HPn : Hid (Ms w23 v p) := HP.out.kp K
      clear HP
      have HP := HPn
      clear HPn
      have HQn : Hid (Ms w23 u q) := HQ.out.kp K
      clear HQ
      have HQ := HQn
      clear HQn
      have HRn : Hid (Ms w23 x r) := HR.out.kp K
      clear HR
      have HR := HRn
      clear HRn
      have HSn : Hid (Ms w23 vs (addPL p q)) := HS.out.kp K
      clear HS
      have HS := HSn
      clear HSn
      have HMn : Hid (Ms w23 vm (mulPL p q)) := HM.out.kp K
      clear HM
      have HM := HMn
      clear HMn
      have HCn : Hid (Ms w23 vc (mulPL (mulPL p q) r)) := HC.out.kp K
      clear HC
      have HC := HCn
      clear HCn
      have HVn : Hid (Ms w23 vv (mulPL q r)) := HV.out.kp K
      clear HV
      have HV := HVn
      clear HVn
      have HDn : Hid (Ms w23 vd (mulPL p (mulPL q r))) := HD.out.kp K
      clear HD
      have HD := HDn
      clear HDn
      clear K
      go_wp2_with fail
      refine (pmul_any _ _ (addPL p q) r _ HS.out HR.out).mono ?_
      rintro e w24 ⟨ve, rfl, ove, hb⟩
      have K := Kp.of_below hb
      have B := hb
      clear hb
      have HBn : Hid (Below w.heap.size w w24) := below_step HB.out B
      clear HB B
      have HB := HBn
      clear HBn
      have HPn : Hid (Ms w24 v p) := HP.out.kp K
      clear HP
      have HP := HPn
      clear HPn
      have HQn : Hid (Ms w24 u q) := HQ.out.kp K
      clear HQ
      have HQ := HQn
      clear HQn
      have HRn : Hid (Ms w24 x r) := HR.out.kp K
      clear HR
      have HR := HRn
      clear HRn
      have HSn : Hid (Ms w24 vs (addPL p q)) := HS.out.kp K
      clear HS
      have HS := HSn
      clear HSn
      have HMn : Hid (Ms w24 vm (mulPL p q)) := HM.out.kp K
      clear HM
      have HM := HMn
      clear HMn
      have HCn : Hid (Ms w24 vc (mulPL (mulPL p q) r)) := HC.out.kp K
      clear HC
      have HC := HCn
      clear HCn
      have HVn : Hid (Ms w24 vv (mulPL q r)) := HV.out.kp K
      clear HV
      have HV := HVn
      clear HVn
      have HDn : Hid (Ms w24 vd (mulPL p (mulPL q r))) := HD.out.kp K
      clear HD
      have HD := HDn
      clear HDn
      clear K
      have HEe : Hid (Ms w24 ve (mulPL (addPL p q) r)) := ove.ms
      clear ove
      obtain ⟨E11, hE11⟩ : ∃ E, E = mulPE (addPL p q) r := ⟨_, rfl⟩
      have HE11 : Hid (E11 = mulPE (addPL p q) r) := hE11
      rw [← hE11]
      clear hE11
      go_wp2_with fail
      refine (pmul_any _ _ p r _ HP.out HR.out).mono ?_
      rintro e w25 ⟨vy, rfl, ovy, hb⟩
      have K := Kp.of_below hb
      have B := hb
      clear hb
      have HBn : Hid (Below w.heap.size w w25) := below_step HB.out B
      clear HB B
      have HB := HBn
      clear HBn
      have HPn : Hid (Ms w25 v p) := HP.out.kp K
      clear HP
      have HP := HPn
      clear HPn
      have HQn : Hid (Ms w25 u q) := HQ.out.kp K
      clear HQ
      have HQ := HQn
      clear HQn
      have HRn : Hid (Ms w25 x r) := HR.out.kp K
      clear HR
      have HR := HRn
      clear HRn
      have HSn : Hid (Ms w25 vs (addPL p q)) := HS.out.kp K
      clear HS
      have HS := HSn
      clear HSn
      have HMn : Hid (Ms w25 vm (mulPL p q)) := HM.out.kp K
      clear HM
      have HM := HMn
      clear HMn
      have HCn : Hid (Ms w25 vc (mulPL (mulPL p q) r)) := HC.out.kp K
      clear HC
      have HC := HCn
      clear HCn
      have HVn : Hid (Ms w25 vv (mulPL q r)) := HV.out.kp K
      clear HV
      have HV := HVn
      clear HVn
      have HDn : Hid (Ms w25 vd (mulPL p (mulPL q r))) := HD.out.kp K
      clear HD
      have HD := HDn
      clear HDn
      have HEen : Hid (Ms w25 ve (mulPL (addPL p q) r)) := HEe.out.kp K
      clear HEe
      have HEe := HEen
      clear HEen
      clear K
      have HY : Hid (Ms w25 vy (mulPL p r)) := ovy.ms
      clear ovy
      obtain ⟨E12, hE12⟩ : ∃ E, E = mulPE p r := ⟨_, rfl⟩
      have HE12 : Hid (E12 = mulPE p r) := hE12
      rw [← hE12]
      clear hE12
      by_cases hE11 : E11 = 0
      rotate_left
      · skip
        have bE11 : (E11 != 0) = true := by rw [bne_iff_ne]; exact hE11
        have cE11 : (E11 == 0) = false := by rw [beq_eq_false_iff_ne]; exact hE11
        clear hE11
        go_wp2_with fail
        refine (padd_any _ _ (mulPL p r) (mulPL q r) _ HY.out HV.out).mono ?_
        rintro e w26 ⟨vq, rfl, ovq, hb⟩
        have K := Kp.of_below hb
        have B := hb
        clear hb
        have HBn : Hid (Below w.heap.size w w26) := below_step HB.out B
        clear HB B
        have HB := HBn
        clear HBn
        have HPn : Hid (Ms w26 v p) := HP.out.kp K
        clear HP
        have HP := HPn
        clear HPn
        have HQn : Hid (Ms w26 u q) := HQ.out.kp K
        clear HQ
        have HQ := HQn
        clear HQn
        have HRn : Hid (Ms w26 x r) := HR.out.kp K
        clear HR
        have HR := HRn
        clear HRn
        have HSn : Hid (Ms w26 vs (addPL p q)) := HS.out.kp K
        clear HS
        have HS := HSn
        clear HSn
        have HMn : Hid (Ms w26 vm (mulPL p q)) := HM.out.kp K
        clear HM
        have HM := HMn
        clear HMn
        have HCn : Hid (Ms w26 vc (mulPL (mulPL p q) r)) := HC.out.kp K
        clear HC
        have HC := HCn
        clear HCn
        have HVn : Hid (Ms w26 vv (mulPL q r)) := HV.out.kp K
        clear HV
        have HV := HVn
        clear HVn
        have HDn : Hid (Ms w26 vd (mulPL p (mulPL q r))) := HD.out.kp K
        clear HD
        have HD := HDn
        clear HDn
        have HEen : Hid (Ms w26 ve (mulPL (addPL p q) r)) := HEe.out.kp K
        clear HEe
        have HEe := HEen
        clear HEen
        have HYn : Hid (Ms w26 vy (mulPL p r)) := HY.out.kp K
        clear HY
        have HY := HYn
        clear HYn
        clear K
        have HO : Hid (Ms w26 vq (addPL (mulPL p r) (mulPL q r))) := ovq.ms
        clear ovq
        obtain ⟨E13, hE13⟩ : ∃ E, E = addPE (mulPL p r) (mulPL q r) := ⟨_, rfl⟩
        have HE13 : Hid (E13 = addPE (mulPL p r) (mulPL q r)) := hE13
        rw [← hE13]
        clear hE13
        go_wp2
        go_ret
        exact ⟨rfl, HB.out⟩
      subst hE11
      have HRb : Hid _ := ring_both HCp.out HCq.out HCr.out HE1.out.symm HE11.out.symm
      obtain rfl : E12 = 0 := HE12.out.trans HRb.out.1
      go_wp2_with fail
      refine (padd_any _ _ (mulPL p r) (mulPL q r) _ HY.out HV.out).mono ?_
      rintro e w26 ⟨vq, rfl, oq, hb⟩
      rw [HRb.out.2.2.1]
      have K := Kp.of_below hb
      have B := hb
      clear hb
      have HBn : Hid (Below w.heap.size w w26) := below_step HB.out B
      clear HB B
      have HB := HBn
      clear HBn
      have HPn : Hid (Ms w26 v p) := HP.out.kp K
      clear HP
      have HP := HPn
      clear HPn
      have HQn : Hid (Ms w26 u q) := HQ.out.kp K
      clear HQ
      have HQ := HQn
      clear HQn
      have HRn : Hid (Ms w26 x r) := HR.out.kp K
      clear HR
      have HR := HRn
      clear HRn
      have HSn : Hid (Ms w26 vs (addPL p q)) := HS.out.kp K
      clear HS
      have HS := HSn
      clear HSn
      have HMn : Hid (Ms w26 vm (mulPL p q)) := HM.out.kp K
      clear HM
      have HM := HMn
      clear HMn
      have HCn : Hid (Ms w26 vc (mulPL (mulPL p q) r)) := HC.out.kp K
      clear HC
      have HC := HCn
      clear HCn
      have HVn : Hid (Ms w26 vv (mulPL q r)) := HV.out.kp K
      clear HV
      have HV := HVn
      clear HVn
      have HDn : Hid (Ms w26 vd (mulPL p (mulPL q r))) := HD.out.kp K
      clear HD
      have HD := HDn
      clear HDn
      have HEen : Hid (Ms w26 ve (mulPL (addPL p q) r)) := HEe.out.kp K
      clear HEe
      have HEe := HEen
      clear HEen
      have HYn : Hid (Ms w26 vy (mulPL p r)) := HY.out.kp K
      clear HY
      have HY := HYn
      clear HYn
      clear K
      have HO : Hid (Ms w26 vq (addPL (mulPL p r) (mulPL q r))) := oq.ms
      clear oq
      go_wp2_with fail
      refine (same_at true _ _ (mulPL (addPL p q) r) (addPL (mulPL p r) (mulPL q r)) _ (decide_eq_true HRb.out.2.2.2) HEe.out HO.out).mono ?_
      rintro e w27 ⟨rfl, n, hw⟩
      have K := kp_drawn hw
      have B := below_drawn hw
      clear hw
      have HBn : Hid (Below w.heap.size w w27) := below_step HB.out B
      clear HB B
      have HB := HBn
      clear HBn
      have HPn : Hid (Ms w27 v p) := HP.out.kp K
      clear HP
      have HP := HPn
      clear HPn
      have HQn : Hid (Ms w27 u q) := HQ.out.kp K
      clear HQ
      have HQ := HQn
      clear HQn
      have HRn : Hid (Ms w27 x r) := HR.out.kp K
      clear HR
      have HR := HRn
      clear HRn
      have HSn : Hid (Ms w27 vs (addPL p q)) := HS.out.kp K
      clear HS
      have HS := HSn
      clear HSn
      have HMn : Hid (Ms w27 vm (mulPL p q)) := HM.out.kp K
      clear HM
      have HM := HMn
      clear HMn
      have HCn : Hid (Ms w27 vc (mulPL (mulPL p q) r)) := HC.out.kp K
      clear HC
      have HC := HCn
      clear HCn
      have HVn : Hid (Ms w27 vv (mulPL q r)) := HV.out.kp K
      clear HV
      have HV := HVn
      clear HVn
      have HDn : Hid (Ms w27 vd (mulPL p (mulPL q r))) := HD.out.kp K
      clear HD
      have HD := HDn
      clear HDn
      have HEen : Hid (Ms w27 ve (mulPL (addPL p q) r)) := HEe.out.kp K
      clear HEe
      have HEe := HEen
      clear HEen
      have HYn : Hid (Ms w27 vy (mulPL p r)) := HY.out.kp K
      clear HY
      have HY := HYn
      clear HYn
      have HOn : Hid (Ms w27 vq (addPL (mulPL p r) (mulPL q r))) := HO.out.kp K
      clear HO
      have HO := HOn
      clear HOn
      clear K
      go_wp2
      go_ret
      exact ⟨rfl, HB.out⟩
    · skip
      have bE8 : (E8 != 0) = true := by rw [bne_iff_ne]; exact h8
      have cE8 : (E8 == 0) = false := by rw [beq_eq_false_iff_ne]; exact h8
      clear h8
      go_wp2_with fail
      refine (pmul_any _ _ (addPL p q) r _ HS.out HR.out).mono ?_
      rintro e w23 ⟨ve, rfl, ove, hb⟩
      have K := Kp.of_below hb
      have B := hb
      clear hb
      have HBn : Hid (Below w.heap.size w w23) := below_step HB.out B
      clear HB B
      have HB := HBn
      clear HBn
      have HPn : Hid (Ms w23 v p) := HP.out.kp K
      clear HP
      have HP := HPn
      clear HPn
      have HQn : Hid (Ms w23 u q) := HQ.out.kp K
      clear HQ
      have HQ := HQn
      clear HQn
      have HRn : Hid (Ms w23 x r) := HR.out.kp K
      clear HR
      have HR := HRn
      clear HRn
      have HSn : Hid (Ms w23 vs (addPL p q)) := HS.out.kp K
      clear HS
      have HS := HSn
      clear HSn
      have HMn : Hid (Ms w23 vm (mulPL p q)) := HM.out.kp K
      clear HM
      have HM := HMn
      clear HMn
      have HCn : Hid (Ms w23 vc (mulPL (mulPL p q) r)) := HC.out.kp K
      clear HC
      have HC := HCn
      clear HCn
      have HVn : Hid (Ms w23 vv (mulPL q r)) := HV.out.kp K
      clear HV
      have HV := HVn
      clear HVn
      have HDn : Hid (Ms w23 vd (mulPL p (mulPL q r))) := HD.out.kp K
      clear HD
      have HD := HDn
      clear HDn
      clear K
      have HEe : Hid (Ms w23 ve (mulPL (addPL p q) r)) := ove.ms
      clear ove
      obtain ⟨E11, hE11⟩ : ∃ E, E = mulPE (addPL p q) r := ⟨_, rfl⟩
      have HE11 : Hid (E11 = mulPE (addPL p q) r) := hE11
      rw [← hE11]
      clear hE11
      go_wp2_with fail
      refine (pmul_any _ _ p r _ HP.out HR.out).mono ?_
      rintro e w24 ⟨vy, rfl, ovy, hb⟩
      have K := Kp.of_below hb
      have B := hb
      clear hb
      have HBn : Hid (Below w.heap.size w w24) := below_step HB.out B
      clear HB B
      have HB := HBn
      clear HBn
      have HPn : Hid (Ms w24 v p) := HP.out.kp K
      clear HP
      have HP := HPn
      clear HPn
      have HQn : Hid (Ms w24 u q) := HQ.out.kp K
      clear HQ
      have HQ := HQn
      clear HQn
      have HRn : Hid (Ms w24 x r) := HR.out.kp K
      clear HR
      have HR := HRn
      clear HRn
      have HSn : Hid (Ms w24 vs (addPL p q)) := HS.out.kp K
      clear HS
      have HS := HSn
      clear HSn
      have HMn : Hid (Ms w24 vm (mulPL p q)) := HM.out.kp K
      clear HM
      have HM := HMn
      clear HMn
      have HCn : Hid (Ms w24 vc (mulPL (mulPL p q) r)) := HC.out.kp K
      clear HC
      have HC := HCn
      clear HCn
      have HVn : Hid (Ms w24 vv (mulPL q r)) := HV.out.kp K
      clear HV
      have HV := HVn
      clear HVn
      have HDn : Hid (Ms w24 vd (mulPL p (mulPL q r))) := HD.out.kp K
      clear HD
      have HD := HDn
      clear HDn
      have HEen : Hid (Ms w24 ve (mulPL (addPL p q) r)) := HEe.out.kp K
      clear HEe
      have HEe := HEen
      clear HEen
      clear K
      have HY : Hid (Ms w24 vy (mulPL p r)) := ovy.ms
      clear ovy
      obtain ⟨E12, hE12⟩ : ∃ E, E = mulPE p r := ⟨_, rfl⟩
      have HE12 : Hid (E12 = mulPE p r) := hE12
      rw [← hE12]
      clear hE12
      by_cases hE11 : E11 = 0
      rotate_left
      · skip
        have bE11 : (E11 != 0) = true := by rw [bne_iff_ne]; exact hE11
        have cE11 : (E11 == 0) = false := by rw [beq_eq_false_iff_ne]; exact hE11
        clear hE11
        go_wp2_with fail
        refine (padd_any _ _ (mulPL p r) (mulPL q r) _ HY.out HV.out).mono ?_
        rintro e w25 ⟨vq, rfl, ovq, hb⟩
        have K := Kp.of_below hb
        have B := hb
        clear hb
        have HBn : Hid (Below w.heap.size w w25) := below_step HB.out B
        clear HB B
        have HB := HBn
        clear HBn
        have HPn : Hid (Ms w25 v p) := HP.out.kp K
        clear HP
        have HP := HPn
        clear HPn
        have HQn : Hid (Ms w25 u q) := HQ.out.kp K
        clear HQ
        have HQ := HQn
        clear HQn
        have HRn : Hid (Ms w25 x r) := HR.out.kp K
        clear HR
        have HR := HRn
        clear HRn
        have HSn : Hid (Ms w25 vs (addPL p q)) := HS.out.kp K
        clear HS
        have HS := HSn
        clear HSn
        have HMn : Hid (Ms w25 vm (mulPL p q)) := HM.out.kp K
        clear HM
        have HM := HMn
        clear HMn
        have HCn : Hid (Ms w25 vc (mulPL (mulPL p q) r)) := HC.out.kp K
        clear HC
        have HC := HCn
        clear HCn
        have HVn : Hid (Ms w25 vv (mulPL q r)) := HV.out.kp K
        clear HV
        have HV := HVn
        clear HVn
        have HDn : Hid (Ms w25 vd (mulPL p (mulPL q r))) := HD.out.kp K
        clear HD
        have HD := HDn
        clear HDn
        have HEen : Hid (Ms w25 ve (mulPL (addPL p q) r)) := HEe.out.kp K
        clear HEe
        have HEe := HEen
        clear HEen
        have HYn : Hid (Ms w25 vy (mulPL p r)) := HY.out.kp K
        clear HY
        have HY := HYn
        clear HYn
        clear K
        have HO : Hid (Ms w25 vq (addPL (mulPL p r) (mulPL q r))) := ovq.ms
        clear ovq
        obtain ⟨E13, hE13⟩ : ∃ E, E = addPE (mulPL p r) (mulPL q r) := ⟨_, rfl⟩
        have HE13 : Hid (E13 = addPE (mulPL p r) (mulPL q r)) := hE13
        rw [← hE13]
        clear hE13
        go_wp2
        go_ret
        exact ⟨rfl, HB.out⟩
      subst hE11
      have HRb : Hid _ := ring_both HCp.out HCq.out HCr.out HE1.out.symm HE11.out.symm
      obtain rfl : E12 = 0 := HE12.out.trans HRb.out.1
      go_wp2_with fail
      refine (padd_any _ _ (mulPL p r) (mulPL q r) _ HY.out HV.out).mono ?_
      rintro e w25 ⟨vq, rfl, oq, hb⟩
      rw [HRb.out.2.2.1]
      have K := Kp.of_below hb
      have B := hb
      clear hb
      have HBn : Hid (Below w.heap.size w w25) := below_step HB.out B
      clear HB B
      have HB := HBn
      clear HBn
      have HPn : Hid (Ms w25 v p) := HP.out.kp K
      clear HP
      have HP := HPn
      clear HPn
      have HQn : Hid (Ms w25 u q) := HQ.out.kp K
      clear HQ
      have HQ := HQn
      clear HQn
      have HRn : Hid (Ms w25 x r) := HR.out.kp K
      clear HR
      have HR := HRn
      clear HRn
      have HSn : Hid (Ms w25 vs (addPL p q)) := HS.out.kp K
      clear HS
      have HS := HSn
      clear HSn
      have HMn : Hid (Ms w25 vm (mulPL p q)) := HM.out.kp K
      clear HM
      have HM := HMn
      clear HMn
      have HCn : Hid (Ms w25 vc (mulPL (mulPL p q) r)) := HC.out.kp K
      clear HC
      have HC := HCn
      clear HCn
      have HVn : Hid (Ms w25 vv (mulPL q r)) := HV.out.kp K
      clear HV
      have HV := HVn
      clear HVn
      have HDn : Hid (Ms w25 vd (mulPL p (mulPL q r))) := HD.out.kp K
      clear HD
      have HD := HDn
      clear HDn
      have HEen : Hid (Ms w25 ve (mulPL (addPL p q) r)) := HEe.out.kp K
      clear HEe
      have HEe := HEen
      clear HEen
      have HYn : Hid (Ms w25 vy (mulPL p r)) := HY.out.kp K
      clear HY
      have HY := HYn
      clear HYn
      clear K
      have HO : Hid (Ms w25 vq (addPL (mulPL p r) (mulPL q r))) := oq.ms
      clear oq
      go_wp2_with fail
      refine (same_at true _ _ (mulPL (addPL p q) r) (addPL (mulPL p r) (mulPL q r)) _ (decide_eq_true HRb.out.2.2.2) HEe.out HO.out).mono ?_
      rintro e w26 ⟨rfl, n, hw⟩
      have K := kp_drawn hw
      have B := below_drawn hw
      clear hw
      have HBn : Hid (Below w.heap.size w w26) := below_step HB.out B
      clear HB B
      have HB := HBn
      clear HBn
      have HPn : Hid (Ms w26 v p) := HP.out.kp K
      clear HP
      have HP := HPn
      clear HPn
      have HQn : Hid (Ms w26 u q) := HQ.out.kp K
      clear HQ
      have HQ := HQn
      clear HQn
      have HRn : Hid (Ms w26 x r) := HR.out.kp K
      clear HR
      have HR := HRn
      clear HRn
      have HSn : Hid (Ms w26 vs (addPL p q)) := HS.out.kp K
      clear HS
      have HS := HSn
      clear HSn
      have HMn : Hid (Ms w26 vm (mulPL p q)) := HM.out.kp K
      clear HM
      have HM := HMn
      clear HMn
      have HCn : Hid (Ms w26 vc (mulPL (mulPL p q) r)) := HC.out.kp K
      clear HC
      have HC := HCn
      clear HCn
      have HVn : Hid (Ms w26 vv (mulPL q r)) := HV.out.kp K
      clear HV
      have HV := HVn
      clear HVn
      have HDn : Hid (Ms w26 vd (mulPL p (mulPL q r))) := HD.out.kp K
      clear HD
      have HD := HDn
      clear HDn
      have HEen : Hid (Ms w26 ve (mulPL (addPL p q) r)) := HEe.out.kp K
      clear HEe
      have HEe := HEen
      clear HEen
      have HYn : Hid (Ms w26 vy (mulPL p r)) := HY.out.kp K
      clear HY
      have HY := HYn
      clear HYn
      have HOn : Hid (Ms w26 vq (addPL (mulPL p r) (mulPL q r))) := HO.out.kp K
      clear HO
      have HO := HOn
      clear HOn
      clear K
      go_wp2
      go_ret
      exact ⟨rfl, HB.out⟩

set_option maxRecDepth 100000 in
theorem polyRing_lifted (os : Os) (started : os.Started) (H : Type) (enc : TypeId × Value → H) :
    ReturnsInHanded {} Try.checked os 8 .any (Rows.polyRingSpec.pre6 enc Try.prog Try.f8 Rows.polyRingRow.domain false) (Rows.polyRingSpec.post enc Try.prog Try.f8 false true false false) := by
  refine returnsInHanded_of_change (C := Try.checked) own started (by kernel_rfl) Try.func8
    (ChangeSpec.witness6 (enc := enc) (C := Try.checked) false ⟨#[], #[.slice none 0 0, .slice none 0 0, .slice none 0 0], []⟩ 8 (by kernel_rfl) (by kernel_rfl) (by kernel_rfl) (by kernel_rfl)) ?_
  intro W base args ds gs before hval0 hW hcnd _
  have hval : ∀ (j : Nat) t v, Try.f8.params[j]? = some t → args[j]? = some v → Value.okWide Try.prog W .any base t v := hval0
  have hW' := hW
  obtain ⟨p, q, hA0, hV, rfl, hfz, hnd⟩ := hW
  have hA : DataW.TrodAll enc Try.prog W 0 (fun _ => true) true Try.f8.params.toList args.toList ds p := hA0
  rw [Try.params8] at hA hval
  obtain ⟨v0, vs0, d0, ds0, p0, q0, hargs, rfl, rfl, h0, r0⟩ := trodAll_cons hA
  obtain ⟨v1, vs1, d1, ds1, p1, q1, rfl, rfl, rfl, h1, r1⟩ := trodAll_cons r0
  obtain ⟨v2, vs2, d2, ds2, p2, q2, rfl, rfl, rfl, h2, r2⟩ := trodAll_cons r1
  obtain ⟨rfl, rfl, rfl⟩ := trodAll_nil r2
  obtain rfl : args = #[v0, v1, v2] := by cases args; simp_all
  obtain ⟨rfl, rfl⟩ := trodVars_none hV
  obtain ⟨a0, len0, cap0, rfl⟩ := okWide_slice Try.underlying22 (hval 0 22 v0 rfl rfl)
  have k0 := h0
  have lt0 : ∀ x ∈ p0, x.block < W.heap.size := by obtain ⟨m, hm⟩ := k0; exact DataW.trod_lt m _ _ _ hm
  obtain ⟨z0, w0⟩ : ∃ zs, Ms W (.slice a0 len0 cap0) zs := by
    obtain ⟨fuel, hf⟩ := h0
    obtain ⟨v, zs, e, hz, hfit⟩ := open_monos hf
    simp [Value.cells] at e
    subst e
    exact ⟨zs, hz⟩
  obtain ⟨a1, len1, cap1, rfl⟩ := okWide_slice Try.underlying22 (hval 1 22 v1 rfl rfl)
  have k1 := h1
  have lt1 : ∀ x ∈ p1, x.block < W.heap.size := by obtain ⟨m, hm⟩ := k1; exact DataW.trod_lt m _ _ _ hm
  obtain ⟨z1, w1⟩ : ∃ zs, Ms W (.slice a1 len1 cap1) zs := by
    obtain ⟨fuel, hf⟩ := h1
    obtain ⟨v, zs, e, hz, hfit⟩ := open_monos hf
    simp [Value.cells] at e
    subst e
    exact ⟨zs, hz⟩
  obtain ⟨a2, len2, cap2, rfl⟩ := okWide_slice Try.underlying22 (hval 2 22 v2 rfl rfl)
  have k2 := h2
  have lt2 : ∀ x ∈ p2, x.block < W.heap.size := by obtain ⟨m, hm⟩ := k2; exact DataW.trod_lt m _ _ _ hm
  obtain ⟨z2, w2⟩ : ∃ zs, Ms W (.slice a2 len2 cap2) zs := by
    obtain ⟨fuel, hf⟩ := h2
    obtain ⟨v, zs, e, hz, hfit⟩ := open_monos hf
    simp [Value.cells] at e
    subst e
    exact ⟨zs, hz⟩
  clear hA0 hval0
  refine (polyRing_any _ _ _ z0 z1 z2 W w0 w1 w2).mono fun e W' ⟨he, bel⟩ => ?_
  subst he
  exact ⟨_, rfl, _, _, _, [], _, [], hW', trodAll_mk1 (shut_bool Try.underlying4 _), (trodAll_cons_mk (Below.trod laidOut (by kernel_rfl) (of_decide_eq_true (by kernel_rfl)) k0 bel lt0) (trodAll_cons_mk (Below.trod laidOut (by kernel_rfl) (of_decide_eq_true (by kernel_rfl)) k1 bel lt1) (trodAll_cons_mk (Below.trod laidOut (by kernel_rfl) (of_decide_eq_true (by kernel_rfl)) k2 bel lt2) trodAll_mk0))), rfl, bel.frame _, fun h => by cases h⟩

theorem polyRing_holds : Rows.PolyRingSaid :=
  OpenClaim.holds_of_wide 8 Try.f8 rfl rfl rfl rfl rfl rfl rfl ⟨rfl, rfl, rfl, rfl, rfl⟩ rfl rfl rfl rfl rfl (by kernel_rfl) Try.func8 (by kernel_rfl)
    (of_decide_eq_true (by kernel_rfl)) (by unfold Func.isWrapper; first | (rw [if_pos (by decide +kernel)]; kernel_rfl) | (rw [if_neg (by decide +kernel)]; exact ⟨rfl, rfl⟩))
    (fun os started H enc _ => polyRing_lifted os started H enc)

#print axioms polyRing_holds

end Go.Proofs.Ytfifgmcjilkigaa
