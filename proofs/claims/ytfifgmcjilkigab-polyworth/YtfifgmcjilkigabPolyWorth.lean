/- Proved: for every two rows of monomials and every row of rows of limbs, the law PolyWorth answers true (sums and products are worth the sum and the product, where nothing is too big), and its arguments read afterwards as before. No condition. -/
import Derived.Test.YtfifgmcjilkigabPShown
import Derived.Test.YtfifgmcjilkigabPWor
import Derived.Test.YtfifgmcjilkigabPFrame
namespace Go.Proofs.Ytfifgmcjilkigab
open Go.ChangeShapes Go.WideShapes Go.ChangeAt Go.RowKit Go.Maps

theorem Ms.lim {w : World} {v : Value} {p : List Mn} (h : Ms w v p) : ∀ m ∈ p, Lim m.1 := by
  intro m hm
  obtain ⟨k, hk⟩ := List.mem_iff_getElem?.1 hm
  obtain ⟨ao, cap, rfl, _, _, hx⟩ := Row.flat h
  obtain ⟨g, off, x, _, hk2, cv, ev, _, _, hmo⟩ := hx k (List.getElem?_eq_some_iff.1 hk).1
  rw [hk] at hk2
  cases hk2
  exact hmo.1.1

theorem Rs.lim {w : World} {v : Value} {fs : List (List Nat)} (h : Rs w v fs) : ∀ f ∈ fs, Lim f := by
  intro m hm
  obtain ⟨k, hk⟩ := List.mem_iff_getElem?.1 hm
  obtain ⟨ao, cap, rfl, _, _, hx⟩ := Row.flat h
  obtain ⟨g, off, x, _, hk2, u, _, hmo⟩ := hx k (List.getElem?_eq_some_iff.1 hk).1
  rw [hk] at hk2
  cases hk2
  exact hmo.1

set_option maxRecDepth 100000 in
set_option maxHeartbeats 6400000 in
theorem polyWorth_any (v u av : Value) (p q : List Mn) (ats : List (List Nat)) (w : World) (h : Ms w v p) (h' : Ms w u q) (ha : Rs w av ats) :
    Calls Try.prog 3 #[v, u, av] w fun e w' => e = .returned (.bool true) ∧ Below w.heap.size w w' := by
  have HL : Hid (∀ m ∈ p, Lim m.1) := h.lim
  have HL' : Hid (∀ m ∈ q, Lim m.1) := h'.lim
  have HF : Hid (∀ f ∈ ats, Lim f) := ha.lim
  have HP : Hid (Ms w v p) := h
  have HQ : Hid (Ms w u q) := h'
  have HA : Hid (Rs w av ats) := ha
  have HB : Hid (Below w.heap.size w w) := Below.refl _ _
  clear h h' ha
  go_enter Try.func3, Try.ntmps3
  go_wp2_with fail
  refine (shown_any _).mono ?_
  rintro e w1 ⟨rfl, hb⟩
  have K := Kp.of_below hb
  have B := hb
  clear hb
  have HBn : Hid (Below w.heap.size w w1) := below_step HB.out B
  clear HB B
  have HB := HBn
  clear HBn
  have HPn : Hid (Ms w1 v p) := HP.out.kp K
  clear HP
  have HP := HPn
  clear HPn
  have HQn : Hid (Ms w1 u q) := HQ.out.kp K
  clear HQ
  have HQ := HQn
  clear HQn
  have HAn : Hid (Rs w1 av ats) := HA.out.kp K
  clear HA
  have HA := HAn
  clear HAn
  clear K
  go_wp2_with fail
  refine (value_any _ _ p ats _ HP.out HA.out).mono ?_
  rintro e w2 ⟨va, rfl, sa, hb⟩
  have K := Kp.of_below hb
  have B := hb
  clear hb
  have HBn : Hid (Below w.heap.size w w2) := below_step HB.out B
  clear HB B
  have HB := HBn
  clear HBn
  have HPn : Hid (Ms w2 v p) := HP.out.kp K
  clear HP
  have HP := HPn
  clear HPn
  have HQn : Hid (Ms w2 u q) := HQ.out.kp K
  clear HQ
  have HQ := HQn
  clear HQn
  have HAn : Hid (Rs w2 av ats) := HA.out.kp K
  clear HA
  have HA := HAn
  clear HAn
  clear K
  have HVa : Hid (Sl w2 va (valL p ats)) := sa
  clear sa
  obtain ⟨E1, hE1⟩ : ∃ E, E = valE p ats := ⟨_, rfl⟩
  have HE1 : Hid (E1 = valE p ats) := hE1
  rw [← hE1]
  clear hE1
  go_wp2_with fail
  refine (value_any _ _ q ats _ HQ.out HA.out).mono ?_
  rintro e w3 ⟨vb, rfl, sb, hb⟩
  have K := Kp.of_below hb
  have B := hb
  clear hb
  have HBn : Hid (Below w.heap.size w w3) := below_step HB.out B
  clear HB B
  have HB := HBn
  clear HBn
  have HPn : Hid (Ms w3 v p) := HP.out.kp K
  clear HP
  have HP := HPn
  clear HPn
  have HQn : Hid (Ms w3 u q) := HQ.out.kp K
  clear HQ
  have HQ := HQn
  clear HQn
  have HAn : Hid (Rs w3 av ats) := HA.out.kp K
  clear HA
  have HA := HAn
  clear HAn
  have HVan : Hid (Sl w3 va (valL p ats)) := HVa.out.kp K
  clear HVa
  have HVa := HVan
  clear HVan
  clear K
  have HVb : Hid (Sl w3 vb (valL q ats)) := sb
  clear sb
  obtain ⟨E2, hE2⟩ : ∃ E, E = valE q ats := ⟨_, rfl⟩
  have HE2 : Hid (E2 = valE q ats) := hE2
  rw [← hE2]
  clear hE2
  go_wp2_with fail
  refine (padd_any _ _ p q _ HP.out HQ.out).mono ?_
  rintro e w4 ⟨vs, rfl, os, hb⟩
  have K := Kp.of_below hb
  have B := hb
  clear hb
  have HBn : Hid (Below w.heap.size w w4) := below_step HB.out B
  clear HB B
  have HB := HBn
  clear HBn
  have HPn : Hid (Ms w4 v p) := HP.out.kp K
  clear HP
  have HP := HPn
  clear HPn
  have HQn : Hid (Ms w4 u q) := HQ.out.kp K
  clear HQ
  have HQ := HQn
  clear HQn
  have HAn : Hid (Rs w4 av ats) := HA.out.kp K
  clear HA
  have HA := HAn
  clear HAn
  have HVan : Hid (Sl w4 va (valL p ats)) := HVa.out.kp K
  clear HVa
  have HVa := HVan
  clear HVan
  have HVbn : Hid (Sl w4 vb (valL q ats)) := HVb.out.kp K
  clear HVb
  have HVb := HVbn
  clear HVbn
  clear K
  have HS : Hid (Ms w4 vs (addPL p q)) := os.ms
  clear os
  obtain ⟨E3, hE3⟩ : ∃ E, E = addPE p q := ⟨_, rfl⟩
  have HE3 : Hid (E3 = addPE p q) := hE3
  rw [← hE3]
  clear hE3
  go_wp2_with fail
  refine (pmul_any _ _ p q _ HP.out HQ.out).mono ?_
  rintro e w5 ⟨vm, rfl, om, hb⟩
  have K := Kp.of_below hb
  have B := hb
  clear hb
  have HBn : Hid (Below w.heap.size w w5) := below_step HB.out B
  clear HB B
  have HB := HBn
  clear HBn
  have HPn : Hid (Ms w5 v p) := HP.out.kp K
  clear HP
  have HP := HPn
  clear HPn
  have HQn : Hid (Ms w5 u q) := HQ.out.kp K
  clear HQ
  have HQ := HQn
  clear HQn
  have HAn : Hid (Rs w5 av ats) := HA.out.kp K
  clear HA
  have HA := HAn
  clear HAn
  have HVan : Hid (Sl w5 va (valL p ats)) := HVa.out.kp K
  clear HVa
  have HVa := HVan
  clear HVan
  have HVbn : Hid (Sl w5 vb (valL q ats)) := HVb.out.kp K
  clear HVb
  have HVb := HVbn
  clear HVbn
  have HSn : Hid (Ms w5 vs (addPL p q)) := HS.out.kp K
  clear HS
  have HS := HSn
  clear HSn
  clear K
  have HM : Hid (Ms w5 vm (mulPL p q)) := om.ms
  clear om
  obtain ⟨E4, hE4⟩ : ∃ E, E = mulPE p q := ⟨_, rfl⟩
  have HE4 : Hid (E4 = mulPE p q) := hE4
  rw [← hE4]
  clear hE4
  have HLs : Hid (∀ m ∈ addPL p q, Lim m.1) := HS.out.lim
  have HLm : Hid (∀ m ∈ mulPL p q, Lim m.1) := HM.out.lim
  by_cases h1 : E1 = 0
  rotate_left
  · have hb1 : (E1 != 0) = true := by rw [bne_iff_ne]; exact h1
    clear h1
    go_wp2
    go_ret
    exact ⟨rfl, HB.out⟩
  subst h1
  by_cases h2 : E2 = 0
  rotate_left
  · have hb2 : (E2 != 0) = true := by rw [bne_iff_ne]; exact h2
    clear h2
    go_wp2
    go_ret
    exact ⟨rfl, HB.out⟩
  subst h2
  by_cases h3 : E3 = 0
  rotate_left
  · have hb3 : (E3 == 0) = false := by rw [beq_eq_false_iff_ne]; exact h3
    clear h3
    by_cases h4 : E4 = 0
    rotate_left
    · have hb4 : (E4 == 0) = false := by rw [beq_eq_false_iff_ne]; exact h4
      clear h4
      go_wp2
      go_ret
      exact ⟨rfl, HB.out⟩
    subst h4
    go_wp2_with fail
    refine (value_any _ _ (mulPL p q) ats _ HM.out HA.out).mono ?_
    rintro e w6 ⟨v4, rfl, s4, hb⟩
    have K := Kp.of_below hb
    have B := hb
    clear hb
    have HBn : Hid (Below w.heap.size w w6) := below_step HB.out B
    clear HB B
    have HB := HBn
    clear HBn
    have HPn : Hid (Ms w6 v p) := HP.out.kp K
    clear HP
    have HP := HPn
    clear HPn
    have HQn : Hid (Ms w6 u q) := HQ.out.kp K
    clear HQ
    have HQ := HQn
    clear HQn
    have HAn : Hid (Rs w6 av ats) := HA.out.kp K
    clear HA
    have HA := HAn
    clear HAn
    have HVan : Hid (Sl w6 va (valL p ats)) := HVa.out.kp K
    clear HVa
    have HVa := HVan
    clear HVan
    have HVbn : Hid (Sl w6 vb (valL q ats)) := HVb.out.kp K
    clear HVb
    have HVb := HVbn
    clear HVbn
    have HSn : Hid (Ms w6 vs (addPL p q)) := HS.out.kp K
    clear HS
    have HS := HSn
    clear HSn
    have HMn : Hid (Ms w6 vm (mulPL p q)) := HM.out.kp K
    clear HM
    have HM := HMn
    clear HMn
    clear K
    have HV4 : Hid (Sl w6 v4 (valL (mulPL p q) ats)) := s4
    clear s4
    obtain ⟨F4, hF4⟩ : ∃ E, E = valE (mulPL p q) ats := ⟨_, rfl⟩
    have HF4 : Hid (F4 = valE (mulPL p q) ats) := hF4
    rw [← hF4]
    clear hF4
    go_wp2_with fail
    refine (mul_any _ _ (valL p ats) (valL q ats) _ HVa.out HVb.out).mono ?_
    rintro e w7 ⟨u4, rfl, o4, hb⟩
    have K := Kp.of_below hb
    have B := hb
    clear hb
    have HBn : Hid (Below w.heap.size w w7) := below_step HB.out B
    clear HB B
    have HB := HBn
    clear HBn
    have HPn : Hid (Ms w7 v p) := HP.out.kp K
    clear HP
    have HP := HPn
    clear HPn
    have HQn : Hid (Ms w7 u q) := HQ.out.kp K
    clear HQ
    have HQ := HQn
    clear HQn
    have HAn : Hid (Rs w7 av ats) := HA.out.kp K
    clear HA
    have HA := HAn
    clear HAn
    have HVan : Hid (Sl w7 va (valL p ats)) := HVa.out.kp K
    clear HVa
    have HVa := HVan
    clear HVan
    have HVbn : Hid (Sl w7 vb (valL q ats)) := HVb.out.kp K
    clear HVb
    have HVb := HVbn
    clear HVbn
    have HSn : Hid (Ms w7 vs (addPL p q)) := HS.out.kp K
    clear HS
    have HS := HSn
    clear HSn
    have HMn : Hid (Ms w7 vm (mulPL p q)) := HM.out.kp K
    clear HM
    have HM := HMn
    clear HMn
    have HV4n : Hid (Sl w7 v4 (valL (mulPL p q) ats)) := HV4.out.kp K
    clear HV4
    have HV4 := HV4n
    clear HV4n
    clear K
    have HU4 : Hid (Sl w7 u4 (mulL (valL p ats) (valL q ats))) := o4.sl
    clear o4
    by_cases hF4 : F4 = 0
    rotate_left
    · have hbF4 : (F4 == 0) = false := by rw [beq_eq_false_iff_ne]; exact hF4
      clear hF4
      obtain ⟨J4, hJ4⟩ : ∃ E, E = mulE (valL p ats) (valL q ats) := ⟨_, rfl⟩
      have HJ4 : Hid (J4 = mulE (valL p ats) (valL q ats)) := hJ4
      rw [← hJ4]
      clear hJ4
      go_wp2
      go_ret
      exact ⟨rfl, HB.out⟩
    subst hF4
    obtain ⟨je, jl⟩ := value_prod HL.out HL'.out HLm.out HF.out HE1.out.symm HE2.out.symm HE4.out.symm HF4.out.symm
    rw [je]
    have HJ4 : Hid (decide (valL (mulPL p q) ats = mulL (valL p ats) (valL q ats)) = true) := decide_eq_true jl
    clear je jl
    go_wp2_with fail
    refine (sameNat_at _ _ _ _ _ _ HJ4.out HV4.out HU4.out).mono ?_
    rintro e w8 ⟨rfl, n, hw⟩
    have K := kp_drawn hw
    have B := below_drawn hw
    clear hw
    have HBn : Hid (Below w.heap.size w w8) := below_step HB.out B
    clear HB B
    have HB := HBn
    clear HBn
    have HPn : Hid (Ms w8 v p) := HP.out.kp K
    clear HP
    have HP := HPn
    clear HPn
    have HQn : Hid (Ms w8 u q) := HQ.out.kp K
    clear HQ
    have HQ := HQn
    clear HQn
    have HAn : Hid (Rs w8 av ats) := HA.out.kp K
    clear HA
    have HA := HAn
    clear HAn
    have HVan : Hid (Sl w8 va (valL p ats)) := HVa.out.kp K
    clear HVa
    have HVa := HVan
    clear HVan
    have HVbn : Hid (Sl w8 vb (valL q ats)) := HVb.out.kp K
    clear HVb
    have HVb := HVbn
    clear HVbn
    have HSn : Hid (Ms w8 vs (addPL p q)) := HS.out.kp K
    clear HS
    have HS := HSn
    clear HSn
    have HMn : Hid (Ms w8 vm (mulPL p q)) := HM.out.kp K
    clear HM
    have HM := HMn
    clear HMn
    have HV4n : Hid (Sl w8 v4 (valL (mulPL p q) ats)) := HV4.out.kp K
    clear HV4
    have HV4 := HV4n
    clear HV4n
    have HU4n : Hid (Sl w8 u4 (mulL (valL p ats) (valL q ats))) := HU4.out.kp K
    clear HU4
    have HU4 := HU4n
    clear HU4n
    clear K
    go_wp2
    go_ret
    exact ⟨rfl, HB.out⟩
  subst h3
  go_wp2_with fail
  refine (value_any _ _ (addPL p q) ats _ HS.out HA.out).mono ?_
  rintro e w6 ⟨v3, rfl, s3, hb⟩
  have K := Kp.of_below hb
  have B := hb
  clear hb
  have HBn : Hid (Below w.heap.size w w6) := below_step HB.out B
  clear HB B
  have HB := HBn
  clear HBn
  have HPn : Hid (Ms w6 v p) := HP.out.kp K
  clear HP
  have HP := HPn
  clear HPn
  have HQn : Hid (Ms w6 u q) := HQ.out.kp K
  clear HQ
  have HQ := HQn
  clear HQn
  have HAn : Hid (Rs w6 av ats) := HA.out.kp K
  clear HA
  have HA := HAn
  clear HAn
  have HVan : Hid (Sl w6 va (valL p ats)) := HVa.out.kp K
  clear HVa
  have HVa := HVan
  clear HVan
  have HVbn : Hid (Sl w6 vb (valL q ats)) := HVb.out.kp K
  clear HVb
  have HVb := HVbn
  clear HVbn
  have HSn : Hid (Ms w6 vs (addPL p q)) := HS.out.kp K
  clear HS
  have HS := HSn
  clear HSn
  have HMn : Hid (Ms w6 vm (mulPL p q)) := HM.out.kp K
  clear HM
  have HM := HMn
  clear HMn
  clear K
  have HV3 : Hid (Sl w6 v3 (valL (addPL p q) ats)) := s3
  clear s3
  obtain ⟨F3, hF3⟩ : ∃ E, E = valE (addPL p q) ats := ⟨_, rfl⟩
  have HF3 : Hid (F3 = valE (addPL p q) ats) := hF3
  rw [← hF3]
  clear hF3
  go_wp2_with fail
  refine (add_any _ _ (valL p ats) (valL q ats) _ HVa.out HVb.out).mono ?_
  rintro e w7 ⟨u3, rfl, o3, hb⟩
  have K := Kp.of_below hb
  have B := hb
  clear hb
  have HBn : Hid (Below w.heap.size w w7) := below_step HB.out B
  clear HB B
  have HB := HBn
  clear HBn
  have HPn : Hid (Ms w7 v p) := HP.out.kp K
  clear HP
  have HP := HPn
  clear HPn
  have HQn : Hid (Ms w7 u q) := HQ.out.kp K
  clear HQ
  have HQ := HQn
  clear HQn
  have HAn : Hid (Rs w7 av ats) := HA.out.kp K
  clear HA
  have HA := HAn
  clear HAn
  have HVan : Hid (Sl w7 va (valL p ats)) := HVa.out.kp K
  clear HVa
  have HVa := HVan
  clear HVan
  have HVbn : Hid (Sl w7 vb (valL q ats)) := HVb.out.kp K
  clear HVb
  have HVb := HVbn
  clear HVbn
  have HSn : Hid (Ms w7 vs (addPL p q)) := HS.out.kp K
  clear HS
  have HS := HSn
  clear HSn
  have HMn : Hid (Ms w7 vm (mulPL p q)) := HM.out.kp K
  clear HM
  have HM := HMn
  clear HMn
  have HV3n : Hid (Sl w7 v3 (valL (addPL p q) ats)) := HV3.out.kp K
  clear HV3
  have HV3 := HV3n
  clear HV3n
  clear K
  have HU3 : Hid (Sl w7 u3 (addL (valL p ats) (valL q ats))) := o3.sl
  clear o3
  by_cases hF3 : F3 = 0
  rotate_left
  · have hbF3 : (F3 == 0) = false := by rw [beq_eq_false_iff_ne]; exact hF3
    clear hF3
    obtain ⟨J3, hJ3⟩ : ∃ E, E = addE (valL p ats) (valL q ats) := ⟨_, rfl⟩
    have HJ3 : Hid (J3 = addE (valL p ats) (valL q ats)) := hJ3
    rw [← hJ3]
    clear hJ3
    by_cases h4 : E4 = 0
    rotate_left
    · have hb4 : (E4 == 0) = false := by rw [beq_eq_false_iff_ne]; exact h4
      clear h4
      go_wp2
      go_ret
      exact ⟨rfl, HB.out⟩
    subst h4
    go_wp2_with fail
    refine (value_any _ _ (mulPL p q) ats _ HM.out HA.out).mono ?_
    rintro e w8 ⟨v4, rfl, s4, hb⟩
    have K := Kp.of_below hb
    have B := hb
    clear hb
    have HBn : Hid (Below w.heap.size w w8) := below_step HB.out B
    clear HB B
    have HB := HBn
    clear HBn
    have HPn : Hid (Ms w8 v p) := HP.out.kp K
    clear HP
    have HP := HPn
    clear HPn
    have HQn : Hid (Ms w8 u q) := HQ.out.kp K
    clear HQ
    have HQ := HQn
    clear HQn
    have HAn : Hid (Rs w8 av ats) := HA.out.kp K
    clear HA
    have HA := HAn
    clear HAn
    have HVan : Hid (Sl w8 va (valL p ats)) := HVa.out.kp K
    clear HVa
    have HVa := HVan
    clear HVan
    have HVbn : Hid (Sl w8 vb (valL q ats)) := HVb.out.kp K
    clear HVb
    have HVb := HVbn
    clear HVbn
    have HSn : Hid (Ms w8 vs (addPL p q)) := HS.out.kp K
    clear HS
    have HS := HSn
    clear HSn
    have HMn : Hid (Ms w8 vm (mulPL p q)) := HM.out.kp K
    clear HM
    have HM := HMn
    clear HMn
    have HV3n : Hid (Sl w8 v3 (valL (addPL p q) ats)) := HV3.out.kp K
    clear HV3
    have HV3 := HV3n
    clear HV3n
    have HU3n : Hid (Sl w8 u3 (addL (valL p ats) (valL q ats))) := HU3.out.kp K
    clear HU3
    have HU3 := HU3n
    clear HU3n
    clear K
    have HV4 : Hid (Sl w8 v4 (valL (mulPL p q) ats)) := s4
    clear s4
    obtain ⟨F4, hF4⟩ : ∃ E, E = valE (mulPL p q) ats := ⟨_, rfl⟩
    have HF4 : Hid (F4 = valE (mulPL p q) ats) := hF4
    rw [← hF4]
    clear hF4
    go_wp2_with fail
    refine (mul_any _ _ (valL p ats) (valL q ats) _ HVa.out HVb.out).mono ?_
    rintro e w9 ⟨u4, rfl, o4, hb⟩
    have K := Kp.of_below hb
    have B := hb
    clear hb
    have HBn : Hid (Below w.heap.size w w9) := below_step HB.out B
    clear HB B
    have HB := HBn
    clear HBn
    have HPn : Hid (Ms w9 v p) := HP.out.kp K
    clear HP
    have HP := HPn
    clear HPn
    have HQn : Hid (Ms w9 u q) := HQ.out.kp K
    clear HQ
    have HQ := HQn
    clear HQn
    have HAn : Hid (Rs w9 av ats) := HA.out.kp K
    clear HA
    have HA := HAn
    clear HAn
    have HVan : Hid (Sl w9 va (valL p ats)) := HVa.out.kp K
    clear HVa
    have HVa := HVan
    clear HVan
    have HVbn : Hid (Sl w9 vb (valL q ats)) := HVb.out.kp K
    clear HVb
    have HVb := HVbn
    clear HVbn
    have HSn : Hid (Ms w9 vs (addPL p q)) := HS.out.kp K
    clear HS
    have HS := HSn
    clear HSn
    have HMn : Hid (Ms w9 vm (mulPL p q)) := HM.out.kp K
    clear HM
    have HM := HMn
    clear HMn
    have HV3n : Hid (Sl w9 v3 (valL (addPL p q) ats)) := HV3.out.kp K
    clear HV3
    have HV3 := HV3n
    clear HV3n
    have HU3n : Hid (Sl w9 u3 (addL (valL p ats) (valL q ats))) := HU3.out.kp K
    clear HU3
    have HU3 := HU3n
    clear HU3n
    have HV4n : Hid (Sl w9 v4 (valL (mulPL p q) ats)) := HV4.out.kp K
    clear HV4
    have HV4 := HV4n
    clear HV4n
    clear K
    have HU4 : Hid (Sl w9 u4 (mulL (valL p ats) (valL q ats))) := o4.sl
    clear o4
    by_cases hF4 : F4 = 0
    rotate_left
    · have hbF4 : (F4 == 0) = false := by rw [beq_eq_false_iff_ne]; exact hF4
      clear hF4
      obtain ⟨J4, hJ4⟩ : ∃ E, E = mulE (valL p ats) (valL q ats) := ⟨_, rfl⟩
      have HJ4 : Hid (J4 = mulE (valL p ats) (valL q ats)) := hJ4
      rw [← hJ4]
      clear hJ4
      go_wp2
      go_ret
      exact ⟨rfl, HB.out⟩
    subst hF4
    obtain ⟨je, jl⟩ := value_prod HL.out HL'.out HLm.out HF.out HE1.out.symm HE2.out.symm HE4.out.symm HF4.out.symm
    rw [je]
    have HJ4 : Hid (decide (valL (mulPL p q) ats = mulL (valL p ats) (valL q ats)) = true) := decide_eq_true jl
    clear je jl
    go_wp2_with fail
    refine (sameNat_at _ _ _ _ _ _ HJ4.out HV4.out HU4.out).mono ?_
    rintro e w10 ⟨rfl, n, hw⟩
    have K := kp_drawn hw
    have B := below_drawn hw
    clear hw
    have HBn : Hid (Below w.heap.size w w10) := below_step HB.out B
    clear HB B
    have HB := HBn
    clear HBn
    have HPn : Hid (Ms w10 v p) := HP.out.kp K
    clear HP
    have HP := HPn
    clear HPn
    have HQn : Hid (Ms w10 u q) := HQ.out.kp K
    clear HQ
    have HQ := HQn
    clear HQn
    have HAn : Hid (Rs w10 av ats) := HA.out.kp K
    clear HA
    have HA := HAn
    clear HAn
    have HVan : Hid (Sl w10 va (valL p ats)) := HVa.out.kp K
    clear HVa
    have HVa := HVan
    clear HVan
    have HVbn : Hid (Sl w10 vb (valL q ats)) := HVb.out.kp K
    clear HVb
    have HVb := HVbn
    clear HVbn
    have HSn : Hid (Ms w10 vs (addPL p q)) := HS.out.kp K
    clear HS
    have HS := HSn
    clear HSn
    have HMn : Hid (Ms w10 vm (mulPL p q)) := HM.out.kp K
    clear HM
    have HM := HMn
    clear HMn
    have HV3n : Hid (Sl w10 v3 (valL (addPL p q) ats)) := HV3.out.kp K
    clear HV3
    have HV3 := HV3n
    clear HV3n
    have HU3n : Hid (Sl w10 u3 (addL (valL p ats) (valL q ats))) := HU3.out.kp K
    clear HU3
    have HU3 := HU3n
    clear HU3n
    have HV4n : Hid (Sl w10 v4 (valL (mulPL p q) ats)) := HV4.out.kp K
    clear HV4
    have HV4 := HV4n
    clear HV4n
    have HU4n : Hid (Sl w10 u4 (mulL (valL p ats) (valL q ats))) := HU4.out.kp K
    clear HU4
    have HU4 := HU4n
    clear HU4n
    clear K
    go_wp2
    go_ret
    exact ⟨rfl, HB.out⟩
  subst hF3
  obtain ⟨je, jl⟩ := value_sum HL.out HL'.out HLs.out HF.out HE1.out.symm HE2.out.symm HE3.out.symm HF3.out.symm
  rw [je]
  have HJ3 : Hid (decide (valL (addPL p q) ats = addL (valL p ats) (valL q ats)) = true) := decide_eq_true jl
  clear je jl
  go_wp2_with fail
  refine (sameNat_at _ _ _ _ _ _ HJ3.out HV3.out HU3.out).mono ?_
  rintro e w8 ⟨rfl, n, hw⟩
  have K := kp_drawn hw
  have B := below_drawn hw
  clear hw
  have HBn : Hid (Below w.heap.size w w8) := below_step HB.out B
  clear HB B
  have HB := HBn
  clear HBn
  have HPn : Hid (Ms w8 v p) := HP.out.kp K
  clear HP
  have HP := HPn
  clear HPn
  have HQn : Hid (Ms w8 u q) := HQ.out.kp K
  clear HQ
  have HQ := HQn
  clear HQn
  have HAn : Hid (Rs w8 av ats) := HA.out.kp K
  clear HA
  have HA := HAn
  clear HAn
  have HVan : Hid (Sl w8 va (valL p ats)) := HVa.out.kp K
  clear HVa
  have HVa := HVan
  clear HVan
  have HVbn : Hid (Sl w8 vb (valL q ats)) := HVb.out.kp K
  clear HVb
  have HVb := HVbn
  clear HVbn
  have HSn : Hid (Ms w8 vs (addPL p q)) := HS.out.kp K
  clear HS
  have HS := HSn
  clear HSn
  have HMn : Hid (Ms w8 vm (mulPL p q)) := HM.out.kp K
  clear HM
  have HM := HMn
  clear HMn
  have HV3n : Hid (Sl w8 v3 (valL (addPL p q) ats)) := HV3.out.kp K
  clear HV3
  have HV3 := HV3n
  clear HV3n
  have HU3n : Hid (Sl w8 u3 (addL (valL p ats) (valL q ats))) := HU3.out.kp K
  clear HU3
  have HU3 := HU3n
  clear HU3n
  clear K
  by_cases h4 : E4 = 0
  rotate_left
  · have hb4 : (E4 == 0) = false := by rw [beq_eq_false_iff_ne]; exact h4
    clear h4
    go_wp2
    go_ret
    exact ⟨rfl, HB.out⟩
  subst h4
  go_wp2_with fail
  refine (value_any _ _ (mulPL p q) ats _ HM.out HA.out).mono ?_
  rintro e w9 ⟨v4, rfl, s4, hb⟩
  have K := Kp.of_below hb
  have B := hb
  clear hb
  have HBn : Hid (Below w.heap.size w w9) := below_step HB.out B
  clear HB B
  have HB := HBn
  clear HBn
  have HPn : Hid (Ms w9 v p) := HP.out.kp K
  clear HP
  have HP := HPn
  clear HPn
  have HQn : Hid (Ms w9 u q) := HQ.out.kp K
  clear HQ
  have HQ := HQn
  clear HQn
  have HAn : Hid (Rs w9 av ats) := HA.out.kp K
  clear HA
  have HA := HAn
  clear HAn
  have HVan : Hid (Sl w9 va (valL p ats)) := HVa.out.kp K
  clear HVa
  have HVa := HVan
  clear HVan
  have HVbn : Hid (Sl w9 vb (valL q ats)) := HVb.out.kp K
  clear HVb
  have HVb := HVbn
  clear HVbn
  have HSn : Hid (Ms w9 vs (addPL p q)) := HS.out.kp K
  clear HS
  have HS := HSn
  clear HSn
  have HMn : Hid (Ms w9 vm (mulPL p q)) := HM.out.kp K
  clear HM
  have HM := HMn
  clear HMn
  have HV3n : Hid (Sl w9 v3 (valL (addPL p q) ats)) := HV3.out.kp K
  clear HV3
  have HV3 := HV3n
  clear HV3n
  have HU3n : Hid (Sl w9 u3 (addL (valL p ats) (valL q ats))) := HU3.out.kp K
  clear HU3
  have HU3 := HU3n
  clear HU3n
  clear K
  have HV4 : Hid (Sl w9 v4 (valL (mulPL p q) ats)) := s4
  clear s4
  obtain ⟨F4, hF4⟩ : ∃ E, E = valE (mulPL p q) ats := ⟨_, rfl⟩
  have HF4 : Hid (F4 = valE (mulPL p q) ats) := hF4
  rw [← hF4]
  clear hF4
  go_wp2_with fail
  refine (mul_any _ _ (valL p ats) (valL q ats) _ HVa.out HVb.out).mono ?_
  rintro e w10 ⟨u4, rfl, o4, hb⟩
  have K := Kp.of_below hb
  have B := hb
  clear hb
  have HBn : Hid (Below w.heap.size w w10) := below_step HB.out B
  clear HB B
  have HB := HBn
  clear HBn
  have HPn : Hid (Ms w10 v p) := HP.out.kp K
  clear HP
  have HP := HPn
  clear HPn
  have HQn : Hid (Ms w10 u q) := HQ.out.kp K
  clear HQ
  have HQ := HQn
  clear HQn
  have HAn : Hid (Rs w10 av ats) := HA.out.kp K
  clear HA
  have HA := HAn
  clear HAn
  have HVan : Hid (Sl w10 va (valL p ats)) := HVa.out.kp K
  clear HVa
  have HVa := HVan
  clear HVan
  have HVbn : Hid (Sl w10 vb (valL q ats)) := HVb.out.kp K
  clear HVb
  have HVb := HVbn
  clear HVbn
  have HSn : Hid (Ms w10 vs (addPL p q)) := HS.out.kp K
  clear HS
  have HS := HSn
  clear HSn
  have HMn : Hid (Ms w10 vm (mulPL p q)) := HM.out.kp K
  clear HM
  have HM := HMn
  clear HMn
  have HV3n : Hid (Sl w10 v3 (valL (addPL p q) ats)) := HV3.out.kp K
  clear HV3
  have HV3 := HV3n
  clear HV3n
  have HU3n : Hid (Sl w10 u3 (addL (valL p ats) (valL q ats))) := HU3.out.kp K
  clear HU3
  have HU3 := HU3n
  clear HU3n
  have HV4n : Hid (Sl w10 v4 (valL (mulPL p q) ats)) := HV4.out.kp K
  clear HV4
  have HV4 := HV4n
  clear HV4n
  clear K
  have HU4 : Hid (Sl w10 u4 (mulL (valL p ats) (valL q ats))) := o4.sl
  clear o4
  by_cases hF4 : F4 = 0
  rotate_left
  · have hbF4 : (F4 == 0) = false := by rw [beq_eq_false_iff_ne]; exact hF4
    clear hF4
    obtain ⟨J4, hJ4⟩ : ∃ E, E = mulE (valL p ats) (valL q ats) := ⟨_, rfl⟩
    have HJ4 : Hid (J4 = mulE (valL p ats) (valL q ats)) := hJ4
    rw [← hJ4]
    clear hJ4
    go_wp2
    go_ret
    exact ⟨rfl, HB.out⟩
  subst hF4
  obtain ⟨je, jl⟩ := value_prod HL.out HL'.out HLm.out HF.out HE1.out.symm HE2.out.symm HE4.out.symm HF4.out.symm
  rw [je]
  have HJ4 : Hid (decide (valL (mulPL p q) ats = mulL (valL p ats) (valL q ats)) = true) := decide_eq_true jl
  clear je jl
  go_wp2_with fail
  refine (sameNat_at _ _ _ _ _ _ HJ4.out HV4.out HU4.out).mono ?_
  rintro e w11 ⟨rfl, n, hw⟩
  have K := kp_drawn hw
  have B := below_drawn hw
  clear hw
  have HBn : Hid (Below w.heap.size w w11) := below_step HB.out B
  clear HB B
  have HB := HBn
  clear HBn
  have HPn : Hid (Ms w11 v p) := HP.out.kp K
  clear HP
  have HP := HPn
  clear HPn
  have HQn : Hid (Ms w11 u q) := HQ.out.kp K
  clear HQ
  have HQ := HQn
  clear HQn
  have HAn : Hid (Rs w11 av ats) := HA.out.kp K
  clear HA
  have HA := HAn
  clear HAn
  have HVan : Hid (Sl w11 va (valL p ats)) := HVa.out.kp K
  clear HVa
  have HVa := HVan
  clear HVan
  have HVbn : Hid (Sl w11 vb (valL q ats)) := HVb.out.kp K
  clear HVb
  have HVb := HVbn
  clear HVbn
  have HSn : Hid (Ms w11 vs (addPL p q)) := HS.out.kp K
  clear HS
  have HS := HSn
  clear HSn
  have HMn : Hid (Ms w11 vm (mulPL p q)) := HM.out.kp K
  clear HM
  have HM := HMn
  clear HMn
  have HV3n : Hid (Sl w11 v3 (valL (addPL p q) ats)) := HV3.out.kp K
  clear HV3
  have HV3 := HV3n
  clear HV3n
  have HU3n : Hid (Sl w11 u3 (addL (valL p ats) (valL q ats))) := HU3.out.kp K
  clear HU3
  have HU3 := HU3n
  clear HU3n
  have HV4n : Hid (Sl w11 v4 (valL (mulPL p q) ats)) := HV4.out.kp K
  clear HV4
  have HV4 := HV4n
  clear HV4n
  have HU4n : Hid (Sl w11 u4 (mulL (valL p ats) (valL q ats))) := HU4.out.kp K
  clear HU4
  have HU4 := HU4n
  clear HU4n
  clear K
  go_wp2
  go_ret
  exact ⟨rfl, HB.out⟩

set_option maxRecDepth 100000 in
theorem polyWorth_lifted (os : Os) (started : os.Started) (H : Type) (enc : TypeId × Value → H) :
    ReturnsInHanded {} Try.checked os 3 .any (Rows.polyWorthSpec.pre6 enc Try.prog Try.f3 Rows.polyWorthRow.domain false) (Rows.polyWorthSpec.post enc Try.prog Try.f3 false true false false) := by
  refine returnsInHanded_of_change (C := Try.checked) own started (by kernel_rfl) Try.func3
    (ChangeSpec.witness6 (enc := enc) (C := Try.checked) false ⟨#[], #[.slice none 0 0, .slice none 0 0, .slice none 0 0], []⟩ 8 (by kernel_rfl) (by kernel_rfl) (by kernel_rfl) (by kernel_rfl)) ?_
  intro W base args ds gs before hval0 hW hcnd _
  have hval : ∀ (j : Nat) t v, Try.f3.params[j]? = some t → args[j]? = some v → Value.okWide Try.prog W .any base t v := hval0
  have hW' := hW
  obtain ⟨p, q, hA0, hV, rfl, hfz, hnd⟩ := hW
  have hA : DataW.TrodAll enc Try.prog W 0 (fun _ => true) true Try.f3.params.toList args.toList ds p := hA0
  rw [Try.params3] at hA hval
  obtain ⟨v0, vs0, d0, ds0, p0, q0, hargs, rfl, rfl, h0, r0⟩ := trodAll_cons hA
  obtain ⟨v1, vs1, d1, ds1, p1, q1, rfl, rfl, rfl, h1, r1⟩ := trodAll_cons r0
  obtain ⟨v2, vs2, d2, ds2, p2, q2, rfl, rfl, rfl, h2, r2⟩ := trodAll_cons r1
  obtain ⟨rfl, rfl, rfl⟩ := trodAll_nil r2
  obtain rfl : args = #[v0, v1, v2] := by cases args; simp_all
  obtain ⟨rfl, rfl⟩ := trodVars_none hV
  obtain ⟨a0, len0, cap0, rfl⟩ := okWide_slice Try.underlying22 (hval 0 22 v0 rfl rfl)
  have k0 := h0
  have lt0 : ∀ x ∈ p0, x.block < W.heap.size := by obtain ⟨m, hm⟩ := k0; exact DataW.trod_lt m _ _ _ hm
  obtain ⟨z0, w0⟩ : ∃ zs, Ms W (.slice a0 len0 cap0) zs := by
    obtain ⟨fuel, hf⟩ := h0
    obtain ⟨v, zs, e, hz, hfit⟩ := open_monos hf
    simp [Value.cells] at e
    subst e
    exact ⟨zs, hz⟩
  obtain ⟨a1, len1, cap1, rfl⟩ := okWide_slice Try.underlying22 (hval 1 22 v1 rfl rfl)
  have k1 := h1
  have lt1 : ∀ x ∈ p1, x.block < W.heap.size := by obtain ⟨m, hm⟩ := k1; exact DataW.trod_lt m _ _ _ hm
  obtain ⟨z1, w1⟩ : ∃ zs, Ms W (.slice a1 len1 cap1) zs := by
    obtain ⟨fuel, hf⟩ := h1
    obtain ⟨v, zs, e, hz, hfit⟩ := open_monos hf
    simp [Value.cells] at e
    subst e
    exact ⟨zs, hz⟩
  obtain ⟨a2, len2, cap2, rfl⟩ := okWide_slice Try.underlying23 (hval 2 23 v2 rfl rfl)
  have k2 := h2
  have lt2 : ∀ x ∈ p2, x.block < W.heap.size := by obtain ⟨m, hm⟩ := k2; exact DataW.trod_lt m _ _ _ hm
  obtain ⟨z2, w2⟩ : ∃ zs, Rs W (.slice a2 len2 cap2) zs := by
    obtain ⟨fuel, hf⟩ := h2
    obtain ⟨v, zs, e, hz⟩ := open_rows hf
    simp [Value.cells] at e
    subst e
    exact ⟨zs, hz⟩
  clear hA0 hval0
  refine (polyWorth_any _ _ _ z0 z1 z2 W w0 w1 w2).mono fun e W' ⟨he, bel⟩ => ?_
  subst he
  exact ⟨_, rfl, _, _, _, [], _, [], hW', trodAll_mk1 (shut_bool Try.underlying4 _), (trodAll_cons_mk (Below.trod laidOut (by kernel_rfl) (of_decide_eq_true (by kernel_rfl)) k0 bel lt0) (trodAll_cons_mk (Below.trod laidOut (by kernel_rfl) (of_decide_eq_true (by kernel_rfl)) k1 bel lt1) (trodAll_cons_mk (Below.trod laidOut (by kernel_rfl) (of_decide_eq_true (by kernel_rfl)) k2 bel lt2) trodAll_mk0))), rfl, bel.frame _, fun h => by cases h⟩

theorem polyWorth_holds : Rows.PolyWorthSaid :=
  OpenClaim.holds_of_wide 3 Try.f3 rfl rfl rfl rfl rfl rfl rfl ⟨rfl, rfl, rfl, rfl, rfl⟩ rfl rfl rfl rfl rfl (by kernel_rfl) Try.func3 (by kernel_rfl)
    (of_decide_eq_true (by kernel_rfl)) (by unfold Func.isWrapper; first | (rw [if_pos (by decide +kernel)]; kernel_rfl) | (rw [if_neg (by decide +kernel)]; exact ⟨rfl, rfl⟩))
    (fun os started H enc _ => polyWorth_lifted os started H enc)

#print axioms polyWorth_holds

end Go.Proofs.Ytfifgmcjilkigab
