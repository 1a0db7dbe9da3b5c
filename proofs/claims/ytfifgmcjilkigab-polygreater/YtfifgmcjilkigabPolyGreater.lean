/- Proved: for every two rows of monomials and every row of rows of limbs, the law PolyGreater answers true (a greater polynomial is worth more wherever both are worth something), and its arguments read afterwards as before. No condition. -/
import Derived.Test.YtfifgmcjilkigabPShown
import Derived.Test.YtfifgmcjilkigabPWor
import Derived.Test.YtfifgmcjilkigabPFrame
namespace Go.Proofs.Ytfifgmcjilkigab
open Go.ChangeShapes Go.WideShapes Go.ChangeAt Go.RowKit Go.Maps

theorem Ms.lim {w : World} {v : Value} {p : List Mn} (h : Ms w v p) : ∀ m ∈ p, Lim m.1 := by
  intro m hm
  obtain ⟨k, hk⟩ := List.mem_iff_getElem?.1 hm
  obtain ⟨ao, cap, rfl, _, _, hx⟩ := Row.flat h
  obtain ⟨g, off, x, _, hk2, cv, ev, _, _, hmo⟩ := hx k (List.getElem?_eq_some_iff.1 hk).1
  rw [hk] at hk2
  cases hk2
  exact hmo.1.1

theorem Rs.lim {w : World} {v : Value} {fs : List (List Nat)} (h : Rs w v fs) : ∀ f ∈ fs, Lim f := by
  intro m hm
  obtain ⟨k, hk⟩ := List.mem_iff_getElem?.1 hm
  obtain ⟨ao, cap, rfl, _, _, hx⟩ := Row.flat h
  obtain ⟨g, off, x, _, hk2, u, _, hmo⟩ := hx k (List.getElem?_eq_some_iff.1 hk).1
  rw [hk] at hk2
  cases hk2
  exact hmo.1

set_option maxRecDepth 100000 in
set_option maxHeartbeats 6400000 in
theorem polyGreater_any (v u av : Value) (p q : List Mn) (ats : List (List Nat)) (w : World) (h : Ms w v p) (h' : Ms w u q) (ha : Rs w av ats) :
    Calls Try.prog 5 #[v, u, av] w fun e w' => e = .returned (.bool true) ∧ Below w.heap.size w w' := by
  have HL : Hid (∀ m ∈ p, Lim m.1) := h.lim
  have HL' : Hid (∀ m ∈ q, Lim m.1) := h'.lim
  have HF : Hid (∀ f ∈ ats, Lim f) := ha.lim
  have HP : Hid (Ms w v p) := h
  have HQ : Hid (Ms w u q) := h'
  have HA : Hid (Rs w av ats) := ha
  have HB : Hid (Below w.heap.size w w) := Below.refl _ _
  clear h h' ha
  go_enter Try.func5, Try.ntmps5
  go_wp2_with fail
  refine (shown_any _).mono ?_
  rintro e w1 ⟨rfl, hb⟩
  have K := Kp.of_below hb
  have B := hb
  clear hb
  have HBn : Hid (Below w.heap.size w w1) := below_step HB.out B
  clear HB B
  have HB := HBn
  clear HBn
  have HPn : Hid (Ms w1 v p) := HP.out.kp K
  clear HP
  have HP := HPn
  clear HPn
  have HQn : Hid (Ms w1 u q) := HQ.out.kp K
  clear HQ
  have HQ := HQn
  clear HQn
  have HAn : Hid (Rs w1 av ats) := HA.out.kp K
  clear HA
  have HA := HAn
  clear HAn
  clear K
  go_wp2_with fail
  refine (atLeast_any _ _ p q _ HP.out HQ.out).mono ?_
  rintro e w2 ⟨rfl, hb⟩
  have K := Kp.of_below hb
  have B := hb
  clear hb
  have HBn : Hid (Below w.heap.size w w2) := below_step HB.out B
  clear HB B
  have HB := HBn
  clear HBn
  have HPn : Hid (Ms w2 v p) := HP.out.kp K
  clear HP
  have HP := HPn
  clear HPn
  have HQn : Hid (Ms w2 u q) := HQ.out.kp K
  clear HQ
  have HQ := HQn
  clear HQn
  have HAn : Hid (Rs w2 av ats) := HA.out.kp K
  clear HA
  have HA := HAn
  clear HAn
  clear K
  go_wp2_with fail
  refine (greater_any _ _ p q _ HP.out HQ.out).mono ?_
  rintro e w3 ⟨rfl, hb⟩
  have K := Kp.of_below hb
  have B := hb
  clear hb
  have HBn : Hid (Below w.heap.size w w3) := below_step HB.out B
  clear HB B
  have HB := HBn
  clear HBn
  have HPn : Hid (Ms w3 v p) := HP.out.kp K
  clear HP
  have HP := HPn
  clear HPn
  have HQn : Hid (Ms w3 u q) := HQ.out.kp K
  clear HQ
  have HQ := HQn
  clear HQn
  have HAn : Hid (Rs w3 av ats) := HA.out.kp K
  clear HA
  have HA := HAn
  clear HAn
  clear K
  cases hG : greaterB p q
  · clear hG
    cases hL : atLeastB p q
    · have HLt : Hid (atLeastB p q = false) := hL
      clear hL
      go_wp2_with fail
      refine (atLeast_any _ _ p p _ HP.out HP.out).mono ?_
      rintro e w4 ⟨rfl, hb⟩
      rw [atLeast_self]
      have K := Kp.of_below hb
      have B := hb
      clear hb
      have HBn : Hid (Below w.heap.size w w4) := below_step HB.out B
      clear HB B
      have HB := HBn
      clear HBn
      have HPn : Hid (Ms w4 v p) := HP.out.kp K
      clear HP
      have HP := HPn
      clear HPn
      have HQn : Hid (Ms w4 u q) := HQ.out.kp K
      clear HQ
      have HQ := HQn
      clear HQn
      have HAn : Hid (Rs w4 av ats) := HA.out.kp K
      clear HA
      have HA := HAn
      clear HAn
      clear K
      by_cases hC : checkE p 1099511627776 = 0
      · rw [decide_eq_true hC]
        have HC : Hid (checkE p 1099511627776 = 0) := hC
        clear hC
        go_wp2_with fail
        refine (check_any _ p 1099511627776 _ HP.out (by omega) (by omega)).mono ?_
        rintro e w5 ⟨rfl, hb⟩
        rw [HC.out]
        have K := Kp.of_below hb
        have B := hb
        clear hb
        have HBn : Hid (Below w.heap.size w w5) := below_step HB.out B
        clear HB B
        have HB := HBn
        clear HBn
        have HPn : Hid (Ms w5 v p) := HP.out.kp K
        clear HP
        have HP := HPn
        clear HPn
        have HQn : Hid (Ms w5 u q) := HQ.out.kp K
        clear HQ
        have HQ := HQn
        clear HQn
        have HAn : Hid (Rs w5 av ats) := HA.out.kp K
        clear HA
        have HA := HAn
        clear HAn
        clear K
        go_wp2_with fail
        refine (greater_any _ _ p p _ HP.out HP.out).mono ?_
        rintro e w6 ⟨rfl, hb⟩
        rw [greater_self]
        have K := Kp.of_below hb
        have B := hb
        clear hb
        have HBn : Hid (Below w.heap.size w w6) := below_step HB.out B
        clear HB B
        have HB := HBn
        clear HBn
        have HPn : Hid (Ms w6 v p) := HP.out.kp K
        clear HP
        have HP := HPn
        clear HPn
        have HQn : Hid (Ms w6 u q) := HQ.out.kp K
        clear HQ
        have HQ := HQn
        clear HQn
        have HAn : Hid (Rs w6 av ats) := HA.out.kp K
        clear HA
        have HA := HAn
        clear HAn
        clear K
        go_wp2_with fail
        refine (value_any _ _ p ats _ HP.out HA.out).mono ?_
        rintro e w7 ⟨va, rfl, sa, hb⟩
        have K := Kp.of_below hb
        have B := hb
        clear hb
        have HBn : Hid (Below w.heap.size w w7) := below_step HB.out B
        clear HB B
        have HB := HBn
        clear HBn
        have HPn : Hid (Ms w7 v p) := HP.out.kp K
        clear HP
        have HP := HPn
        clear HPn
        have HQn : Hid (Ms w7 u q) := HQ.out.kp K
        clear HQ
        have HQ := HQn
        clear HQn
        have HAn : Hid (Rs w7 av ats) := HA.out.kp K
        clear HA
        have HA := HAn
        clear HAn
        clear K
        have HVa : Hid (Sl w7 va (valL p ats)) := sa
        clear sa
        obtain ⟨E, hE⟩ : ∃ E, E = valE p ats := ⟨_, rfl⟩
        rw [← hE]
        clear hE
        go_wp2
        go_ret
        exact ⟨rfl, HB.out⟩
      · rw [decide_eq_false hC]
        have HC : Hid (¬ checkE p 1099511627776 = 0) := hC
        clear hC
        go_wp2_with fail
        refine (check_any _ p 1099511627776 _ HP.out (by omega) (by omega)).mono ?_
        rintro e w5 ⟨rfl, hb⟩
        have K := Kp.of_below hb
        have B := hb
        clear hb
        have HBn : Hid (Below w.heap.size w w5) := below_step HB.out B
        clear HB B
        have HB := HBn
        clear HBn
        have HPn : Hid (Ms w5 v p) := HP.out.kp K
        clear HP
        have HP := HPn
        clear HPn
        have HQn : Hid (Ms w5 u q) := HQ.out.kp K
        clear HQ
        have HQ := HQn
        clear HQn
        have HAn : Hid (Rs w5 av ats) := HA.out.kp K
        clear HA
        have HA := HAn
        clear HAn
        clear K
        obtain ⟨C, hC⟩ : ∃ C, C = checkE p 1099511627776 := ⟨_, rfl⟩
        rw [← hC]
        have hc0 : (C == 0) = false := by rw [beq_eq_false_iff_ne, hC]; exact HC.out
        clear hC
        go_wp2_with fail
        refine (greater_any _ _ p p _ HP.out HP.out).mono ?_
        rintro e w6 ⟨rfl, hb⟩
        rw [greater_self]
        have K := Kp.of_below hb
        have B := hb
        clear hb
        have HBn : Hid (Below w.heap.size w w6) := below_step HB.out B
        clear HB B
        have HB := HBn
        clear HBn
        have HPn : Hid (Ms w6 v p) := HP.out.kp K
        clear HP
        have HP := HPn
        clear HPn
        have HQn : Hid (Ms w6 u q) := HQ.out.kp K
        clear HQ
        have HQ := HQn
        clear HQn
        have HAn : Hid (Rs w6 av ats) := HA.out.kp K
        clear HA
        have HA := HAn
        clear HAn
        clear K
        go_wp2_with fail
        refine (value_any _ _ p ats _ HP.out HA.out).mono ?_
        rintro e w7 ⟨va, rfl, sa, hb⟩
        have K := Kp.of_below hb
        have B := hb
        clear hb
        have HBn : Hid (Below w.heap.size w w7) := below_step HB.out B
        clear HB B
        have HB := HBn
        clear HBn
        have HPn : Hid (Ms w7 v p) := HP.out.kp K
        clear HP
        have HP := HPn
        clear HPn
        have HQn : Hid (Ms w7 u q) := HQ.out.kp K
        clear HQ
        have HQ := HQn
        clear HQn
        have HAn : Hid (Rs w7 av ats) := HA.out.kp K
        clear HA
        have HA := HAn
        clear HAn
        clear K
        have HVa : Hid (Sl w7 va (valL p ats)) := sa
        clear sa
        obtain ⟨E, hE⟩ : ∃ E, E = valE p ats := ⟨_, rfl⟩
        rw [← hE]
        clear hE
        go_wp2
        go_ret
        exact ⟨rfl, HB.out⟩
    · have HLt : Hid (atLeastB p q = true) := hL
      clear hL
      go_wp2_with fail
      refine (atLeast_any _ _ p p _ HP.out HP.out).mono ?_
      rintro e w4 ⟨rfl, hb⟩
      rw [atLeast_self]
      have K := Kp.of_below hb
      have B := hb
      clear hb
      have HBn : Hid (Below w.heap.size w w4) := below_step HB.out B
      clear HB B
      have HB := HBn
      clear HBn
      have HPn : Hid (Ms w4 v p) := HP.out.kp K
      clear HP
      have HP := HPn
      clear HPn
      have HQn : Hid (Ms w4 u q) := HQ.out.kp K
      clear HQ
      have HQ := HQn
      clear HQn
      have HAn : Hid (Rs w4 av ats) := HA.out.kp K
      clear HA
      have HA := HAn
      clear HAn
      clear K
      by_cases hC : checkE p 1099511627776 = 0
      · rw [decide_eq_true hC]
        have HC : Hid (checkE p 1099511627776 = 0) := hC
        clear hC
        go_wp2_with fail
        refine (check_any _ p 1099511627776 _ HP.out (by omega) (by omega)).mono ?_
        rintro e w5 ⟨rfl, hb⟩
        rw [HC.out]
        have K := Kp.of_below hb
        have B := hb
        clear hb
        have HBn : Hid (Below w.heap.size w w5) := below_step HB.out B
        clear HB B
        have HB := HBn
        clear HBn
        have HPn : Hid (Ms w5 v p) := HP.out.kp K
        clear HP
        have HP := HPn
        clear HPn
        have HQn : Hid (Ms w5 u q) := HQ.out.kp K
        clear HQ
        have HQ := HQn
        clear HQn
        have HAn : Hid (Rs w5 av ats) := HA.out.kp K
        clear HA
        have HA := HAn
        clear HAn
        clear K
        go_wp2_with fail
        refine (greater_any _ _ p p _ HP.out HP.out).mono ?_
        rintro e w6 ⟨rfl, hb⟩
        rw [greater_self]
        have K := Kp.of_below hb
        have B := hb
        clear hb
        have HBn : Hid (Below w.heap.size w w6) := below_step HB.out B
        clear HB B
        have HB := HBn
        clear HBn
        have HPn : Hid (Ms w6 v p) := HP.out.kp K
        clear HP
        have HP := HPn
        clear HPn
        have HQn : Hid (Ms w6 u q) := HQ.out.kp K
        clear HQ
        have HQ := HQn
        clear HQn
        have HAn : Hid (Rs w6 av ats) := HA.out.kp K
        clear HA
        have HA := HAn
        clear HAn
        clear K
        go_wp2_with fail
        refine (value_any _ _ p ats _ HP.out HA.out).mono ?_
        rintro e w7 ⟨va, rfl, sa, hb⟩
        have K := Kp.of_below hb
        have B := hb
        clear hb
        have HBn : Hid (Below w.heap.size w w7) := below_step HB.out B
        clear HB B
        have HB := HBn
        clear HBn
        have HPn : Hid (Ms w7 v p) := HP.out.kp K
        clear HP
        have HP := HPn
        clear HPn
        have HQn : Hid (Ms w7 u q) := HQ.out.kp K
        clear HQ
        have HQ := HQn
        clear HQn
        have HAn : Hid (Rs w7 av ats) := HA.out.kp K
        clear HA
        have HA := HAn
        clear HAn
        clear K
        have HVa : Hid (Sl w7 va (valL p ats)) := sa
        clear sa
        by_cases hE : valE p ats = 0
        · have HE : Hid (valE p ats = 0) := hE
          rw [hE]
          clear hE
          have HW : Hid _ := least_worth HL.out HL'.out HF.out HLt.out HE.out
          go_wp2_with fail
          refine (value_any _ _ q ats _ HQ.out HA.out).mono ?_
          rintro e w8 ⟨vb, rfl, sb, hb⟩
          rw [HW.out.1]
          have K := Kp.of_below hb
          have B := hb
          clear hb
          have HBn : Hid (Below w.heap.size w w8) := below_step HB.out B
          clear HB B
          have HB := HBn
          clear HBn
          have HPn : Hid (Ms w8 v p) := HP.out.kp K
          clear HP
          have HP := HPn
          clear HPn
          have HQn : Hid (Ms w8 u q) := HQ.out.kp K
          clear HQ
          have HQ := HQn
          clear HQn
          have HAn : Hid (Rs w8 av ats) := HA.out.kp K
          clear HA
          have HA := HAn
          clear HAn
          have HVan : Hid (Sl w8 va (valL p ats)) := HVa.out.kp K
          clear HVa
          have HVa := HVan
          clear HVan
          clear K
          have HVb : Hid (Sl w8 vb (valL q ats)) := sb
          clear sb
          go_wp2_with fail
          refine (cmp_any _ _ (valL p ats) (valL q ats) _ HVa.out HVb.out).mono ?_
          rintro e w9 ⟨rfl, n, hw⟩
          rw [HW.out.2.1]
          have K := kp_drawn hw
          have B := below_drawn hw
          clear hw
          have HBn : Hid (Below w.heap.size w w9) := below_step HB.out B
          clear HB B
          have HB := HBn
          clear HBn
          have HPn : Hid (Ms w9 v p) := HP.out.kp K
          clear HP
          have HP := HPn
          clear HPn
          have HQn : Hid (Ms w9 u q) := HQ.out.kp K
          clear HQ
          have HQ := HQn
          clear HQn
          have HAn : Hid (Rs w9 av ats) := HA.out.kp K
          clear HA
          have HA := HAn
          clear HAn
          have HVan : Hid (Sl w9 va (valL p ats)) := HVa.out.kp K
          clear HVa
          have HVa := HVan
          clear HVan
          have HVbn : Hid (Sl w9 vb (valL q ats)) := HVb.out.kp K
          clear HVb
          have HVb := HVbn
          clear HVbn
          clear K
          obtain ⟨C2, hC2⟩ : ∃ C, C = cmpV (valL p ats) (valL q ats) := ⟨_, rfl⟩
          rw [← hC2]
          have hge : 0 ≤ C2 := by rw [hC2]; exact HW.out.2.2.1
          clear hC2 HW
          go_wp2
          go_ret
          exact ⟨rfl, HB.out⟩
        · obtain ⟨E, hE2⟩ : ∃ E, E = valE p ats := ⟨_, rfl⟩
          rw [← hE2]
          have he0 : (E != 0) = true := by rw [bne_iff_ne, hE2]; exact hE
          clear hE hE2
          go_wp2
          go_ret
          exact ⟨rfl, HB.out⟩
      · rw [decide_eq_false hC]
        have HC : Hid (¬ checkE p 1099511627776 = 0) := hC
        clear hC
        go_wp2_with fail
        refine (check_any _ p 1099511627776 _ HP.out (by omega) (by omega)).mono ?_
        rintro e w5 ⟨rfl, hb⟩
        have K := Kp.of_below hb
        have B := hb
        clear hb
        have HBn : Hid (Below w.heap.size w w5) := below_step HB.out B
        clear HB B
        have HB := HBn
        clear HBn
        have HPn : Hid (Ms w5 v p) := HP.out.kp K
        clear HP
        have HP := HPn
        clear HPn
        have HQn : Hid (Ms w5 u q) := HQ.out.kp K
        clear HQ
        have HQ := HQn
        clear HQn
        have HAn : Hid (Rs w5 av ats) := HA.out.kp K
        clear HA
        have HA := HAn
        clear HAn
        clear K
        obtain ⟨C, hC⟩ : ∃ C, C = checkE p 1099511627776 := ⟨_, rfl⟩
        rw [← hC]
        have hc0 : (C == 0) = false := by rw [beq_eq_false_iff_ne, hC]; exact HC.out
        clear hC
        go_wp2_with fail
        refine (greater_any _ _ p p _ HP.out HP.out).mono ?_
        rintro e w6 ⟨rfl, hb⟩
        rw [greater_self]
        have K := Kp.of_below hb
        have B := hb
        clear hb
        have HBn : Hid (Below w.heap.size w w6) := below_step HB.out B
        clear HB B
        have HB := HBn
        clear HBn
        have HPn : Hid (Ms w6 v p) := HP.out.kp K
        clear HP
        have HP := HPn
        clear HPn
        have HQn : Hid (Ms w6 u q) := HQ.out.kp K
        clear HQ
        have HQ := HQn
        clear HQn
        have HAn : Hid (Rs w6 av ats) := HA.out.kp K
        clear HA
        have HA := HAn
        clear HAn
        clear K
        go_wp2_with fail
        refine (value_any _ _ p ats _ HP.out HA.out).mono ?_
        rintro e w7 ⟨va, rfl, sa, hb⟩
        have K := Kp.of_below hb
        have B := hb
        clear hb
        have HBn : Hid (Below w.heap.size w w7) := below_step HB.out B
        clear HB B
        have HB := HBn
        clear HBn
        have HPn : Hid (Ms w7 v p) := HP.out.kp K
        clear HP
        have HP := HPn
        clear HPn
        have HQn : Hid (Ms w7 u q) := HQ.out.kp K
        clear HQ
        have HQ := HQn
        clear HQn
        have HAn : Hid (Rs w7 av ats) := HA.out.kp K
        clear HA
        have HA := HAn
        clear HAn
        clear K
        have HVa : Hid (Sl w7 va (valL p ats)) := sa
        clear sa
        by_cases hE : valE p ats = 0
        · have HE : Hid (valE p ats = 0) := hE
          rw [hE]
          clear hE
          have HW : Hid _ := least_worth HL.out HL'.out HF.out HLt.out HE.out
          go_wp2_with fail
          refine (value_any _ _ q ats _ HQ.out HA.out).mono ?_
          rintro e w8 ⟨vb, rfl, sb, hb⟩
          rw [HW.out.1]
          have K := Kp.of_below hb
          have B := hb
          clear hb
          have HBn : Hid (Below w.heap.size w w8) := below_step HB.out B
          clear HB B
          have HB := HBn
          clear HBn
          have HPn : Hid (Ms w8 v p) := HP.out.kp K
          clear HP
          have HP := HPn
          clear HPn
          have HQn : Hid (Ms w8 u q) := HQ.out.kp K
          clear HQ
          have HQ := HQn
          clear HQn
          have HAn : Hid (Rs w8 av ats) := HA.out.kp K
          clear HA
          have HA := HAn
          clear HAn
          have HVan : Hid (Sl w8 va (valL p ats)) := HVa.out.kp K
          clear HVa
          have HVa := HVan
          clear HVan
          clear K
          have HVb : Hid (Sl w8 vb (valL q ats)) := sb
          clear sb
          go_wp2_with fail
          refine (cmp_any _ _ (valL p ats) (valL q ats) _ HVa.out HVb.out).mono ?_
          rintro e w9 ⟨rfl, n, hw⟩
          rw [HW.out.2.1]
          have K := kp_drawn hw
          have B := below_drawn hw
          clear hw
          have HBn : Hid (Below w.heap.size w w9) := below_step HB.out B
          clear HB B
          have HB := HBn
          clear HBn
          have HPn : Hid (Ms w9 v p) := HP.out.kp K
          clear HP
          have HP := HPn
          clear HPn
          have HQn : Hid (Ms w9 u q) := HQ.out.kp K
          clear HQ
          have HQ := HQn
          clear HQn
          have HAn : Hid (Rs w9 av ats) := HA.out.kp K
          clear HA
          have HA := HAn
          clear HAn
          have HVan : Hid (Sl w9 va (valL p ats)) := HVa.out.kp K
          clear HVa
          have HVa := HVan
          clear HVan
          have HVbn : Hid (Sl w9 vb (valL q ats)) := HVb.out.kp K
          clear HVb
          have HVb := HVbn
          clear HVbn
          clear K
          obtain ⟨C2, hC2⟩ : ∃ C, C = cmpV (valL p ats) (valL q ats) := ⟨_, rfl⟩
          rw [← hC2]
          have hge : 0 ≤ C2 := by rw [hC2]; exact HW.out.2.2.1
          clear hC2 HW
          go_wp2
          go_ret
          exact ⟨rfl, HB.out⟩
        · obtain ⟨E, hE2⟩ : ∃ E, E = valE p ats := ⟨_, rfl⟩
          rw [← hE2]
          have he0 : (E != 0) = true := by rw [bne_iff_ne, hE2]; exact hE
          clear hE hE2
          go_wp2
          go_ret
          exact ⟨rfl, HB.out⟩
  · have HGt : Hid (greaterB p q = true) := hG
    have HLt : Hid (atLeastB p q = true) := (greater_least hG).1
    have HGq : Hid (greaterB q p = false) := (greater_least hG).2
    rw [HLt.out]
    clear hG
    go_wp2_with fail
    refine (greater_any _ _ q p _ HQ.out HP.out).mono ?_
    rintro e w4 ⟨rfl, hb⟩
    rw [HGq.out]
    have K := Kp.of_below hb
    have B := hb
    clear hb
    have HBn : Hid (Below w.heap.size w w4) := below_step HB.out B
    clear HB B
    have HB := HBn
    clear HBn
    have HPn : Hid (Ms w4 v p) := HP.out.kp K
    clear HP
    have HP := HPn
    clear HPn
    have HQn : Hid (Ms w4 u q) := HQ.out.kp K
    clear HQ
    have HQ := HQn
    clear HQn
    have HAn : Hid (Rs w4 av ats) := HA.out.kp K
    clear HA
    have HA := HAn
    clear HAn
    clear K
    go_wp2_with fail
    refine (atLeast_any _ _ p p _ HP.out HP.out).mono ?_
    rintro e w5 ⟨rfl, hb⟩
    rw [atLeast_self]
    have K := Kp.of_below hb
    have B := hb
    clear hb
    have HBn : Hid (Below w.heap.size w w5) := below_step HB.out B
    clear HB B
    have HB := HBn
    clear HBn
    have HPn : Hid (Ms w5 v p) := HP.out.kp K
    clear HP
    have HP := HPn
    clear HPn
    have HQn : Hid (Ms w5 u q) := HQ.out.kp K
    clear HQ
    have HQ := HQn
    clear HQn
    have HAn : Hid (Rs w5 av ats) := HA.out.kp K
    clear HA
    have HA := HAn
    clear HAn
    clear K
    by_cases hC : checkE p 1099511627776 = 0
    · rw [decide_eq_true hC]
      have HC : Hid (checkE p 1099511627776 = 0) := hC
      clear hC
      go_wp2_with fail
      refine (check_any _ p 1099511627776 _ HP.out (by omega) (by omega)).mono ?_
      rintro e w6 ⟨rfl, hb⟩
      rw [HC.out]
      have K := Kp.of_below hb
      have B := hb
      clear hb
      have HBn : Hid (Below w.heap.size w w6) := below_step HB.out B
      clear HB B
      have HB := HBn
      clear HBn
      have HPn : Hid (Ms w6 v p) := HP.out.kp K
      clear HP
      have HP := HPn
      clear HPn
      have HQn : Hid (Ms w6 u q) := HQ.out.kp K
      clear HQ
      have HQ := HQn
      clear HQn
      have HAn : Hid (Rs w6 av ats) := HA.out.kp K
      clear HA
      have HA := HAn
      clear HAn
      clear K
      go_wp2_with fail
      refine (greater_any _ _ p p _ HP.out HP.out).mono ?_
      rintro e w7 ⟨rfl, hb⟩
      rw [greater_self]
      have K := Kp.of_below hb
      have B := hb
      clear hb
      have HBn : Hid (Below w.heap.size w w7) := below_step HB.out B
      clear HB B
      have HB := HBn
      clear HBn
      have HPn : Hid (Ms w7 v p) := HP.out.kp K
      clear HP
      have HP := HPn
      clear HPn
      have HQn : Hid (Ms w7 u q) := HQ.out.kp K
      clear HQ
      have HQ := HQn
      clear HQn
      have HAn : Hid (Rs w7 av ats) := HA.out.kp K
      clear HA
      have HA := HAn
      clear HAn
      clear K
      go_wp2_with fail
      refine (value_any _ _ p ats _ HP.out HA.out).mono ?_
      rintro e w8 ⟨va, rfl, sa, hb⟩
      have K := Kp.of_below hb
      have B := hb
      clear hb
      have HBn : Hid (Below w.heap.size w w8) := below_step HB.out B
      clear HB B
      have HB := HBn
      clear HBn
      have HPn : Hid (Ms w8 v p) := HP.out.kp K
      clear HP
      have HP := HPn
      clear HPn
      have HQn : Hid (Ms w8 u q) := HQ.out.kp K
      clear HQ
      have HQ := HQn
      clear HQn
      have HAn : Hid (Rs w8 av ats) := HA.out.kp K
      clear HA
      have HA := HAn
      clear HAn
      clear K
      have HVa : Hid (Sl w8 va (valL p ats)) := sa
      clear sa
      by_cases hE : valE p ats = 0
      · have HE : Hid (valE p ats = 0) := hE
        rw [hE]
        clear hE
        have HW : Hid _ := least_worth HL.out HL'.out HF.out HLt.out HE.out
        go_wp2_with fail
        refine (value_any _ _ q ats _ HQ.out HA.out).mono ?_
        rintro e w9 ⟨vb, rfl, sb, hb⟩
        rw [HW.out.1]
        have K := Kp.of_below hb
        have B := hb
        clear hb
        have HBn : Hid (Below w.heap.size w w9) := below_step HB.out B
        clear HB B
        have HB := HBn
        clear HBn
        have HPn : Hid (Ms w9 v p) := HP.out.kp K
        clear HP
        have HP := HPn
        clear HPn
        have HQn : Hid (Ms w9 u q) := HQ.out.kp K
        clear HQ
        have HQ := HQn
        clear HQn
        have HAn : Hid (Rs w9 av ats) := HA.out.kp K
        clear HA
        have HA := HAn
        clear HAn
        have HVan : Hid (Sl w9 va (valL p ats)) := HVa.out.kp K
        clear HVa
        have HVa := HVan
        clear HVan
        clear K
        have HVb : Hid (Sl w9 vb (valL q ats)) := sb
        clear sb
        go_wp2_with fail
        refine (cmp_any _ _ (valL p ats) (valL q ats) _ HVa.out HVb.out).mono ?_
        rintro e w10 ⟨rfl, n, hw⟩
        rw [HW.out.2.1]
        have K := kp_drawn hw
        have B := below_drawn hw
        clear hw
        have HBn : Hid (Below w.heap.size w w10) := below_step HB.out B
        clear HB B
        have HB := HBn
        clear HBn
        have HPn : Hid (Ms w10 v p) := HP.out.kp K
        clear HP
        have HP := HPn
        clear HPn
        have HQn : Hid (Ms w10 u q) := HQ.out.kp K
        clear HQ
        have HQ := HQn
        clear HQn
        have HAn : Hid (Rs w10 av ats) := HA.out.kp K
        clear HA
        have HA := HAn
        clear HAn
        have HVan : Hid (Sl w10 va (valL p ats)) := HVa.out.kp K
        clear HVa
        have HVa := HVan
        clear HVan
        have HVbn : Hid (Sl w10 vb (valL q ats)) := HVb.out.kp K
        clear HVb
        have HVb := HVbn
        clear HVbn
        clear K
        obtain ⟨C2, hC2⟩ : ∃ C, C = cmpV (valL p ats) (valL q ats) := ⟨_, rfl⟩
        rw [← hC2]
        have hge : 0 ≤ C2 := by rw [hC2]; exact HW.out.2.2.1
        have hgt : 0 < C2 := by rw [hC2]; exact HW.out.2.2.2 HGt.out
        clear hC2 HW
        clear hge
        have hge : 0 ≤ C2 := by omega
        go_wp2
        go_ret
        exact ⟨rfl, HB.out⟩
      · obtain ⟨E, hE2⟩ : ∃ E, E = valE p ats := ⟨_, rfl⟩
        rw [← hE2]
        have he0 : (E != 0) = true := by rw [bne_iff_ne, hE2]; exact hE
        clear hE hE2
        go_wp2
        go_ret
        exact ⟨rfl, HB.out⟩
    · rw [decide_eq_false hC]
      have HC : Hid (¬ checkE p 1099511627776 = 0) := hC
      clear hC
      go_wp2_with fail
      refine (check_any _ p 1099511627776 _ HP.out (by omega) (by omega)).mono ?_
      rintro e w6 ⟨rfl, hb⟩
      have K := Kp.of_below hb
      have B := hb
      clear hb
      have HBn : Hid (Below w.heap.size w w6) := below_step HB.out B
      clear HB B
      have HB := HBn
      clear HBn
      have HPn : Hid (Ms w6 v p) := HP.out.kp K
      clear HP
      have HP := HPn
      clear HPn
      have HQn : Hid (Ms w6 u q) := HQ.out.kp K
      clear HQ
      have HQ := HQn
      clear HQn
      have HAn : Hid (Rs w6 av ats) := HA.out.kp K
      clear HA
      have HA := HAn
      clear HAn
      clear K
      obtain ⟨C, hC⟩ : ∃ C, C = checkE p 1099511627776 := ⟨_, rfl⟩
      rw [← hC]
      have hc0 : (C == 0) = false := by rw [beq_eq_false_iff_ne, hC]; exact HC.out
      clear hC
      go_wp2_with fail
      refine (greater_any _ _ p p _ HP.out HP.out).mono ?_
      rintro e w7 ⟨rfl, hb⟩
      rw [greater_self]
      have K := Kp.of_below hb
      have B := hb
      clear hb
      have HBn : Hid (Below w.heap.size w w7) := below_step HB.out B
      clear HB B
      have HB := HBn
      clear HBn
      have HPn : Hid (Ms w7 v p) := HP.out.kp K
      clear HP
      have HP := HPn
      clear HPn
      have HQn : Hid (Ms w7 u q) := HQ.out.kp K
      clear HQ
      have HQ := HQn
      clear HQn
      have HAn : Hid (Rs w7 av ats) := HA.out.kp K
      clear HA
      have HA := HAn
      clear HAn
      clear K
      go_wp2_with fail
      refine (value_any _ _ p ats _ HP.out HA.out).mono ?_
      rintro e w8 ⟨va, rfl, sa, hb⟩
      have K := Kp.of_below hb
      have B := hb
      clear hb
      have HBn : Hid (Below w.heap.size w w8) := below_step HB.out B
      clear HB B
      have HB := HBn
      clear HBn
      have HPn : Hid (Ms w8 v p) := HP.out.kp K
      clear HP
      have HP := HPn
      clear HPn
      have HQn : Hid (Ms w8 u q) := HQ.out.kp K
      clear HQ
      have HQ := HQn
      clear HQn
      have HAn : Hid (Rs w8 av ats) := HA.out.kp K
      clear HA
      have HA := HAn
      clear HAn
      clear K
      have HVa : Hid (Sl w8 va (valL p ats)) := sa
      clear sa
      by_cases hE : valE p ats = 0
      · have HE : Hid (valE p ats = 0) := hE
        rw [hE]
        clear hE
        have HW : Hid _ := least_worth HL.out HL'.out HF.out HLt.out HE.out
        go_wp2_with fail
        refine (value_any _ _ q ats _ HQ.out HA.out).mono ?_
        rintro e w9 ⟨vb, rfl, sb, hb⟩
        rw [HW.out.1]
        have K := Kp.of_below hb
        have B := hb
        clear hb
        have HBn : Hid (Below w.heap.size w w9) := below_step HB.out B
        clear HB B
        have HB := HBn
        clear HBn
        have HPn : Hid (Ms w9 v p) := HP.out.kp K
        clear HP
        have HP := HPn
        clear HPn
        have HQn : Hid (Ms w9 u q) := HQ.out.kp K
        clear HQ
        have HQ := HQn
        clear HQn
        have HAn : Hid (Rs w9 av ats) := HA.out.kp K
        clear HA
        have HA := HAn
        clear HAn
        have HVan : Hid (Sl w9 va (valL p ats)) := HVa.out.kp K
        clear HVa
        have HVa := HVan
        clear HVan
        clear K
        have HVb : Hid (Sl w9 vb (valL q ats)) := sb
        clear sb
        go_wp2_with fail
        refine (cmp_any _ _ (valL p ats) (valL q ats) _ HVa.out HVb.out).mono ?_
        rintro e w10 ⟨rfl, n, hw⟩
        rw [HW.out.2.1]
        have K := kp_drawn hw
        have B := below_drawn hw
        clear hw
        have HBn : Hid (Below w.heap.size w w10) := below_step HB.out B
        clear HB B
        have HB := HBn
        clear HBn
        have HPn : Hid (Ms w10 v p) := HP.out.kp K
        clear HP
        have HP := HPn
        clear HPn
        have HQn : Hid (Ms w10 u q) := HQ.out.kp K
        clear HQ
        have HQ := HQn
        clear HQn
        have HAn : Hid (Rs w10 av ats) := HA.out.kp K
        clear HA
        have HA := HAn
        clear HAn
        have HVan : Hid (Sl w10 va (valL p ats)) := HVa.out.kp K
        clear HVa
        have HVa := HVan
        clear HVan
        have HVbn : Hid (Sl w10 vb (valL q ats)) := HVb.out.kp K
        clear HVb
        have HVb := HVbn
        clear HVbn
        clear K
        obtain ⟨C2, hC2⟩ : ∃ C, C = cmpV (valL p ats) (valL q ats) := ⟨_, rfl⟩
        rw [← hC2]
        have hge : 0 ≤ C2 := by rw [hC2]; exact HW.out.2.2.1
        have hgt : 0 < C2 := by rw [hC2]; exact HW.out.2.2.2 HGt.out
        clear hC2 HW
        clear hge
        have hge : 0 ≤ C2 := by omega
        go_wp2
        go_ret
        exact ⟨rfl, HB.out⟩
      · obtain ⟨E, hE2⟩ : ∃ E, E = valE p ats := ⟨_, rfl⟩
        rw [← hE2]
        have he0 : (E != 0) = true := by rw [bne_iff_ne, hE2]; exact hE
        clear hE hE2
        go_wp2
        go_ret
        exact ⟨rfl, HB.out⟩

set_option maxRecDepth 100000 in
theorem polyGreater_lifted (os : Os) (started : os.Started) (H : Type) (enc : TypeId × Value → H) :
    ReturnsInHanded {} Try.checked os 5 .any (Rows.polyGreaterSpec.pre6 enc Try.prog Try.f5 Rows.polyGreaterRow.domain false) (Rows.polyGreaterSpec.post enc Try.prog Try.f5 false true false false) := by
  refine returnsInHanded_of_change (C := Try.checked) own started (by kernel_rfl) Try.func5
    (ChangeSpec.witness6 (enc := enc) (C := Try.checked) false ⟨#[], #[.slice none 0 0, .slice none 0 0, .slice none 0 0], []⟩ 8 (by kernel_rfl) (by kernel_rfl) (by kernel_rfl) (by kernel_rfl)) ?_
  intro W base args ds gs before hval0 hW hcnd _
  have hval : ∀ (j : Nat) t v, Try.f5.params[j]? = some t → args[j]? = some v → Value.okWide Try.prog W .any base t v := hval0
  have hW' := hW
  obtain ⟨p, q, hA0, hV, rfl, hfz, hnd⟩ := hW
  have hA : DataW.TrodAll enc Try.prog W 0 (fun _ => true) true Try.f5.params.toList args.toList ds p := hA0
  rw [Try.params5] at hA hval
  obtain ⟨v0, vs0, d0, ds0, p0, q0, hargs, rfl, rfl, h0, r0⟩ := trodAll_cons hA
  obtain ⟨v1, vs1, d1, ds1, p1, q1, rfl, rfl, rfl, h1, r1⟩ := trodAll_cons r0
  obtain ⟨v2, vs2, d2, ds2, p2, q2, rfl, rfl, rfl, h2, r2⟩ := trodAll_cons r1
  obtain ⟨rfl, rfl, rfl⟩ := trodAll_nil r2
  obtain rfl : args = #[v0, v1, v2] := by cases args; simp_all
  obtain ⟨rfl, rfl⟩ := trodVars_none hV
  obtain ⟨a0, len0, cap0, rfl⟩ := okWide_slice Try.underlying22 (hval 0 22 v0 rfl rfl)
  have k0 := h0
  have lt0 : ∀ x ∈ p0, x.block < W.heap.size := by obtain ⟨m, hm⟩ := k0; exact DataW.trod_lt m _ _ _ hm
  obtain ⟨z0, w0⟩ : ∃ zs, Ms W (.slice a0 len0 cap0) zs := by
    obtain ⟨fuel, hf⟩ := h0
    obtain ⟨v, zs, e, hz, hfit⟩ := open_monos hf
    simp [Value.cells] at e
    subst e
    exact ⟨zs, hz⟩
  obtain ⟨a1, len1, cap1, rfl⟩ := okWide_slice Try.underlying22 (hval 1 22 v1 rfl rfl)
  have k1 := h1
  have lt1 : ∀ x ∈ p1, x.block < W.heap.size := by obtain ⟨m, hm⟩ := k1; exact DataW.trod_lt m _ _ _ hm
  obtain ⟨z1, w1⟩ : ∃ zs, Ms W (.slice a1 len1 cap1) zs := by
    obtain ⟨fuel, hf⟩ := h1
    obtain ⟨v, zs, e, hz, hfit⟩ := open_monos hf
    simp [Value.cells] at e
    subst e
    exact ⟨zs, hz⟩
  obtain ⟨a2, len2, cap2, rfl⟩ := okWide_slice Try.underlying23 (hval 2 23 v2 rfl rfl)
  have k2 := h2
  have lt2 : ∀ x ∈ p2, x.block < W.heap.size := by obtain ⟨m, hm⟩ := k2; exact DataW.trod_lt m _ _ _ hm
  obtain ⟨z2, w2⟩ : ∃ zs, Rs W (.slice a2 len2 cap2) zs := by
    obtain ⟨fuel, hf⟩ := h2
    obtain ⟨v, zs, e, hz⟩ := open_rows hf
    simp [Value.cells] at e
    subst e
    exact ⟨zs, hz⟩
  clear hA0 hval0
  refine (polyGreater_any _ _ _ z0 z1 z2 W w0 w1 w2).mono fun e W' ⟨he, bel⟩ => ?_
  subst he
  exact ⟨_, rfl, _, _, _, [], _, [], hW', trodAll_mk1 (shut_bool Try.underlying4 _), (trodAll_cons_mk (Below.trod laidOut (by kernel_rfl) (of_decide_eq_true (by kernel_rfl)) k0 bel lt0) (trodAll_cons_mk (Below.trod laidOut (by kernel_rfl) (of_decide_eq_true (by kernel_rfl)) k1 bel lt1) (trodAll_cons_mk (Below.trod laidOut (by kernel_rfl) (of_decide_eq_true (by kernel_rfl)) k2 bel lt2) trodAll_mk0))), rfl, bel.frame _, fun h => by cases h⟩

theorem polyGreater_holds : Rows.PolyGreaterSaid :=
  OpenClaim.holds_of_wide 5 Try.f5 rfl rfl rfl rfl rfl rfl rfl ⟨rfl, rfl, rfl, rfl, rfl⟩ rfl rfl rfl rfl rfl (by kernel_rfl) Try.func5 (by kernel_rfl)
    (of_decide_eq_true (by kernel_rfl)) (by unfold Func.isWrapper; first | (rw [if_pos (by decide +kernel)]; kernel_rfl) | (rw [if_neg (by decide +kernel)]; exact ⟨rfl, rfl⟩))
    (fun os started H enc _ => polyGreater_lifted os started H enc)

#print axioms polyGreater_holds

end Go.Proofs.Ytfifgmcjilkigab
