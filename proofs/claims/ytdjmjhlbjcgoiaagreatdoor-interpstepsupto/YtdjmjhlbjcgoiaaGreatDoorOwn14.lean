/- Texts of the proof, one behind the other. -/
import Derived.Test.YtdjmjhlbjcgoiaaGreatDoorOwn13
import Derived.Deep.Quiet
import Derived.BigQuiet
import Derived.Test.YtdjmjhlbjcgoiaaGreatDoorOwn12
import Derived.Test.YtdjmjhlbjcgoiaaGreatDoorOwn9
import Derived.Deep.DeepAppendRoom
import Derived.Test.YtdjmjhlbjcgoiaaGreatDoorOwn11
set_option maxRecDepth 1000000
set_option maxHeartbeats 6400000
namespace Go.Proofs.YtdjmjhlbjcgoiaaGreatDoor
open Go.RowKit Go.Maps Go.BigFrame
theorem okR_no {p : List Mn} {vars : Int} {k : Nat} {m : Mn} (hk : p[k]? = some m) (h : (monB m && decide ((m.2.length : Int) ≤ vars)) = false) : okR p vars k = false := by
 unfold okR
 rw [hk]
 simp only [h, Bool.false_and]
theorem okR_0 {p : List Mn} {vars : Int} {m : Mn} (hk : p[0]? = some m) (h : (monB m && decide ((m.2.length : Int) ≤ vars)) = true) : okR p vars 0 = true := by
 unfold okR
 rw [hk]
 simp only [h]
 rfl
theorem okR_s {p : List Mn} {vars : Int} {j : Nat} {m n : Mn} (hk : p[j + 1]? = some m) (hj : p[j]? = some n) (h : (monB m && decide ((m.2.length : Int) ≤ vars)) = true) : okR p vars (j + 1) = decide (ordX n.2 m.2 < 0) := by
 unfold okR expsAt
 rw [hk, Nat.add_sub_cancel, hj]
 simp only [h, Bool.true_and, Option.map_some, Option.getD_some]
 rw [show (j + 1 == 0) = false from rfl, Bool.false_or]
theorem polyR_no {p : List Mn} {vars : Int} {k : Nat} (hk : k < p.length) (h : okR p vars k = false) : polyR p vars = false := by
 rw [Bool.eq_false_iff]
 intro hh
 rw [polyR_iff.1 hh k hk] at h
 cases h
theorem xCC {P : Program} {id : Nat} {Q : Exit → Act → World → Prop} {a : Act} {w : World} {l : List Oper} (hm : P.follows .mixedOrders = true) (hB : Region.lexB .any l.toArray = true)
  (h : wpQuiet P l.toArray (fun w' => Below w.heap.size w w') (fun a' => ∀ w', Below w.heap.size w w' → Q .normal a' w') l a) : (Code.region id l.toArray true).wp P Q a w :=
 wp_region_quiet (C := fun w' => Below w.heap.size w w') hm hB (Below.refl _ _).drew (by simpa using h)
theorem refCheck_anyY (v : Value) (p : List Mn) (vars : Int) (w : World) (h : Ms w v p) (hv1 : -9223372036854775808 ≤ vars) (hv2 : vars ≤ 9223372036854775807) :
  Calls Tryz.prog 42 #[v, .int .i64 vars] w fun e w' => e = .returned (.int .i64 (checkR p vars)) ∧ Below w.heap.size w w' := by
 by_cases h0 : vars < 0
 ·have HF : Hid (checkR p vars = 1) := by show _ = _; unfold checkR; rw [if_pos h0]
  go_enter Tryz.func42, Tryz.ntmps42
  go_wp2
  go_ret
  exact ⟨ret1i HF.out.symm, Below.refl _ _⟩
 have H0 : Hid (0 ≤ vars) := by show _ ≤ _; omega
 have hnn : 0 ≤ vars := by omega
 obtain ⟨ao, cap, rfl, hao, hca, q0⟩ := Row.flat h
 unfold maxLen at hca
 have HM : Hid (Ms w (.slice ao p.length cap) p) := h
 clear h q0 h0
 go_enter Tryz.func42, Tryz.ntmps42
 go_wp2
 go_loopw [5] (fun i wr => ∃ k : Nat, k ≤ p.length ∧ i = .int .i64 k ∧ (∀ j : Nat, j < k → okR p vars j = true) ∧ Below w.heap.size w wr) (fun i _ => p.length - (intOf i).toNat)
 case atStart => exact ⟨0, by omega, rfl, fun j hj => absurd hj (by omega), Below.refl _ _⟩
 case round =>
  obtain ⟨k, hk, rfl, hp, hbl⟩ := hrel
  have HP : Hid (∀ j : Nat, j < k → okR p vars j = true) := hp
  clear hp
  by_cases hlt : k < p.length
  ·have HMr : Hid (Ms wr (.slice ao p.length cap) p) := HM.out.kp (zK hbl)
   obtain ⟨g, off, c, es, a1, c1, a2, c2, rfl, hm1, hc0, hc1, hmo, hl1, hl2, hl3, hl4⟩ := HMr.out.at hlt
   have HX : Hid (p[k]? = some (c, es)) := hm1
   have HMo : Hid (Mo wr (.slice a1 c.length c1) (.slice a2 es.length c2) (c, es)) := hmo
   have HBd : Hid (Below w.heap.size w wr) := hbl
   clear hm1 hmo
   cases hmb : monB (c, es)
   ·have HF : Hid (checkR p vars = 20) := by
     show _ = _
     unfold checkR
     rw [if_neg (Int.not_lt.2 H0.out), if_pos (polyR_no hlt (okR_no HX.out (by rw [hmb]; rfl)))]
    have HMb : Hid (monB (c, es) = false) := hmb
    clear hmb
    go_wp2_with fail
    refine xCC (by kernel_rfl) (by kernel_rfl) ?_
    (go_big_quiet_want; go_big_quiet_op; go_big_quiet_on)
    (go_big_quiet_want; go_big_quiet_op; go_big_quiet_on)
    go_big_quiet_want
    refine ⟨.pointer (some ⟨g, off + k * 2, none⟩), fun w' hw' => ?_, ?_⟩
    ·unfold Oper.quietAt; go_simp
    simp only [Act.put, sA, sB, sC]
    go_big_quiet_on
    go_big_quiet_want
    refine ⟨.agg #[.slice a1 c.length c1, .slice a2 es.length c2], fun w' hw' => ?_, ?_⟩
    ·have hh0 := (zK hw').cell _ _ hc0; have hh1 := (zK hw').cell _ _ hc1; unfold Oper.quietAt; go_simp
    simp only [Act.put, sA, sB, sC]
    go_big_quiet_on
    go_big_quiet_want
    refine ⟨.bool false, fun w' hw' => ?_, ?_⟩
    ·unfold Oper.quietAt; go_simp; exact (xDF _ _ (c, es) _ (HMo.out.kp (zK hw'))).mono (fun e w1 ⟨he, hb⟩ => ⟨by rw [he, HMb.out], zS hw' hb⟩)
    simp only [Act.put, sA, sB, sC]
    go_big_quiet_on
    go_big_quiet_want
    refine ⟨.bool true, fun w' hw' => ?_, ?_⟩
    ·unfold Oper.quietAt; go_simp
    simp only [Act.put, sA, sB, sC]
    go_big_quiet_on
    (go_big_quiet_want; go_big_quiet_op; go_big_quiet_on)
    go_big_quiet_skip
    go_big_quiet_skip
    go_big_quiet_skip
    go_big_quiet_skip
    go_big_quiet_skip
    go_big_quiet_skip
    go_big_quiet_skip
    go_big_quiet_skip
    go_big_quiet_want
    refine ⟨.bool true, fun w' hw' => ?_, ?_⟩
    ·unfold Oper.quietAt; go_simp
    simp only [Act.put, sA, sB, sC]
    go_big_quiet_on
    (go_big_quiet_want; go_big_quiet_op; go_big_quiet_on)
    go_big_quiet_skip
    go_big_quiet_skip
    go_big_quiet_skip
    go_big_quiet_skip
    go_big_quiet_skip
    go_big_quiet_skip
    go_big_quiet_skip
    go_big_quiet_skip
    go_big_quiet_skip
    go_big_quiet_skip
    go_big_quiet_skip
    go_big_quiet_skip
    go_big_quiet_skip
    go_big_quiet_skip
    go_big_quiet_skip
    go_big_quiet_skip
    go_big_quiet_skip
    go_big_quiet_want
    refine ⟨.bool true, fun w' hw' => ?_, ?_⟩
    ·unfold Oper.quietAt; go_simp
    simp only [Act.put, sA, sB, sC]
    go_big_quiet_on
    refine wpQuiet_nil ?_
    intro w1 hb1
    go_wp2
    go_ret
    exact ⟨ret1i HF.out.symm, zS HBd.out hb1⟩
   have HMb : Hid (monB (c, es) = true) := hmb
   clear hmb
   by_cases hv : (es.length : Int) ≤ vars
   ·have hT : (monB (c, es) && decide (((c, es).2.length : Int) ≤ vars)) = true := by rw [HMb.out]; simpa using hv
    have HT : Hid ((monB (c, es) && decide (((c, es).2.length : Int) ≤ vars)) = true) := hT
    clear hT
    by_cases hk0 : k = 0
    ·subst hk0
     have HO : Hid (okR p vars 0 = true) := okR_0 HX.out HT.out
     rw [Nat.zero_mul, Nat.add_zero] at hc0 hc1
     go_wp2_with fail
     refine xCC (by kernel_rfl) (by kernel_rfl) ?_
     (go_big_quiet_want; go_big_quiet_op; go_big_quiet_on)
     (go_big_quiet_want; go_big_quiet_op; go_big_quiet_on)
     go_big_quiet_want
     refine ⟨.pointer (some ⟨g, off, none⟩), fun w' hw' => ?_, ?_⟩
     ·unfold Oper.quietAt; go_simp
     simp only [Act.put, sA, sB, sC]
     go_big_quiet_on
     go_big_quiet_want
     refine ⟨.agg #[.slice a1 c.length c1, .slice a2 es.length c2], fun w' hw' => ?_, ?_⟩
     ·have hh0 := (zK hw').cell _ _ hc0; have hh1 := (zK hw').cell _ _ hc1; unfold Oper.quietAt; go_simp
     simp only [Act.put, sA, sB, sC]
     go_big_quiet_on
     go_big_quiet_want
     refine ⟨.bool true, fun w' hw' => ?_, ?_⟩
     ·unfold Oper.quietAt; go_simp; exact (xDF _ _ (c, es) _ (HMo.out.kp (zK hw'))).mono (fun e w1 ⟨he, hb⟩ => ⟨by rw [he, HMb.out], zS hw' hb⟩)
     simp only [Act.put, sA, sB, sC]
     go_big_quiet_on
     go_big_quiet_want
     refine ⟨.bool false, fun w' hw' => ?_, ?_⟩
     ·unfold Oper.quietAt; go_simp
     simp only [Act.put, sA, sB, sC]
     go_big_quiet_on
     (go_big_quiet_want; go_big_quiet_op; go_big_quiet_on)
     (go_big_quiet_want; go_big_quiet_op; go_big_quiet_on)
     (go_big_quiet_want; go_big_quiet_op; go_big_quiet_on)
     go_big_quiet_want
     refine ⟨.pointer (some ⟨g, off, none⟩), fun w' hw' => ?_, ?_⟩
     ·unfold Oper.quietAt; go_simp
     simp only [Act.put, sA, sB, sC]
     go_big_quiet_on
     go_big_quiet_want
     refine ⟨.pointer (some ⟨g, off + 1, none⟩), fun w' hw' => ?_, ?_⟩
     ·unfold Oper.quietAt; go_simp
     simp only [Act.put, sA, sB, sC]
     go_big_quiet_on
     go_big_quiet_want
     refine ⟨.slice a2 es.length c2, fun w' hw' => ?_, ?_⟩
     ·have hh := (zK hw').cell _ _ hc1; unfold Oper.quietAt; go_simp
     simp only [Act.put, sA, sB, sC]
     go_big_quiet_on
     go_big_quiet_want
     refine ⟨.int .i64 (es.length : Int), fun w' hw' => ?_, ?_⟩
     ·unfold Oper.quietAt; go_simp
     simp only [Act.put, sA, sB, sC]
     go_big_quiet_on
     (go_big_quiet_want; go_big_quiet_op; go_big_quiet_on)
     go_big_quiet_want
     refine ⟨.bool false, fun w' hw' => ?_, ?_⟩
     ·unfold Oper.quietAt; go_simp
     simp only [Act.put, sA, sB, sC]
     go_big_quiet_on
     go_big_quiet_want
     refine ⟨.bool false, fun w' hw' => ?_, ?_⟩
     ·unfold Oper.quietAt; go_simp
     simp only [Act.put, sA, sB, sC]
     go_big_quiet_on
     (go_big_quiet_want; go_big_quiet_op; go_big_quiet_on)
     (go_big_quiet_want; go_big_quiet_op; go_big_quiet_on)
     go_big_quiet_want
     refine ⟨.bool false, fun w' hw' => ?_, ?_⟩
     ·unfold Oper.quietAt; go_simp
     simp only [Act.put, sA, sB, sC]
     go_big_quiet_on
     (go_big_quiet_want; go_big_quiet_op; go_big_quiet_on)
     go_big_quiet_skip
     go_big_quiet_skip
     go_big_quiet_skip
     go_big_quiet_skip
     go_big_quiet_skip
     go_big_quiet_skip
     go_big_quiet_skip
     go_big_quiet_skip
     go_big_quiet_skip
     go_big_quiet_skip
     go_big_quiet_skip
     go_big_quiet_skip
     go_big_quiet_skip
     go_big_quiet_want
     refine ⟨.bool false, fun w' hw' => ?_, ?_⟩
     ·unfold Oper.quietAt; go_simp
     simp only [Act.put, sA, sB, sC]
     go_big_quiet_on
     go_big_quiet_want
     refine ⟨.bool false, fun w' hw' => ?_, ?_⟩
     ·unfold Oper.quietAt; go_simp
     simp only [Act.put, sA, sB, sC]
     go_big_quiet_on
     refine wpQuiet_nil ?_
     intro w1 hb1
     have HB1 : Hid (Below w.heap.size w w1) := zS HBd.out hb1
     clear hb1
     go_wp2
     go_roundw
     case rel => exact ⟨1, by omega, by go_num, fun j hj => by obtain rfl : j = 0 := Nat.lt_one_iff.1 hj; exact HO.out, HB1.out⟩
     case measure => simp [intOf]; omega
    obtain ⟨j, rfl⟩ : ∃ j, k = j + 1 := ⟨k - 1, by omega⟩
    clear hk0
    obtain ⟨g', off', d, fs, b1, d1, b2, d2, hq, hm2, he0, he1, hmo2, hk1, hk2, hk3, hk4⟩ := HMr.out.at (k := j) (by omega)
    obtain ⟨rfl, rfl⟩ : g = g' ∧ off = off' := by simpa using hq
    have HX2 : Hid (p[j]? = some (d, fs)) := hm2
    have HI2 : Hid (Is wr (.slice b2 fs.length d2) fs) := hmo2.2
    have HO : Hid (okR p vars (j + 1) = decide (ordX fs es < 0)) := okR_s HX.out HX2.out HT.out
    obtain ⟨O, hO⟩ : ∃ O, O = ordX fs es := ⟨_, rfl⟩
    have HOe : Hid (O = ordX fs es) := hO
    rw [← hO] at HO
    clear hm2 hmo2 he0 hq hO
    have hg0 : (0 : Int) < (j : Int) + 1 := by omega
    have hg1 : (0 : Int) ≤ (j : Int) + 1 := by omega
    have HJw : Hid (IntKind.i64.wrap (j : Int) = (j : Int)) := yA _ ⟨by omega, by omega⟩
    have hjl : j < p.length := by omega
    by_cases hneg : O < 0
    ·obtain ⟨BO, hBO⟩ : ∃ B, B = false := ⟨_, rfl⟩
     have hdn : decide (0 ≤ O) = BO := by rw [hBO]; exact decide_eq_false (by omega)
     have HOk : Hid (okR p vars (j + 1) = true) := by show _ = _; rw [HO.out]; exact decide_eq_true hneg
     clear hneg
     go_wp2_with fail
     refine xCC (by kernel_rfl) (by kernel_rfl) ?_
     (go_big_quiet_want; go_big_quiet_op; go_big_quiet_on)
     (go_big_quiet_want; go_big_quiet_op; go_big_quiet_on)
     go_big_quiet_want
     refine ⟨.pointer (some ⟨g, off + (j + 1) * 2, none⟩), fun w' hw' => ?_, ?_⟩
     ·unfold Oper.quietAt; go_simp
     simp only [Act.put, sA, sB, sC]
     go_big_quiet_on
     go_big_quiet_want
     refine ⟨.agg #[.slice a1 c.length c1, .slice a2 es.length c2], fun w' hw' => ?_, ?_⟩
     ·have hh0 := (zK hw').cell _ _ hc0; have hh1 := (zK hw').cell _ _ hc1; unfold Oper.quietAt; go_simp
     simp only [Act.put, sA, sB, sC]
     go_big_quiet_on
     go_big_quiet_want
     refine ⟨.bool true, fun w' hw' => ?_, ?_⟩
     ·unfold Oper.quietAt; go_simp; exact (xDF _ _ (c, es) _ (HMo.out.kp (zK hw'))).mono (fun e w1 ⟨he, hb⟩ => ⟨by rw [he, HMb.out], zS hw' hb⟩)
     simp only [Act.put, sA, sB, sC]
     go_big_quiet_on
     go_big_quiet_want
     refine ⟨.bool false, fun w' hw' => ?_, ?_⟩
     ·unfold Oper.quietAt; go_simp
     simp only [Act.put, sA, sB, sC]
     go_big_quiet_on
     (go_big_quiet_want; go_big_quiet_op; go_big_quiet_on)
     (go_big_quiet_want; go_big_quiet_op; go_big_quiet_on)
     (go_big_quiet_want; go_big_quiet_op; go_big_quiet_on)
     go_big_quiet_want
     refine ⟨.pointer (some ⟨g, off + (j + 1) * 2, none⟩), fun w' hw' => ?_, ?_⟩
     ·unfold Oper.quietAt; go_simp
     simp only [Act.put, sA, sB, sC]
     go_big_quiet_on
     go_big_quiet_want
     refine ⟨.pointer (some ⟨g, off + (j + 1) * 2 + 1, none⟩), fun w' hw' => ?_, ?_⟩
     ·unfold Oper.quietAt; go_simp
     simp only [Act.put, sA, sB, sC]
     go_big_quiet_on
     go_big_quiet_want
     refine ⟨.slice a2 es.length c2, fun w' hw' => ?_, ?_⟩
     ·have hh := (zK hw').cell _ _ hc1; unfold Oper.quietAt; go_simp
     simp only [Act.put, sA, sB, sC]
     go_big_quiet_on
     go_big_quiet_want
     refine ⟨.int .i64 (es.length : Int), fun w' hw' => ?_, ?_⟩
     ·unfold Oper.quietAt; go_simp
     simp only [Act.put, sA, sB, sC]
     go_big_quiet_on
     (go_big_quiet_want; go_big_quiet_op; go_big_quiet_on)
     go_big_quiet_want
     refine ⟨.bool false, fun w' hw' => ?_, ?_⟩
     ·unfold Oper.quietAt; go_simp
     simp only [Act.put, sA, sB, sC]
     go_big_quiet_on
     go_big_quiet_want
     refine ⟨.bool false, fun w' hw' => ?_, ?_⟩
     ·unfold Oper.quietAt; go_simp
     simp only [Act.put, sA, sB, sC]
     go_big_quiet_on
     (go_big_quiet_want; go_big_quiet_op; go_big_quiet_on)
     (go_big_quiet_want; go_big_quiet_op; go_big_quiet_on)
     go_big_quiet_want
     refine ⟨.bool true, fun w' hw' => ?_, ?_⟩
     ·unfold Oper.quietAt; go_simp
     simp only [Act.put, sA, sB, sC]
     go_big_quiet_on
     (go_big_quiet_want; go_big_quiet_op; go_big_quiet_on)
     (go_big_quiet_want; go_big_quiet_op; go_big_quiet_on)
     (go_big_quiet_want; go_big_quiet_op; go_big_quiet_on)
     go_big_quiet_want
     refine ⟨.int .i64 (j : Int), fun w' hw' => ?_, ?_⟩
     ·unfold Oper.quietAt; go_simp; exact HJw.out
     simp only [Act.put, sA, sB, sC]
     go_big_quiet_on
     go_big_quiet_want
     refine ⟨.pointer (some ⟨g, off + j * 2, none⟩), fun w' hw' => ?_, ?_⟩
     ·unfold Oper.quietAt; go_simp
     simp only [Act.put, sA, sB, sC]
     go_big_quiet_on
     go_big_quiet_want
     refine ⟨.pointer (some ⟨g, off + j * 2 + 1, none⟩), fun w' hw' => ?_, ?_⟩
     ·unfold Oper.quietAt; go_simp
     simp only [Act.put, sA, sB, sC]
     go_big_quiet_on
     go_big_quiet_want
     refine ⟨.slice b2 fs.length d2, fun w' hw' => ?_, ?_⟩
     ·have hh := (zK hw').cell _ _ he1; unfold Oper.quietAt; go_simp
     simp only [Act.put, sA, sB, sC]
     go_big_quiet_on
     (go_big_quiet_want; go_big_quiet_op; go_big_quiet_on)
     (go_big_quiet_want; go_big_quiet_op; go_big_quiet_on)
     go_big_quiet_want
     refine ⟨.pointer (some ⟨g, off + (j + 1) * 2, none⟩), fun w' hw' => ?_, ?_⟩
     ·unfold Oper.quietAt; go_simp
     simp only [Act.put, sA, sB, sC]
     go_big_quiet_on
     go_big_quiet_want
     refine ⟨.pointer (some ⟨g, off + (j + 1) * 2 + 1, none⟩), fun w' hw' => ?_, ?_⟩
     ·unfold Oper.quietAt; go_simp
     simp only [Act.put, sA, sB, sC]
     go_big_quiet_on
     go_big_quiet_want
     refine ⟨.slice a2 es.length c2, fun w' hw' => ?_, ?_⟩
     ·have hh := (zK hw').cell _ _ hc1; unfold Oper.quietAt; go_simp
     simp only [Act.put, sA, sB, sC]
     go_big_quiet_on
     go_big_quiet_want
     refine ⟨.int .i64 O, fun w' hw' => ?_, ?_⟩
     ·unfold Oper.quietAt; go_simp; exact (refOrder_any _ _ fs es _ (HI2.out.kp (zK hw')) (HMo.out.2.kp (zK hw'))).mono (fun e w1 ⟨he, hw9⟩ => ⟨by rw [he, ← HOe.out], by rw [hw9]; exact hw'⟩)
     simp only [Act.put, sA, sB, sC]
     go_big_quiet_on
     go_big_quiet_want
     refine ⟨.bool BO, fun w' hw' => ?_, ?_⟩
     ·unfold Oper.quietAt; go_simp
     simp only [Act.put, sA, sB, sC]
     go_big_quiet_on
     go_big_quiet_want
     refine ⟨.bool BO, fun w' hw' => ?_, ?_⟩
     ·unfold Oper.quietAt; go_simp
     simp only [Act.put, sA, sB, sC]
     go_big_quiet_on
     go_big_quiet_want
     refine ⟨.bool BO, fun w' hw' => ?_, ?_⟩
     ·unfold Oper.quietAt; go_simp
     simp only [Act.put, sA, sB, sC]
     go_big_quiet_on
     refine wpQuiet_nil ?_
     intro w1 hb1
     subst hBO
     have HB1 : Hid (Below w.heap.size w w1) := zS HBd.out hb1
     clear hb1
     go_wp2
     go_roundw
     case rel =>
      refine ⟨j + 1 + 1, by omega, by go_num, fun i hi => ?_, HB1.out⟩
      by_cases hij : i = j + 1
      ·subst hij; exact HOk.out
      exact HP.out i (by omega)
     case measure => simp [intOf]; omega
    obtain ⟨BO, hBO⟩ : ∃ B, B = true := ⟨_, rfl⟩
    have hdn : decide (0 ≤ O) = BO := by rw [hBO]; exact decide_eq_true (by omega)
    have HF : Hid (checkR p vars = 20) := by
     show _ = _
     unfold checkR
     rw [if_neg (Int.not_lt.2 H0.out), if_pos (polyR_no hlt (HO.out.trans (decide_eq_false hneg)))]
    clear hneg
    go_wp2_with fail
    refine xCC (by kernel_rfl) (by kernel_rfl) ?_
    (go_big_quiet_want; go_big_quiet_op; go_big_quiet_on)
    (go_big_quiet_want; go_big_quiet_op; go_big_quiet_on)
    go_big_quiet_want
    refine ⟨.pointer (some ⟨g, off + (j + 1) * 2, none⟩), fun w' hw' => ?_, ?_⟩
    ·unfold Oper.quietAt; go_simp
    simp only [Act.put, sA, sB, sC]
    go_big_quiet_on
    go_big_quiet_want
    refine ⟨.agg #[.slice a1 c.length c1, .slice a2 es.length c2], fun w' hw' => ?_, ?_⟩
    ·have hh0 := (zK hw').cell _ _ hc0; have hh1 := (zK hw').cell _ _ hc1; unfold Oper.quietAt; go_simp
    simp only [Act.put, sA, sB, sC]
    go_big_quiet_on
    go_big_quiet_want
    refine ⟨.bool true, fun w' hw' => ?_, ?_⟩
    ·unfold Oper.quietAt; go_simp; exact (xDF _ _ (c, es) _ (HMo.out.kp (zK hw'))).mono (fun e w1 ⟨he, hb⟩ => ⟨by rw [he, HMb.out], zS hw' hb⟩)
    simp only [Act.put, sA, sB, sC]
    go_big_quiet_on
    go_big_quiet_want
    refine ⟨.bool false, fun w' hw' => ?_, ?_⟩
    ·unfold Oper.quietAt; go_simp
    simp only [Act.put, sA, sB, sC]
    go_big_quiet_on
    (go_big_quiet_want; go_big_quiet_op; go_big_quiet_on)
    (go_big_quiet_want; go_big_quiet_op; go_big_quiet_on)
    (go_big_quiet_want; go_big_quiet_op; go_big_quiet_on)
    go_big_quiet_want
    refine ⟨.pointer (some ⟨g, off + (j + 1) * 2, none⟩), fun w' hw' => ?_, ?_⟩
    ·unfold Oper.quietAt; go_simp
    simp only [Act.put, sA, sB, sC]
    go_big_quiet_on
    go_big_quiet_want
    refine ⟨.pointer (some ⟨g, off + (j + 1) * 2 + 1, none⟩), fun w' hw' => ?_, ?_⟩
    ·unfold Oper.quietAt; go_simp
    simp only [Act.put, sA, sB, sC]
    go_big_quiet_on
    go_big_quiet_want
    refine ⟨.slice a2 es.length c2, fun w' hw' => ?_, ?_⟩
    ·have hh := (zK hw').cell _ _ hc1; unfold Oper.quietAt; go_simp
    simp only [Act.put, sA, sB, sC]
    go_big_quiet_on
    go_big_quiet_want
    refine ⟨.int .i64 (es.length : Int), fun w' hw' => ?_, ?_⟩
    ·unfold Oper.quietAt; go_simp
    simp only [Act.put, sA, sB, sC]
    go_big_quiet_on
    (go_big_quiet_want; go_big_quiet_op; go_big_quiet_on)
    go_big_quiet_want
    refine ⟨.bool false, fun w' hw' => ?_, ?_⟩
    ·unfold Oper.quietAt; go_simp
    simp only [Act.put, sA, sB, sC]
    go_big_quiet_on
    go_big_quiet_want
    refine ⟨.bool false, fun w' hw' => ?_, ?_⟩
    ·unfold Oper.quietAt; go_simp
    simp only [Act.put, sA, sB, sC]
    go_big_quiet_on
    (go_big_quiet_want; go_big_quiet_op; go_big_quiet_on)
    (go_big_quiet_want; go_big_quiet_op; go_big_quiet_on)
    go_big_quiet_want
    refine ⟨.bool true, fun w' hw' => ?_, ?_⟩
    ·unfold Oper.quietAt; go_simp
    simp only [Act.put, sA, sB, sC]
    go_big_quiet_on
    (go_big_quiet_want; go_big_quiet_op; go_big_quiet_on)
    (go_big_quiet_want; go_big_quiet_op; go_big_quiet_on)
    (go_big_quiet_want; go_big_quiet_op; go_big_quiet_on)
    go_big_quiet_want
    refine ⟨.int .i64 (j : Int), fun w' hw' => ?_, ?_⟩
    ·unfold Oper.quietAt; go_simp; exact HJw.out
    simp only [Act.put, sA, sB, sC]
    go_big_quiet_on
    go_big_quiet_want
    refine ⟨.pointer (some ⟨g, off + j * 2, none⟩), fun w' hw' => ?_, ?_⟩
    ·unfold Oper.quietAt; go_simp
    simp only [Act.put, sA, sB, sC]
    go_big_quiet_on
    go_big_quiet_want
    refine ⟨.pointer (some ⟨g, off + j * 2 + 1, none⟩), fun w' hw' => ?_, ?_⟩
    ·unfold Oper.quietAt; go_simp
    simp only [Act.put, sA, sB, sC]
    go_big_quiet_on
    go_big_quiet_want
    refine ⟨.slice b2 fs.length d2, fun w' hw' => ?_, ?_⟩
    ·have hh := (zK hw').cell _ _ he1; unfold Oper.quietAt; go_simp
    simp only [Act.put, sA, sB, sC]
    go_big_quiet_on
    (go_big_quiet_want; go_big_quiet_op; go_big_quiet_on)
    (go_big_quiet_want; go_big_quiet_op; go_big_quiet_on)
    go_big_quiet_want
    refine ⟨.pointer (some ⟨g, off + (j + 1) * 2, none⟩), fun w' hw' => ?_, ?_⟩
    ·unfold Oper.quietAt; go_simp
    simp only [Act.put, sA, sB, sC]
    go_big_quiet_on
    go_big_quiet_want
    refine ⟨.pointer (some ⟨g, off + (j + 1) * 2 + 1, none⟩), fun w' hw' => ?_, ?_⟩
    ·unfold Oper.quietAt; go_simp
    simp only [Act.put, sA, sB, sC]
    go_big_quiet_on
    go_big_quiet_want
    refine ⟨.slice a2 es.length c2, fun w' hw' => ?_, ?_⟩
    ·have hh := (zK hw').cell _ _ hc1; unfold Oper.quietAt; go_simp
    simp only [Act.put, sA, sB, sC]
    go_big_quiet_on
    go_big_quiet_want
    refine ⟨.int .i64 O, fun w' hw' => ?_, ?_⟩
    ·unfold Oper.quietAt; go_simp; exact (refOrder_any _ _ fs es _ (HI2.out.kp (zK hw')) (HMo.out.2.kp (zK hw'))).mono (fun e w1 ⟨he, hw9⟩ => ⟨by rw [he, ← HOe.out], by rw [hw9]; exact hw'⟩)
    simp only [Act.put, sA, sB, sC]
    go_big_quiet_on
    go_big_quiet_want
    refine ⟨.bool BO, fun w' hw' => ?_, ?_⟩
    ·unfold Oper.quietAt; go_simp
    simp only [Act.put, sA, sB, sC]
    go_big_quiet_on
    go_big_quiet_want
    refine ⟨.bool BO, fun w' hw' => ?_, ?_⟩
    ·unfold Oper.quietAt; go_simp
    simp only [Act.put, sA, sB, sC]
    go_big_quiet_on
    go_big_quiet_want
    refine ⟨.bool BO, fun w' hw' => ?_, ?_⟩
    ·unfold Oper.quietAt; go_simp
    simp only [Act.put, sA, sB, sC]
    go_big_quiet_on
    refine wpQuiet_nil ?_
    intro w1 hb1
    subst hBO
    have HB1 : Hid (Below w.heap.size w w1) := zS HBd.out hb1
    clear hb1
    go_wp2
    go_ret
    exact ⟨ret1i HF.out.symm, HB1.out⟩
   have HF : Hid (checkR p vars = 20) := by
    show _ = _
    unfold checkR
    rw [if_neg (Int.not_lt.2 H0.out), if_pos (polyR_no hlt (okR_no HX.out (by rw [HMb.out]; simpa using hv)))]
   go_wp2_with fail
   refine xCC (by kernel_rfl) (by kernel_rfl) ?_
   (go_big_quiet_want; go_big_quiet_op; go_big_quiet_on)
   (go_big_quiet_want; go_big_quiet_op; go_big_quiet_on)
   go_big_quiet_want
   refine ⟨.pointer (some ⟨g, off + k * 2, none⟩), fun w' hw' => ?_, ?_⟩
   ·unfold Oper.quietAt; go_simp
   simp only [Act.put, sA, sB, sC]
   go_big_quiet_on
   go_big_quiet_want
   refine ⟨.agg #[.slice a1 c.length c1, .slice a2 es.length c2], fun w' hw' => ?_, ?_⟩
   ·have hh0 := (zK hw').cell _ _ hc0; have hh1 := (zK hw').cell _ _ hc1; unfold Oper.quietAt; go_simp
   simp only [Act.put, sA, sB, sC]
   go_big_quiet_on
   go_big_quiet_want
   refine ⟨.bool true, fun w' hw' => ?_, ?_⟩
   ·unfold Oper.quietAt; go_simp; exact (xDF _ _ (c, es) _ (HMo.out.kp (zK hw'))).mono (fun e w1 ⟨he, hb⟩ => ⟨by rw [he, HMb.out], zS hw' hb⟩)
   simp only [Act.put, sA, sB, sC]
   go_big_quiet_on
   go_big_quiet_want
   refine ⟨.bool false, fun w' hw' => ?_, ?_⟩
   ·unfold Oper.quietAt; go_simp
   simp only [Act.put, sA, sB, sC]
   go_big_quiet_on
   (go_big_quiet_want; go_big_quiet_op; go_big_quiet_on)
   (go_big_quiet_want; go_big_quiet_op; go_big_quiet_on)
   (go_big_quiet_want; go_big_quiet_op; go_big_quiet_on)
   go_big_quiet_want
   refine ⟨.pointer (some ⟨g, off + k * 2, none⟩), fun w' hw' => ?_, ?_⟩
   ·unfold Oper.quietAt; go_simp
   simp only [Act.put, sA, sB, sC]
   go_big_quiet_on
   go_big_quiet_want
   refine ⟨.pointer (some ⟨g, off + k * 2 + 1, none⟩), fun w' hw' => ?_, ?_⟩
   ·unfold Oper.quietAt; go_simp
   simp only [Act.put, sA, sB, sC]
   go_big_quiet_on
   go_big_quiet_want
   refine ⟨.slice a2 es.length c2, fun w' hw' => ?_, ?_⟩
   ·have hh := (zK hw').cell _ _ hc1; unfold Oper.quietAt; go_simp
   simp only [Act.put, sA, sB, sC]
   go_big_quiet_on
   go_big_quiet_want
   refine ⟨.int .i64 (es.length : Int), fun w' hw' => ?_, ?_⟩
   ·unfold Oper.quietAt; go_simp
   simp only [Act.put, sA, sB, sC]
   go_big_quiet_on
   (go_big_quiet_want; go_big_quiet_op; go_big_quiet_on)
   go_big_quiet_want
   refine ⟨.bool true, fun w' hw' => ?_, ?_⟩
   ·unfold Oper.quietAt; go_simp
   simp only [Act.put, sA, sB, sC]
   go_big_quiet_on
   go_big_quiet_want
   refine ⟨.bool true, fun w' hw' => ?_, ?_⟩
   ·unfold Oper.quietAt; go_simp
   simp only [Act.put, sA, sB, sC]
   go_big_quiet_on
   (go_big_quiet_want; go_big_quiet_op; go_big_quiet_on)
   go_big_quiet_skip
   go_big_quiet_skip
   go_big_quiet_skip
   go_big_quiet_skip
   go_big_quiet_skip
   go_big_quiet_skip
   go_big_quiet_skip
   go_big_quiet_skip
   go_big_quiet_skip
   go_big_quiet_skip
   go_big_quiet_skip
   go_big_quiet_skip
   go_big_quiet_skip
   go_big_quiet_skip
   go_big_quiet_skip
   go_big_quiet_skip
   go_big_quiet_skip
   go_big_quiet_want
   refine ⟨.bool true, fun w' hw' => ?_, ?_⟩
   ·unfold Oper.quietAt; go_simp
   simp only [Act.put, sA, sB, sC]
   go_big_quiet_on
   refine wpQuiet_nil ?_
   intro w1 hb1
   go_wp2
   go_ret
   exact ⟨ret1i HF.out.symm, zS HBd.out hb1⟩
  have HR : Hid (polyR p vars = true) := polyR_iff.2 fun j hj => HP.out j (by omega)
  have HBw : Hid (Below w.heap.size w wr) := hbl
  clear hbl
  go_wp2
  go_loopw [6] (fun i ws => ∃ l : Nat, l ≤ p.length ∧ i = .int .i64 l ∧ (∀ (j : Nat) (m : Mn), j < l → p[j]? = some m → smallR m = true) ∧ Below w.heap.size w ws) (fun i _ => p.length - (intOf i).toNat)
  case atStart => exact ⟨0, by omega, rfl, fun j m hj => absurd hj (by omega), HBw.out⟩
  case round =>
   obtain ⟨l, hl, rfl, hq, hbl⟩ := hrel
   have HQ : Hid (∀ (j : Nat) (m : Mn), j < l → p[j]? = some m → smallR m = true) := hq
   clear hq
   by_cases hll : l < p.length
   ·obtain ⟨g, off, c, es, a1, c1, a2, c2, rfl, hm1, hc0, hc1, hmo, hl1, hl2, hl3, hl4⟩ := (HM.out.kp (zK hbl)).at hll
    have HX : Hid (p[l]? = some (c, es)) := hm1
    have HMo : Hid (Mo wr (.slice a1 c.length c1) (.slice a2 es.length c2) (c, es)) := hmo
    have HBs : Hid (Below w.heap.size w wr) := hbl
    clear hm1 hmo hbl
    go_wp2_with fail
    refine (refSmall_any _ _ (c, es) _ HMo.out).mono ?_
    rintro e w1 ⟨rfl, hb1⟩
    have HB1 : Hid (Below w.heap.size w w1) := zS HBs.out hb1
    clear hb1 hc0 hc1
    cases hs : smallR (c, es)
    ·have HF : Hid (checkR p vars = 2) := by
      show _ = _
      unfold checkR
      have : p.all smallR = false := by rw [List.all_eq_false]; exact ⟨_, zD HX.out, by rw [hs]; simp⟩
      rw [if_neg (Int.not_lt.2 H0.out), HR.out, this, if_neg (by simp), if_pos rfl]
     clear hs
     go_wp2
     go_ret
     exact ⟨ret1i HF.out.symm, HB1.out⟩
    have HSm : Hid (smallR (c, es) = true) := hs
    clear hs
    go_wp2
    go_roundw
    case rel =>
     refine ⟨l + 1, by omega, by go_num, fun j m hj hm => ?_, HB1.out⟩
     by_cases hjl : j = l
     ·subst hjl; rw [HX.out] at hm; cases hm; exact HSm.out
     exact HQ.out j m (by omega) hm
    case measure => simp [intOf]; omega
   have HAll : Hid (p.all smallR = true) := by
    show _ = _
    rw [List.all_eq_true]
    intro m hm
    obtain ⟨j, hj⟩ := zW.1 hm
    exact HQ.out j m (by have := (zB.1 hj).1; omega) hj
   have HBs : Hid (Below w.heap.size w wr) := hbl
   clear hbl
   by_cases h256 : p.length ≤ 256
   ·have HF : Hid (checkR p vars = 0) := by
     show _ = _
     unfold checkR
     rw [if_neg (Int.not_lt.2 H0.out), HR.out, HAll.out, if_neg (by simp), if_neg (by simp), if_pos h256]
    go_wp2
    go_ret
    exact ⟨ret1i HF.out.symm, HBs.out⟩
   have HF : Hid (checkR p vars = 2) := by
    show _ = _
    unfold checkR
    rw [if_neg (Int.not_lt.2 H0.out), HR.out, HAll.out, if_neg (by simp), if_neg (by simp), if_neg h256]
   go_wp2
   go_ret
   exact ⟨ret1i HF.out.symm, HBs.out⟩
theorem polyB_two {p : List Mn} {a b : Int} (ha : ∀ m ∈ p, (m.2.length : Int) ≤ a) (hb : ∀ m ∈ p, (m.2.length : Int) ≤ b) : polyB p a = polyB p b := by
 rw [Bool.eq_iff_iff, xBD, xBD]
 exact ⟨fun h k hk => okAt_vars (h k hk) fun m hm => hb m (zD hm), fun h k hk => okAt_vars (h k hk) fun m hm => ha m (zD hm)⟩
theorem check_len {p : List Mn} {n : Nat} (h : checkE p 9223372036854775807 = 0) : checkE p (n : Int) = 0 ↔ varsN p ≤ n := by
 obtain ⟨h1, h2⟩ := (xDJ (by omega)).1 h
 rw [xDJ (by omega), varsN_iff]
 constructor
 ·rintro ⟨h3, _⟩ m hm
  have := (polyB_good h3 hm).2
  omega
 intro h3
 refine ⟨?_, h2⟩
 rw [polyB_two (b := 9223372036854775807) (fun m hm => by have := h3 m hm; omega) (fun m hm => (polyB_good h1 hm).2)]
 exact h1
theorem Ms.limA {w : World} {v : Value} {p : List Mn} (h : Ms w v p) : ∀ m ∈ p, Lim m.1 := by
 intro m hm
 obtain ⟨k, hk⟩ := zW.1 hm
 obtain ⟨ao, cap, rfl, _, _, hx⟩ := Row.flat h
 obtain ⟨g, off, x, _, hk2, cv, ev, _, _, hmo⟩ := hx k (zB.1 hk).1
 rw [hk] at hk2
 cases hk2
 exact hmo.1.1
theorem results_cell {P : Program} {fn : Func} {w : World} {tmps : Array Value} {t u : Tmp} {ty : TypeId} {ad : Addr} {v : Value} (h : fn.results = #[.cell t ty, .tmp u]) (ht : tmps.getD t undef = .pointer (some ad)) (hl : (loadVar ty ad).run P w = .ok v w) : (results fn tmps).run P w = .ok (.tuple #[v, tmps.getD u undef]) w := by
 have ht2 : tmps[t]?.getD undef = .pointer (some ad) := by simpa using ht
 simp [results, h, ht2, hl, asAddr]
def GT (T : Tm) : Prop := ∀ t ∈ T, t.1.length = 512 ∧ 1 ≤ t.2
theorem gt_mul {S T : Tm} (hS : GT S) (hT : GT T) : GT (mulT S T) := by
 intro t ht
 unfold mulT at ht
 obtain ⟨s, hs, ht⟩ := List.mem_flatMap.1 ht
 obtain ⟨u, hu, rfl⟩ := yL.1 ht
 obtain ⟨a1, a2⟩ := hS s hs
 obtain ⟨b1, b2⟩ := hT u hu
 refine ⟨?_, Nat.mul_pos a2 b2⟩
 unfold addK
 rw [List.length_zipWith, a1, b1]
 rfl
theorem gt_ofP {p : List Mn} (h : Pol p) : GT (ofP p) := by
 intro t ht
 obtain ⟨m, hm, rfl⟩ := yL.1 ht
 obtain ⟨j, hj⟩ := zW.1 hm
 obtain ⟨g1, g2, g3, _⟩ := h.good hm
 exact ⟨xBB (h.dom j m hj).1, val_pos g1 g2 g3⟩
theorem mul_ne {S T : Tm} (hS : S ≠ []) (hT : T ≠ []) : mulT S T ≠ [] := by
 cases S with
 | nil => exact absurd rfl hS
 | cons s S =>
  cases T with
  | nil => exact absurd rfl hT
  | cons t T =>
   rw [xBS]
   simp
theorem tot_pos_mem {T : Tm} {k : List Nat} : 1 ≤ tot T k → ∃ t ∈ T, t.1 = k := by
 induction T with
 | nil => intro h; simp [tot] at h
 | cons t T ih =>
  intro h
  simp only [tot] at h
  by_cases e : t.1 = k
  ·exact ⟨t, by simp, e⟩
  rw [if_neg e, Nat.zero_add] at h
  obtain ⟨u, hu, hk⟩ := ih h
  exact ⟨u, zT _ hu, hk⟩
theorem tot_shift {u : List Nat × Nat} (hu : 1 ≤ u.2) (T : Tm) (hT : GT T) (k : List Nat) : tot T k ≤ tot (T.map fun t => (addK t.1 u.1, t.2 * u.2)) (addK k u.1) := by
 induction T with
 | nil => simp [tot]
 | cons t T ih =>
  have ih := ih fun x hx => hT x (zT _ hx)
  simp only [yW, tot]
  by_cases e : t.1 = k
  ·subst e
   rw [if_pos rfl, if_pos rfl]
   have : t.2 * 1 ≤ t.2 * u.2 := Nat.mul_le_mul_left _ hu
   omega
  rw [if_neg e]
  omega
theorem tot_mul_ge {S T : Tm} {u : List Nat × Nat} (hu : u ∈ T) (hT : GT T) (hS : GT S) (k : List Nat) : tot S k ≤ tot (mulT S T) (addK k u.1) := by
 have h1 := tot_shift (hT u hu).2 S hS k
 refine Nat.le_trans h1 ?_
 clear h1
 obtain ⟨a, b, rfl⟩ := List.append_of_mem hu
 have h2 : ∀ (l : Tm) (k' : List Nat), tot (mulT S (u :: l)) k' = tot (S.map fun t => (addK t.1 u.1, t.2 * u.2)) k' + tot (mulT S l) k' := fun l k' => xCE u l k' S
 have h3 : ∀ (a l : Tm) (k' : List Nat), tot (mulT S l) k' ≤ tot (mulT S (a ++ l)) k' := by
  intro a
  induction a with
  | nil => intro l k'; exact Nat.le_refl _
  | cons x a ih =>
   intro l k'
   have := xCE x (a ++ l) k' S
   rw [yG, this]
   have := ih l k'
   omega
 have h4 := h3 a (u :: b) (addK k u.1)
 have h5 := h2 b (addK k u.1)
 omega
theorem addK_inj {a b c : List Nat} (ha : a.length = 512) (hb : b.length = 512) (hc : c.length = 512) (h : addK a c = addK b c) : a = b := by
 apply List.ext_getElem?
 intro i
 by_cases hi : i < 512
 ·have e : (addK a c)[i]? = (addK b c)[i]? := by rw [h]
  rw [zC (by omega), zC (by omega)]
  have ea := xFN (a := a) (b := c) (k := i) (zC (by omega)) (zC (by omega))
  have eb := xFN (a := b) (b := c) (k := i) (zC (by omega)) (zC (by omega))
  rw [ea, eb] at e
  simp only [zX] at e
  congr 1
  omega
 rw [yO (by omega), yO (by omega)]
theorem nodup_map_on {α β : Type} {f : α → β} : ∀ {l : List α}, (∀ x ∈ l, ∀ y ∈ l, f x = f y → x = y) → l.Nodup → (l.map f).Nodup
 | [], _, _ => by simp
 | a :: l, hf, hn => by
  rw [List.nodup_cons] at hn
  rw [yW, List.nodup_cons]
  refine ⟨fun h => ?_, nodup_map_on (fun x hx y hy => hf x (zT _ hx) y (zT _ hy)) hn.2⟩
  obtain ⟨b, hb, e⟩ := yL.1 h
  have := hf b (zT _ hb) a (by simp) e
  rw [this] at hb
  exact hn.1 hb
theorem ok_left {S T : Tm} (hS : GT S) (hT : GT T) (hne : T ≠ []) (h : OkF (tot (mulT S T))) : OkF (tot S) := by
 obtain ⟨u, hu⟩ := List.exists_mem_of_ne_nil T hne
 have hul := (hT u hu).1
 have hle := tot_mul_ge hu hT hS
 refine ⟨fun k => Nat.lt_of_le_of_lt (hle k) (h.1 _), fun k hk x hx => ?_, fun l hl hk => ?_⟩
 ·obtain ⟨t, ht, rfl⟩ := tot_pos_mem hk
  have htl := (hS t ht).1
  obtain ⟨i, hi⟩ := zW.1 hx
  have hi2 := (zB.1 hi).1
  have e := xFN (a := t.1) (b := u.1) (k := i) hi (zC (by omega))
  have := h.2.1 (addK t.1 u.1) (Nat.le_trans hk (hle _)) _ (zD e)
  omega
 have hlen : ∀ k ∈ l, k.length = 512 := fun k hkl => by
  obtain ⟨t, ht, e⟩ := tot_pos_mem (hk k hkl)
  rw [← e]
  exact (hS t ht).1
 have h2 := h.2.2 (l.map fun k => addK k u.1) (nodup_map_on (fun x hx y hy e => addK_inj (hlen x hx) (hlen y hy) hul e) hl) (fun k' hk' => by
  obtain ⟨k, hkl, rfl⟩ := yL.1 hk'
  exact Nat.le_trans (hk k hkl) (hle k))
 rw [zJ] at h2
 exact h2
theorem ok_right {S T : Tm} (hS : GT S) (hT : GT T) (hne : S ≠ []) (h : OkF (tot (mulT S T))) : OkF (tot T) := by
 rw [xDN] at h
 exact ok_left hT hS hne h
def pwT (f : Tm) : Nat → Tm
 | 0 => f
 | n + 1 => mulT (pwT f n) f
theorem pwT_add (f : Tm) (a : Nat) : ∀ b, mulT (pwT f a) (pwT f b) = pwT f (a + b + 1)
 | 0 => rfl
 | b + 1 => by
  show mulT (pwT f a) (mulT (pwT f b) f) = mulT (pwT f (a + b + 1)) f
  rw [← mulT_assoc, pwT_add f a b]
theorem gt_pwT {f : Tm} (h : GT f) : ∀ n, GT (pwT f n)
 | 0 => h
 | n + 1 => gt_mul (gt_pwT h n) h
theorem pwT_ne {f : Tm} (h : f ≠ []) : ∀ n, pwT f n ≠ []
 | 0 => h
 | n + 1 => mul_ne (pwT_ne h n) h
theorem pwT_mono {f : Tm} (hf : GT f) (hne : f ≠ []) {j k : Nat} (h : j ≤ k) (ho : OkF (tot (pwT f k))) : OkF (tot (pwT f j)) := by
 by_cases e : j = k
 ·rw [e]; exact ho
 obtain ⟨d, rfl⟩ : ∃ d, k = j + d + 1 := ⟨k - j - 1, by omega⟩
 rw [← pwT_add] at ho
 exact ok_left (gt_pwT hf j) (gt_pwT hf d) (pwT_ne hne d) ho
structure Rp (p : List Mn) (T : Tm) : Prop where
 pol : Pol p
 chk : checkE p 9223372036854775807 = 0
 tots : tot (ofP p) = tot T
theorem Rp.ok {p : List Mn} {T : Tm} (h : Rp p T) : OkF (tot T) := by
 obtain ⟨_, _, _, _, ho⟩ := h.pol.st
 rw [← h.tots]
 exact ho
theorem Rp.mul {p q : List Mn} {S T : Tm} (hp : Rp p S) (hq : Rp q T) : (prodE p q = 0 ∧ OkF (tot (mulT S T)) ∧ Rp (prodL p q) (mulT S T)) ∨ (prodE p q = 2 ∧ ¬ OkF (tot (mulT S T))) := by
 have e : tot (mulT (ofP p) (ofP q)) = tot (mulT S T) := (xFU hp.tots).trans (mul_congr_right hq.tots)
 by_cases ho : OkF (tot (mulT S T))
 ·rw [← e] at ho
  obtain ⟨a, b, c, d⟩ := prod_yes hp.pol hq.pol ho
  exact .inl ⟨a, e ▸ ho, b, c, d.trans e⟩
 rw [← e] at ho
 exact .inr ⟨(prod_no hp.pol hq.pol ho).1, e ▸ ho⟩
theorem Rp.eq {p q : List Mn} {T : Tm} (hp : Rp p T) (hq : Rp q T) : p = q := hp.pol.eq hq.pol (hp.tots.trans hq.tots.symm)
theorem pow_ring {f : List Mn} {F : Tm} (hf : Rp f F) (hF : GT F) (hne : F ≠ []) {n : Nat} : ∀ (b : Nat) (out : List Mn) (j : Nat), Rp out (pwT F j) → j + 1 = n / 2 ^ b →
  (OkF (tot (pwT F (n - 1))) → (powGo prodL prodE [] f n b out).2 = 0 ∧ Rp (powGo prodL prodE [] f n b out).1 (pwT F (n - 1))) ∧ (¬ OkF (tot (pwT F (n - 1))) → (powGo prodL prodE [] f n b out).2 = 2)
 | 0, out, j, ho, hj => by
  rw [Nat.pow_zero, Nat.div_one] at hj
  have e : n - 1 = j := by omega
  rw [e]
  exact ⟨fun _ => ⟨rfl, ho⟩, fun h => absurd ho.ok h⟩
 | b + 1, out, j, ho, hj => by
  have hb2 : n / 2 ^ (b + 1) = n / 2 ^ b / 2 := by rw [Nat.pow_succ, Nat.div_div_eq_div_mul]
  have hn : n / 2 ^ b ≤ n := Nat.div_le_self _ _
  unfold powGo
  have hsq : mulT (pwT F j) (pwT F j) = pwT F (2 * j + 1) := by rw [pwT_add]; congr 1; omega
  rcases ho.mul ho with ⟨e1, o1, r1⟩ | ⟨e1, o1⟩
  ·rw [if_pos e1]
   rw [hsq] at r1
   by_cases hbit : n / 2 ^ b % 2 = 1
   ·rw [if_pos hbit]
    have hst : mulT (pwT F (2 * j + 1)) F = pwT F (2 * j + 2) := rfl
    rcases r1.mul hf with ⟨e2, o2, r2⟩ | ⟨e2, o2⟩
    ·rw [if_pos e2]
     rw [hst] at r2
     exact pow_ring hf hF hne b _ (2 * j + 2) r2 (by omega)
    rw [if_neg (by rw [e2]; decide)]
    rw [hst] at o2
    exact ⟨fun h => absurd (pwT_mono hF hne (by omega) h) o2, fun _ => e2⟩
   rw [if_neg hbit]
   exact pow_ring hf hF hne b _ (2 * j + 1) r1 (by omega)
  rw [if_neg (by rw [e1]; decide)]
  rw [hsq] at o1
  exact ⟨fun h => absurd (pwT_mono hF hne (by omega) h) o1, fun _ => e1⟩
def wT : List Int → List (List Mn) → Tm → Tm
 | n :: es, f :: fs, C => if n = 0 then wT es fs C else wT es fs (mulT C (pwT (ofP f) (n.toNat - 1)))
 | [], _, C => C
 | _ :: _, [], C => C
theorem ofP_ne {p : List Mn} (h : ¬ p.length = 0) : ofP p ≠ [] := by
 cases p with
 | nil => exact absurd rfl h
 | cons m p => simp [ofP]
theorem wT_good : ∀ {es : List Int} {fs : List (List Mn)} {C : Tm}, (∀ f ∈ fs, Pol f) → (∀ x ∈ es, 0 ≤ x) → noughtB es fs = false → GT C → C ≠ [] → OkF (tot (wT es fs C)) → OkF (tot C)
 | [], _, C, _, _, _, _, _, h => h
 | _ :: _, [], C, _, _, _, _, _, h => h
 | n :: es, f :: fs, C, hf, hx, hn, hC, hne, h => by
  have hn2 : (decide (0 < n) && f.length == 0) = false ∧ noughtB es fs = false := by
   simp only [noughtB, List.zip_cons_cons, List.any_cons, Bool.or_eq_false_iff] at hn
   exact hn
  unfold wT at h
  by_cases h0 : n = 0
  ·rw [if_pos h0] at h
   exact wT_good (fun x hx => hf x (zT _ hx)) (fun x hx' => hx x (zT _ hx')) hn2.2 hC hne h
  rw [if_neg h0] at h
  have hpos : 0 < n := by have := hx n (by simp); omega
  have hfl : ¬ f.length = 0 := fun e => by
   have := hn2.1
   rw [decide_eq_true hpos, e] at this
   exact absurd this (by decide)
  have hg := gt_pwT (gt_ofP (hf f (by simp))) (n.toNat - 1)
  have hp := pwT_ne (ofP_ne hfl) (n.toNat - 1)
  exact ok_left hC hg hp (wT_good (fun x hx => hf x (zT _ hx)) (fun x hx' => hx x (zT _ hx')) hn2.2 (gt_mul hC hg) (mul_ne hne hp) h)
theorem worth_ring : ∀ {es : List Int} {fs : List (List Mn)} {c : List Mn} {C : Tm}, (∀ f ∈ fs, Ch f) → (∀ x ∈ es, 0 ≤ x ∧ x ≤ 64) → noughtB es fs = false → Rp c C → GT C → C ≠ [] →
  (OkF (tot (wT es fs C)) → (worthGo prodL prodE es fs c).2 = 0 ∧ Rp (worthGo prodL prodE es fs c).1 (wT es fs C)) ∧ (¬ OkF (tot (wT es fs C)) → (worthGo prodL prodE es fs c).2 = 2)
 | [], _, c, C, _, _, _, hc, _, _ => by
  unfold worthGo wT
  exact ⟨fun _ => ⟨rfl, hc⟩, fun h => absurd hc.ok h⟩
 | _ :: _, [], c, C, _, _, _, hc, _, _ => by
  unfold worthGo wT
  exact ⟨fun _ => ⟨rfl, hc⟩, fun h => absurd hc.ok h⟩
 | n :: es, f :: fs, c, C, hf, hx, hn, hc, hC, hne => by
  have hn2 : (decide (0 < n) && f.length == 0) = false ∧ noughtB es fs = false := by
   simp only [noughtB, List.zip_cons_cons, List.any_cons, Bool.or_eq_false_iff] at hn
   exact hn
  have hf2 : ∀ g ∈ fs, Ch g := fun x hx => hf x (zT _ hx)
  have hf3 : ∀ g ∈ fs, Pol g := fun x hx => (hf2 x hx).1
  have hx2 : ∀ x ∈ es, 0 ≤ x ∧ x ≤ 64 := fun x hx' => hx x (zT _ hx')
  have hx3 : ∀ x ∈ es, 0 ≤ x := fun x hx' => (hx2 x hx').1
  unfold worthGo wT
  by_cases h0 : n = 0
  ·rw [if_pos h0, if_pos h0]
   exact worth_ring hf2 hx2 hn2.2 hc hC hne
  rw [if_neg h0, if_neg h0]
  have hb := hx n (by simp)
  have hfl : ¬ f.length = 0 := fun e => by
   have := hn2.1
   rw [decide_eq_true (show 0 < n by omega), e] at this
   exact absurd this (by decide)
  have hfc := hf f (by simp)
  have hrf : Rp f (ofP f) := ⟨hfc.1, hfc.2, rfl⟩
  have hgf := gt_ofP hfc.1
  have hnf := ofP_ne hfl
  have hg := gt_pwT hgf (n.toNat - 1)
  have hp := pwT_ne hnf (n.toNat - 1)
  obtain ⟨p1, p2⟩ := pow_ring hrf hgf hnf (n := n.toNat) (Lib.bitLen n.toNat - 1) f 0 hrf (by rw [bit_top (by omega) (by omega)])
  by_cases ho : OkF (tot (pwT (ofP f) (n.toNat - 1)))
  ·obtain ⟨q1, q2⟩ := p1 ho
   rw [if_pos q1]
   rcases hc.mul q2 with ⟨e2, o2, r2⟩ | ⟨e2, o2⟩
   ·rw [if_pos e2]
    exact worth_ring hf2 hx2 hn2.2 r2 (gt_mul hC hg) (mul_ne hne hp)
   rw [if_neg (by rw [e2]; decide)]
   exact ⟨fun h => absurd (wT_good hf3 hx3 hn2.2 (gt_mul hC hg) (mul_ne hne hp) h) o2, fun _ => e2⟩
  have q1 := p2 ho
  rw [if_neg (by rw [q1]; decide)]
  refine ⟨fun h => absurd (ok_right hC hg hne (wT_good hf3 hx3 hn2.2 (gt_mul hC hg) (mul_ne hne hp) h)) ho, fun _ => q1⟩
def mulN (f : List Mn) : Nat → List Mn → List Mn × Int
 | 0, x => (x, 0)
 | n + 1, x => if mulPE x f = 0 then mulN f n (mulPL x f) else ([], mulPE x f)
def facR : List Int → List (List Mn) → List Mn → List Mn × Int
 | n :: es, f :: fs, x => if (mulN f n.toNat x).2 = 0 then facR es fs (mulN f n.toNat x).1 else ([], (mulN f n.toNat x).2)
 | [], _, x => (x, 0)
 | _ :: _, [], x => (x, 0)
theorem mulN_ring {f : List Mn} (hf : Ch f) (hne : ¬ f.length = 0) : ∀ (n : Nat) {x : List Mn} {X : Tm}, Rp x X → GT X → X ≠ [] →
  (OkF (tot (mulT X (pwT (ofP f) n))) → (mulN f (n + 1) x).2 = 0 ∧ Rp (mulN f (n + 1) x).1 (mulT X (pwT (ofP f) n))) ∧ (¬ OkF (tot (mulT X (pwT (ofP f) n))) → (mulN f (n + 1) x).2 = 2)
 | n, x, X, hx, hX, hXn => by
  have hrf : Rp f (ofP f) := ⟨hf.1, hf.2, rfl⟩
  have hgf := gt_ofP hf.1
  have hnf := ofP_ne hne
  obtain ⟨_, _, f1, f2⟩ := addP_of hx.chk hf.2
  unfold mulN
  rw [f1, f2]
  cases n with
  | zero =>
   rcases hx.mul hrf with ⟨e, o, r⟩ | ⟨e, o⟩
   ·rw [if_pos e]
    exact ⟨fun _ => ⟨rfl, r⟩, fun h => absurd o h⟩
   ·rw [if_neg (by rw [e]; decide)]
    exact ⟨fun h => absurd h o, fun _ => e⟩
  | succ n =>
   have hst : mulT (mulT X (ofP f)) (pwT (ofP f) n) = mulT X (pwT (ofP f) (n + 1)) := by
    rw [mulT_assoc]
    congr 1
    have := pwT_add (ofP f) 0 n
    rw [show 0 + n + 1 = n + 1 by omega] at this
    exact this
   rcases hx.mul hrf with ⟨e, o, r⟩ | ⟨e, o⟩
   ·rw [if_pos e]
    have := mulN_ring hf hne n r (gt_mul hX hgf) (mul_ne hXn hnf)
    rw [hst] at this
    exact this
   rw [if_neg (by rw [e]; decide)]
   refine ⟨fun h => absurd ?_ o, fun _ => e⟩
   rw [← hst] at h
   exact ok_left (gt_mul hX hgf) (gt_pwT hgf n) (pwT_ne hnf n) h
theorem fac_ring : ∀ {es : List Int} {fs : List (List Mn)} {c : List Mn} {C : Tm}, (∀ f ∈ fs, Ch f) → (∀ x ∈ es, 0 ≤ x ∧ x ≤ 64) → noughtB es fs = false → Rp c C → GT C → C ≠ [] →
  (OkF (tot (wT es fs C)) → (facR es fs c).2 = 0 ∧ Rp (facR es fs c).1 (wT es fs C)) ∧ (¬ OkF (tot (wT es fs C)) → (facR es fs c).2 = 2)
 | [], _, c, C, _, _, _, hc, _, _ => by
  unfold facR wT
  exact ⟨fun _ => ⟨rfl, hc⟩, fun h => absurd hc.ok h⟩
 | _ :: _, [], c, C, _, _, _, hc, _, _ => by
  unfold facR wT
  exact ⟨fun _ => ⟨rfl, hc⟩, fun h => absurd hc.ok h⟩
 | n :: es, f :: fs, c, C, hf, hx, hn, hc, hC, hne => by
  have hn2 : (decide (0 < n) && f.length == 0) = false ∧ noughtB es fs = false := by
   simp only [noughtB, List.zip_cons_cons, List.any_cons, Bool.or_eq_false_iff] at hn
   exact hn
  have hf2 : ∀ g ∈ fs, Ch g := fun x hx => hf x (zT _ hx)
  have hf3 : ∀ g ∈ fs, Pol g := fun x hx => (hf2 x hx).1
  have hx2 : ∀ x ∈ es, 0 ≤ x ∧ x ≤ 64 := fun x hx' => hx x (zT _ hx')
  have hx3 : ∀ x ∈ es, 0 ≤ x := fun x hx' => (hx2 x hx').1
  unfold facR wT
  by_cases h0 : n = 0
  ·subst h0
   rw [if_pos rfl]
   have e0 : mulN f (0 : Int).toNat c = (c, 0) := rfl
   rw [e0, if_pos rfl]
   exact fac_ring hf2 hx2 hn2.2 hc hC hne
  rw [if_neg h0]
  have hb := hx n (by simp)
  have hfl : ¬ f.length = 0 := fun e => by
   have := hn2.1
   rw [decide_eq_true (show 0 < n by omega), e] at this
   exact absurd this (by decide)
  have hfc := hf f (by simp)
  have hg := gt_pwT (gt_ofP hfc.1) (n.toNat - 1)
  have hp := pwT_ne (ofP_ne hfl) (n.toNat - 1)
  have hm := mulN_ring hfc hfl (n.toNat - 1) hc hC hne
  rw [show n.toNat - 1 + 1 = n.toNat by omega] at hm
  by_cases ho : OkF (tot (mulT C (pwT (ofP f) (n.toNat - 1))))
  ·obtain ⟨q1, q2⟩ := hm.1 ho
   rw [if_pos q1]
   exact fac_ring hf2 hx2 hn2.2 q2 (gt_mul hC hg) (mul_ne hne hp)
  have q1 := hm.2 ho
  rw [if_neg (by rw [q1]; decide)]
  exact ⟨fun h => absurd (wT_good hf3 hx3 hn2.2 (gt_mul hC hg) (mul_ne hne hp) h) ho, fun _ => q1⟩
theorem fac_worth {es : List Int} {fs : List (List Mn)} {c : List Mn} (hf : ∀ f ∈ fs, Ch f) (hx : ∀ x ∈ es, 0 ≤ x ∧ x ≤ 64) (hn : noughtB es fs = false) (hc : Ch c) (hne : ¬ c.length = 0) :
  (facR es fs c).2 = (worthGo prodL prodE es fs c).2 ∧ ((facR es fs c).2 = 0 → (facR es fs c).1 = (worthGo prodL prodE es fs c).1 ∧ Ch (facR es fs c).1) ∧ ((facR es fs c).2 = 0 ∨ (facR es fs c).2 = 2) := by
 have hr : Rp c (ofP c) := ⟨hc.1, hc.2, rfl⟩
 obtain ⟨a1, a2⟩ := worth_ring hf hx hn hr (gt_ofP hc.1) (ofP_ne hne)
 obtain ⟨b1, b2⟩ := fac_ring hf hx hn hr (gt_ofP hc.1) (ofP_ne hne)
 by_cases ho : OkF (tot (wT es fs (ofP c)))
 ·obtain ⟨x1, x2⟩ := a1 ho
  obtain ⟨y1, y2⟩ := b1 ho
  exact ⟨y1.trans x1.symm, fun _ => ⟨y2.eq x2, y2.pol, y2.chk⟩, .inl y1⟩
 have x1 := a2 ho
 have y1 := b2 ho
 exact ⟨y1.trans x1.symm, fun h => absurd (y1.symm.trans h) (by decide), .inr y1⟩
theorem ch_const {m : Mn} (hm : monB m = true) (hl : Lim m.1) : Ch [(m.1, [])] := by
 have h1 := xFI hm
 have hb : monB (m.1, []) = true := by
  unfold monB
  rw [h1.2.1]
  simpa using h1.1
 have hc : checkE [(m.1, [])] 9223372036854775807 = 0 := by
  rw [xDJ (by omega)]
  refine ⟨?_, by simp [boundsB, smallB]⟩
  rw [xBD]
  intro k hk
  have : k = 0 := by simpa using hk
  subst this
  unfold okAt
  simp [hb]
 exact ⟨Pol.of (fun n hn => by simp at hn; subst hn; exact hl) (by decide) hc, hc⟩
theorem Pol.tail {m : Mn} {p : List Mn} (h : Pol (m :: p)) : Pol p :=
 ⟨fun x hx => h.lim x (zT _ hx), fun x hx => h.mon x (zT _ hx), SortedX.tail h.sort, fun x hx => h.small x (zT _ hx), by have := h.len; simp at this; omega⟩
theorem sl_oneN {w : World} {g x : Nat} (hx : x < 4294967296) (h : w.cell? ⟨g, 0, none⟩ = some (.int .u32 (x : Int))) : Sl w (.slice (some ⟨g, 0, none⟩) 1 1) [x] := by
 refine ⟨by intro y hy; simp at hy; omega, _, 1, rfl, by simp, by simp [maxLen], fun _ => ⟨g, 0, rfl, yJ w _ h, ?_⟩⟩
 intro k y hk
 have hlt := (zB.1 hk).1
 match k, hlt with
 | 0, _ =>
  simp only [yQ, zX] at hk
  subst hk
  exact h
theorem is_oneI {w : World} {g : Nat} {a : Int} (ha : -9223372036854775808 ≤ a ∧ a ≤ 9223372036854775807) (h : w.cell? ⟨g, 0, none⟩ = some (.int .i64 a)) : Is w (.slice (some ⟨g, 0, none⟩) 1 1) [a] := by
 refine ⟨_, 1, rfl, by simp, by simp [maxLen], fun _ => ⟨g, 0, rfl, yJ w _ h, ?_⟩⟩
 intro k x hk
 have hlt := (zB.1 hk).1
 match k, hlt with
 | 0, _ =>
  simp only [yQ, zX] at hk
  subst hk
  exact ⟨ha.1, ha.2, h⟩
def EMs (w : World) (g : Nat) : Nat → List Mn → Prop
 | _, [] => True
 | o, m :: r => EM w g o m ∧ EMs w g (o + 2) r
theorem EMs.get {w : World} {g : Nat} : ∀ {p : List Mn} {o k : Nat} {m : Mn}, EMs w g o p → p[k]? = some m → EM w g (o + k * 2) m
 | [], _, _, _, _, h => by simp at h
 | x :: r, o, 0, m, h, hk => by
  simp at hk
  subst hk
  exact h.1
 | x :: r, o, k + 1, m, h, hk => by
  have := EMs.get h.2 (k := k) (by simpa using hk)
  rw [show o + (k + 1) * 2 = o + 2 + k * 2 by omega]
  exact this
theorem ms_lit {w : World} {g n : Nat} {p : List Mn} (hg : g < w.heap.size) (hn : n = p.length ∧ p.length ≤ 9) (h : EMs w g 0 p) : Ms w (.slice (some ⟨g, 0, none⟩) n n) p := by
 obtain ⟨rfl, hl⟩ := hn
 refine ⟨_, p.length, rfl, Nat.le_refl _, by unfold maxLen; omega, fun _ => ⟨g, 0, rfl, hg, fun k m hk => ?_⟩⟩
 have := h.get hk
 rwa [Nat.zero_add] at this ⊢
theorem checkAll_zero : ∀ {args : List (List Mn)}, (∀ x ∈ args, checkE x 9223372036854775807 = 0) → checkAllE args = 0
 | [], _ => rfl
 | a :: args, h => by
  simp only [checkAllE]
  rw [if_pos (h a (by simp))]
  exact checkAll_zero fun x hx => h x (zT _ hx)
end Go.Proofs.YtdjmjhlbjcgoiaaGreatDoor
