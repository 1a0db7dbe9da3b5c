/- Texts of the proof, one behind the other. -/
import Derived.Test.YtoapgbaibpkckaaGreatDoorOwn12
import Derived.Test.YtoapgbaibpkckaaGreatDoorOwn1
import Derived.Test.YtoapgbaibpkckaaGreatDoorOwn6
import Derived.Test.YtoapgbaibpkckaaGreatDoorOwn7
/- The estimate of package pairs in memory; mayStand, capOf, beginAlike walked. -/
namespace Go.Proofs.YtoapgbaibpkckaaGreatDoor
open Go.RowKit Go.Maps Go.BigFrame

/-- What a right system tells of its pairs. -/
def Est (w : World) (ev : Value) (sig : List Sy) (rs : List Rl) : Prop :=
  ∃ (so : Option Addr) (sc b : Nat) (dv : Value), ev = .agg #[.slice so (extL sig).length sc, .int .i64 (sig.length : Int), .func (.func 59) #[] #[.pointer (some ⟨b, 0, none⟩)]] ∧ Sg w (.slice so (extL sig).length sc) (extL sig) ∧ w.cell? ⟨b, 0, none⟩ = some dv ∧ Is w dv (definedL sig rs)

theorem Est.kp {w w' : World} {ev : Value} {sig : List Sy} {rs : List Rl} (h : Est w ev sig rs) (hk : Kp w w') : Est w' ev sig rs := by
  obtain ⟨so, sc, b, dv, e, h1, h2, h3⟩ := h
  exact ⟨so, sc, b, dv, e, h1.kp hk, hk.cell _ _ h2, h3.kp hk⟩

/-- Whether a term may stand on a side of a pair. -/
def standB (sig : List Sy) (t : List Int) : Bool := decide (t.length ≤ 512 ∧ termE (extL sig) t = 0 ∧ (sig.length : Int) ≤ (t[0]?).getD (-1))

set_option maxRecDepth 100000 in
set_option maxHeartbeats 1600000 in
theorem mayStand_any (ev tv : Value) (sig : List Sy) (rs : List Rl) (t : List Int) (w : World) (he : Est w ev sig rs) (ht : Is w tv t) (hT : Tabs w) (hl : t.length * 8 ≤ 140737488351232) :
    Calls Tryz.prog 65 #[ev, tv] w fun e w' => e = .returned (.bool (standB sig t)) ∧ Below w.heap.size w w' := by
  obtain ⟨so, sc, b, dv, rfl, hs, hb, hd⟩ := he
  obtain ⟨ta, tc, rfl, hta, htc, _⟩ := Row.flat ht
  unfold maxLen at htc
  obtain ⟨w0, hw0⟩ : ∃ X, X = w.alloc (.cells #[.slice so (extL sig).length sc, .int .i64 (sig.length : Int), .func (.func 59) #[] #[.pointer (some ⟨b, 0, none⟩)]] 69) := ⟨_, rfl⟩
  have C0 : Hid (Below w.heap.size w w0) := by rw [hw0]; exact below_alloc _
  have HC : Hid (∀ W, Below w0.heap.size w0 W → W.cell? ⟨w.heap.size, 0, none⟩ = some (.slice so (extL sig).length sc) ∧ W.cell? ⟨w.heap.size, 1, none⟩ = some (.int .i64 (sig.length : Int))) := fun W hW => by
    have hk := Kp.of_below hW
    rw [hw0] at hk
    exact ⟨hk.cell _ _ (cell_new rfl), hk.cell _ _ (cell_new rfl)⟩
  have HCk := hid fun W (hW : Below w.heap.size w W) => check_any _ _ (extL sig) t W (hs.kp (Kp.of_below hW)) (ht.kp (Kp.of_below hW)) (hT.below hW) (by omega)
  have HTt := hid ht
  clear hs ht hT hb hd
  by_cases hlen : t.length ≤ 512
  · by_cases hte : termE (extL sig) t = 0
    · have hpos := row_posS (term_parts hte).2
      obtain ⟨g, off, c, rfl, hc, hcx, hc1, hc2⟩ := HTt.out.at hpos
      rw [Nat.add_zero] at hcx
      have HS : Hid (standB sig t = decide ((sig.length : Int) ≤ c)) := by
        show _ = _
        unfold standB
        rw [decide_eq_decide, hc, Option.getD_some]
        exact ⟨fun h => h.2.2, fun h => ⟨hlen, hte, h⟩⟩
      have HTe := hid hte
      have HX := hid hcx
      clear hc hte hcx
      go_enter Tryz.func65, Tryz.ntmps65
      go_upto_region 1 with fail
      rw [← hw0]
      clear hw0
      have HCl : Hid (∀ W, Below w0.heap.size w0 W → Calls Tryz.prog 80 #[.slice so (extL sig).length sc, .slice (some ⟨g, off, none⟩) t.length tc] W fun e w' => e = .returned (.int .i64 0) ∧ Below W.heap.size W w') := fun W hW => by
        have h9 := HCk.out W (below_step C0.out hW)
        rw [HTe.out] at h9
        exact h9
      obtain ⟨x0, x1⟩ := HC.out w0 (Below.refl _ _)
      have x2 := (Kp.of_below C0.out).cell _ _ HX.out
      have hdl : decide ((t.length : Int) ≤ 512) = true := by rw [decide_eq_true_eq]; omega
      obtain ⟨bS, hbS⟩ : ∃ bS, bS = decide ((sig.length : Int) ≤ c) := ⟨_, rfl⟩
      have hcmp : decide (c ≥ (sig.length : Int)) = bS := hbS.symm
      rw [← hbS] at HS
      clear hbS
      refine region_below (by kernel_rfl) (by kernel_rfl) ?_
      -- Q:may1
      (go_big_quiet_want; go_big_quiet_op; go_big_quiet_on)
      go_big_quiet_want
      refine ⟨.int .i64 (t.length : Int), fun w' hw' => ?_, ?_⟩
      · unfold Oper.quietAt; go_simp
      simp only [Act.put, List.setIfInBounds_toArray, List.set_cons_zero, List.set_cons_succ]
      go_big_quiet_on
      go_big_quiet_want
      refine ⟨.bool true, fun w' hw' => ?_, ?_⟩
      · unfold Oper.quietAt; go_simp
      simp only [Act.put, List.setIfInBounds_toArray, List.set_cons_zero, List.set_cons_succ]
      go_big_quiet_on
      (go_big_quiet_want; go_big_quiet_op; go_big_quiet_on)
      go_big_quiet_want
      refine ⟨.pointer (some ⟨w.heap.size, 0, none⟩), fun w' hw' => ?_, ?_⟩
      · unfold Oper.quietAt; go_simp
      simp only [Act.put, List.setIfInBounds_toArray, List.set_cons_zero, List.set_cons_succ]
      go_big_quiet_on
      go_big_quiet_want
      refine ⟨.slice so (extL sig).length sc, fun w' hw' => ?_, ?_⟩
      · have hh0 := (Kp.of_below hw').cell _ _ x0; unfold Oper.quietAt; go_simp
      simp only [Act.put, List.setIfInBounds_toArray, List.set_cons_zero, List.set_cons_succ]
      go_big_quiet_on
      (go_big_quiet_want; go_big_quiet_op; go_big_quiet_on)
      go_big_quiet_want
      refine ⟨.int .i64 0, fun w' hw' => ?_, ?_⟩
      · unfold Oper.quietAt; go_simp; exact (HCl.out w' hw').mono (fun e w2 ⟨he, hb⟩ => ⟨he, below_step hw' hb⟩)
      simp only [Act.put, List.setIfInBounds_toArray, List.set_cons_zero, List.set_cons_succ]
      go_big_quiet_on
      go_big_quiet_want
      refine ⟨.bool true, fun w' hw' => ?_, ?_⟩
      · unfold Oper.quietAt; go_simp
      simp only [Act.put, List.setIfInBounds_toArray, List.set_cons_zero, List.set_cons_succ]
      go_big_quiet_on
      go_big_quiet_want
      refine ⟨.bool true, fun w' hw' => ?_, ?_⟩
      · unfold Oper.quietAt; go_simp
      simp only [Act.put, List.setIfInBounds_toArray, List.set_cons_zero, List.set_cons_succ]
      go_big_quiet_on
      (go_big_quiet_want; go_big_quiet_op; go_big_quiet_on)
      (go_big_quiet_want; go_big_quiet_op; go_big_quiet_on)
      go_big_quiet_want
      refine ⟨.pointer (some ⟨g, off, none⟩), fun w' hw' => ?_, ?_⟩
      · unfold Oper.quietAt; go_simp
      simp only [Act.put, List.setIfInBounds_toArray, List.set_cons_zero, List.set_cons_succ]
      go_big_quiet_on
      go_big_quiet_want
      refine ⟨.int .i64 c, fun w' hw' => ?_, ?_⟩
      · have hh0 := (Kp.of_below hw').cell _ _ x2; unfold Oper.quietAt; go_simp
      simp only [Act.put, List.setIfInBounds_toArray, List.set_cons_zero, List.set_cons_succ]
      go_big_quiet_on
      go_big_quiet_want
      refine ⟨.pointer (some ⟨w.heap.size, 1, none⟩), fun w' hw' => ?_, ?_⟩
      · unfold Oper.quietAt; go_simp
      simp only [Act.put, List.setIfInBounds_toArray, List.set_cons_zero, List.set_cons_succ]
      go_big_quiet_on
      go_big_quiet_want
      refine ⟨.int .i64 (sig.length : Int), fun w' hw' => ?_, ?_⟩
      · have hh0 := (Kp.of_below hw').cell _ _ x1; unfold Oper.quietAt; go_simp
      simp only [Act.put, List.setIfInBounds_toArray, List.set_cons_zero, List.set_cons_succ]
      go_big_quiet_on
      go_big_quiet_want
      refine ⟨.bool bS, fun w' hw' => ?_, ?_⟩
      · unfold Oper.quietAt; go_simp
      simp only [Act.put, List.setIfInBounds_toArray, List.set_cons_zero, List.set_cons_succ]
      go_big_quiet_on
      go_big_quiet_want
      refine ⟨.bool bS, fun w' hw' => ?_, ?_⟩
      · unfold Oper.quietAt; go_simp
      simp only [Act.put, List.setIfInBounds_toArray, List.set_cons_zero, List.set_cons_succ]
      go_big_quiet_on
      (go_big_quiet_want; go_big_quiet_op; go_big_quiet_on)
      refine wpQuiet_nil ?_
      -- E:may1
      intro w2 hb2
      have B2 := hid (below_step C0.out hb2)
      clear hb2
      go_wp2
      go_ret
      exact ⟨ret1b HS.out.symm, B2.out⟩
    · have HS : Hid (standB sig t = false) := by
        show _ = _
        unfold standB
        exact decide_eq_false fun h => hte h.2.1
      have hne : (termE (extL sig) t == 0) = false := by rw [beq_eq_false_iff_ne]; exact hte
      clear hte
      generalize termE (extL sig) t = z at hne HCk
      go_enter Tryz.func65, Tryz.ntmps65
      go_upto_region 1 with fail
      rw [← hw0]
      clear hw0
      have HCl : Hid (∀ W, Below w0.heap.size w0 W → Calls Tryz.prog 80 #[.slice so (extL sig).length sc, .slice ta t.length tc] W fun e w' => e = .returned (.int .i64 z) ∧ Below W.heap.size W w') := fun W hW => HCk.out W (below_step C0.out hW)
      obtain ⟨x0, x1⟩ := HC.out w0 (Below.refl _ _)
      have hdl : decide ((t.length : Int) ≤ 512) = true := by rw [decide_eq_true_eq]; omega
      refine region_below (by kernel_rfl) (by kernel_rfl) ?_
      -- Q:may2
      (go_big_quiet_want; go_big_quiet_op; go_big_quiet_on)
      go_big_quiet_want
      refine ⟨.int .i64 (t.length : Int), fun w' hw' => ?_, ?_⟩
      · unfold Oper.quietAt; go_simp
      simp only [Act.put, List.setIfInBounds_toArray, List.set_cons_zero, List.set_cons_succ]
      go_big_quiet_on
      go_big_quiet_want
      refine ⟨.bool true, fun w' hw' => ?_, ?_⟩
      · unfold Oper.quietAt; go_simp
      simp only [Act.put, List.setIfInBounds_toArray, List.set_cons_zero, List.set_cons_succ]
      go_big_quiet_on
      (go_big_quiet_want; go_big_quiet_op; go_big_quiet_on)
      go_big_quiet_want
      refine ⟨.pointer (some ⟨w.heap.size, 0, none⟩), fun w' hw' => ?_, ?_⟩
      · unfold Oper.quietAt; go_simp
      simp only [Act.put, List.setIfInBounds_toArray, List.set_cons_zero, List.set_cons_succ]
      go_big_quiet_on
      go_big_quiet_want
      refine ⟨.slice so (extL sig).length sc, fun w' hw' => ?_, ?_⟩
      · have hh0 := (Kp.of_below hw').cell _ _ x0; unfold Oper.quietAt; go_simp
      simp only [Act.put, List.setIfInBounds_toArray, List.set_cons_zero, List.set_cons_succ]
      go_big_quiet_on
      (go_big_quiet_want; go_big_quiet_op; go_big_quiet_on)
      go_big_quiet_want
      refine ⟨.int .i64 z, fun w' hw' => ?_, ?_⟩
      · unfold Oper.quietAt; go_simp; exact (HCl.out w' hw').mono (fun e w2 ⟨he, hb⟩ => ⟨he, below_step hw' hb⟩)
      simp only [Act.put, List.setIfInBounds_toArray, List.set_cons_zero, List.set_cons_succ]
      go_big_quiet_on
      go_big_quiet_want
      refine ⟨.bool false, fun w' hw' => ?_, ?_⟩
      · unfold Oper.quietAt; go_simp
      simp only [Act.put, List.setIfInBounds_toArray, List.set_cons_zero, List.set_cons_succ]
      go_big_quiet_on
      go_big_quiet_want
      refine ⟨.bool false, fun w' hw' => ?_, ?_⟩
      · unfold Oper.quietAt; go_simp
      simp only [Act.put, List.setIfInBounds_toArray, List.set_cons_zero, List.set_cons_succ]
      go_big_quiet_on
      (go_big_quiet_want; go_big_quiet_op; go_big_quiet_on)
      go_big_quiet_skip
      go_big_quiet_skip
      go_big_quiet_skip
      go_big_quiet_skip
      go_big_quiet_skip
      go_big_quiet_skip
      go_big_quiet_want
      refine ⟨.bool false, fun w' hw' => ?_, ?_⟩
      · unfold Oper.quietAt; go_simp
      simp only [Act.put, List.setIfInBounds_toArray, List.set_cons_zero, List.set_cons_succ]
      go_big_quiet_on
      (go_big_quiet_want; go_big_quiet_op; go_big_quiet_on)
      refine wpQuiet_nil ?_
      -- E:may2
      intro w2 hb2
      have B2 := hid (below_step C0.out hb2)
      clear hb2
      go_wp2
      go_ret
      exact ⟨ret1b HS.out.symm, B2.out⟩
  · have HS : Hid (standB sig t = false) := by
      show _ = _
      unfold standB
      exact decide_eq_false fun h => hlen h.1
    have hdl : decide ((t.length : Int) ≤ 512) = false := by rw [decide_eq_false_iff_not]; omega
    go_enter Tryz.func65, Tryz.ntmps65
    go_upto_region 1 with fail
    rw [← hw0]
    clear hw0
    refine region_below (by kernel_rfl) (by kernel_rfl) ?_
    -- Q:may3
    (go_big_quiet_want; go_big_quiet_op; go_big_quiet_on)
    go_big_quiet_want
    refine ⟨.int .i64 (t.length : Int), fun w' hw' => ?_, ?_⟩
    · unfold Oper.quietAt; go_simp
    simp only [Act.put, List.setIfInBounds_toArray, List.set_cons_zero, List.set_cons_succ]
    go_big_quiet_on
    go_big_quiet_want
    refine ⟨.bool false, fun w' hw' => ?_, ?_⟩
    · unfold Oper.quietAt; go_simp
    simp only [Act.put, List.setIfInBounds_toArray, List.set_cons_zero, List.set_cons_succ]
    go_big_quiet_on
    (go_big_quiet_want; go_big_quiet_op; go_big_quiet_on)
    go_big_quiet_skip
    go_big_quiet_skip
    go_big_quiet_skip
    go_big_quiet_skip
    go_big_quiet_skip
    go_big_quiet_want
    refine ⟨.bool false, fun w' hw' => ?_, ?_⟩
    · unfold Oper.quietAt; go_simp
    simp only [Act.put, List.setIfInBounds_toArray, List.set_cons_zero, List.set_cons_succ]
    go_big_quiet_on
    (go_big_quiet_want; go_big_quiet_op; go_big_quiet_on)
    go_big_quiet_skip
    go_big_quiet_skip
    go_big_quiet_skip
    go_big_quiet_skip
    go_big_quiet_skip
    go_big_quiet_skip
    go_big_quiet_want
    refine ⟨.bool false, fun w' hw' => ?_, ?_⟩
    · unfold Oper.quietAt; go_simp
    simp only [Act.put, List.setIfInBounds_toArray, List.set_cons_zero, List.set_cons_succ]
    go_big_quiet_on
    (go_big_quiet_want; go_big_quiet_op; go_big_quiet_on)
    refine wpQuiet_nil ?_
    -- E:may3
    intro w2 hb2
    have B2 := hid (below_step C0.out hb2)
    clear hb2
    go_wp2
    go_ret
    exact ⟨ret1b HS.out.symm, B2.out⟩

theorem own_one13 {w : World} {c : Int} (h1 : -9223372036854775808 ≤ c) (h2 : c ≤ 9223372036854775807) : OwI (w.alloc (.cells #[.int .i64 c] 3)) w.heap.size (.slice (some ⟨w.heap.size, 0, none⟩) 1 1) [c] := by
  refine ⟨fun k x hk => ?_, ⟨rfl, .inr ⟨w.heap.size, 1, #[.int .i64 c], rfl, Nat.le_refl _, heap_alloc_new _ _, Nat.le_refl _, by simp [maxLen], rfl, rfl⟩⟩⟩
  have hk0 : k = 0 := by have := (List.getElem?_eq_some_iff.1 hk).1; simp at this; omega
  subst hk0
  cases hk
  exact ⟨h1, h2⟩

set_option maxRecDepth 100000 in
set_option maxHeartbeats 1600000 in
theorem capOf_any (ev tv : Value) (sig : List Sy) (rs : List Rl) (t : List Int) (w : World) (he : Est w ev sig rs) (ht : Is w tv t) (ha : ArOk (extL sig)) (hr : rowE (extL sig) t = 0) (h0 : 0 ≤ (t[0]?).getD (-1)) (hl : t.length ≤ 512) (hdn : (definedL sig rs).length ≤ 64) :
    Calls Tryz.prog 66 #[ev, tv] w fun e w' => ∃ v', e = .returned v' ∧ OwI w' w.heap.size v' (capL (extL sig) (definedL sig rs) t) ∧ Below w.heap.size w w' := by
  obtain ⟨so, sc, b, dv, rfl, hs, hb, hd⟩ := he
  obtain ⟨ta, tc, rfl, hta, htc, _⟩ := Row.flat ht
  unfold maxLen at htc
  obtain ⟨w0, hw0⟩ : ∃ X, X = w.alloc (.cells #[.slice so (extL sig).length sc, .int .i64 (sig.length : Int), .func (.func 59) #[] #[.pointer (some ⟨b, 0, none⟩)]] 69) := ⟨_, rfl⟩
  have C0 : Hid (Below w.heap.size w w0) := by rw [hw0]; exact below_alloc _
  have HC : Hid (∀ W, Below w0.heap.size w0 W → W.cell? ⟨w.heap.size, 0, none⟩ = some (.slice so (extL sig).length sc) ∧ W.cell? ⟨w.heap.size, 2, none⟩ = some (.func (.func 59) #[] #[.pointer (some ⟨b, 0, none⟩)])) := fun W hW => by
    have hk := Kp.of_below hW
    rw [hw0] at hk
    exact ⟨hk.cell _ _ (cell_new rfl), hk.cell _ _ (cell_new rfl)⟩
  have hpos := row_posS hr
  obtain ⟨g, off, c0, rfl, hc, hcx, hc1, hc2⟩ := ht.at hpos
  rw [Nat.add_zero] at hcx
  have HTt := hid ht
  have HS := hid hs
  have HA := hid ha
  have HDf : Hid (∀ (W : World) (c : Int), Below w.heap.size w W → Calls Tryz.prog 59 #[.int .i64 c, .pointer (some ⟨b, 0, none⟩)] W fun e w' => e = .returned (.bool (decide (c ∈ definedL sig rs))) ∧ Below W.heap.size W w') := fun W c hW => isDefined_any c b dv _ W ((Kp.of_below hW).cell _ _ hb) (hd.kp (Kp.of_below hW)) (defined_up sig rs) hdn
  generalize definedL sig rs = D at HDf ⊢
  have hc0 : 0 ≤ c0 := by rw [hc] at h0; simpa using h0
  have hR : capL (extL sig) D t = [c0] ++ (capG (extL sig) D (t.length - 1) 0 (t.drop 1)).1 := by
    cases t with
    | nil => simp at hpos
    | cons x r =>
      simp only [List.getElem?_cons_zero, Option.some.injEq] at hc
      subst hc
      rfl
  have hM : 1 = t.length ∨ ∃ m : Int, 1 ≤ m ∧ firstT (extL sig) m 1 (t.drop 1) = ((t.length : Int), 0) := by
    cases t with
    | nil => simp at hpos
    | cons x r =>
      have h9 := row_first.1 hr
      obtain ⟨x', r', d, e1, e2, e3⟩ := first_round h9
      cases e1
      rcases e3 with ⟨_, e3⟩ | ⟨e3, e4⟩
      · exact .inl (by simp only [List.length_cons] at e3 ⊢; omega)
      · exact .inr ⟨1 + d, by have := codeD_ge ha e2; omega, by simpa using e4⟩
  obtain ⟨R, hRe⟩ : ∃ R, R = capL (extL sig) D t := ⟨_, rfl⟩
  rw [← hRe] at hR ⊢
  obtain ⟨W1, hW1⟩ : ∃ X, X = w0.alloc (.cells #[.int .i64 c0] 3) := ⟨_, rfl⟩
  have HO1 : Hid (OwI W1 w0.heap.size (.slice (some ⟨w0.heap.size, 0, none⟩) 1 1) [c0]) := by rw [hW1]; exact own_one13 hc1 hc2
  have C1 : Hid (Below w0.heap.size w0 W1) := by rw [hW1]; exact below_alloc _
  have x0 := (Kp.of_below C0.out).cell _ _ hcx
  have HR := hid hR
  have HM := hid hM
  clear ht hs hd hb ha hr hR hM hRe hcx hc h0
  go_enter Tryz.func66, Tryz.ntmps66
  go_upto_region 1 with fail
  rw [← hw0]
  clear hw0
  go_upto_region 2 with fail
  rw [← hW1]
  clear hW1 x0
  go_wp2
  go_loopw [5, 6, 7] (fun rv fv kv wr => ∃ (k f N : Nat) (so : List Int), kv = .int .i64 k ∧ fv = .int .i64 f ∧ 1 ≤ k ∧ k ≤ t.length ∧ f ≤ k ∧ OwI wr w0.heap.size rv so ∧ so.length ≤ k ∧ (t.drop k).length ≤ N ∧ R = so ++ (capG (extL sig) D N f (t.drop k)).1 ∧ (k = t.length ∨ ∃ m : Int, 1 ≤ m ∧ firstT (extL sig) m k (t.drop k) = ((t.length : Int), 0)) ∧ Below w0.heap.size w0 wr) (fun _ _ kv _ => t.length - (intOf kv).toNat)
  case atStart => exact ⟨1, 0, t.length - 1, [c0], rfl, rfl, Nat.le_refl _, hpos, Nat.zero_le _, HO1.out, Nat.le_refl _, by rw [List.length_drop]; exact Nat.le_refl _, HR.out, by rcases HM.out with h | h; exact .inl h; exact .inr h, C1.out⟩
  case round =>
    clear HR HM HO1
    obtain ⟨k, f, N, sf, rfl, rfl, hk1, hkl, hfk, hos, hsl, hN, hRe, hM, hbl⟩ := hrel
    have HO := hid hos
    have HN := hid hN
    have HR := hid hRe
    have HM := hid hM
    have HB := hid hbl
    have Cr := hid (below_step C0.out hbl)
    clear hos hN hRe hM hbl
    by_cases hlt : k < t.length
    · have HTr := hid (HTt.out.kp (Kp.of_below Cr.out))
      obtain ⟨_, _, c, e1, hc, hcx, hc1, hc2⟩ := HTr.out.at hlt
      cases e1
      have hdr : t.drop k = c :: t.drop (k + 1) := by rw [List.drop_eq_getElem_cons hlt]; congr 1; rw [List.getElem?_eq_getElem hlt] at hc; exact Option.some.inj hc
      obtain ⟨N', rfl⟩ : ∃ N', N = N' + 1 := ⟨N - 1, by have := HN.out; rw [hdr, List.length_cons] at this; omega⟩
      have HDr := hid hdr
      have HCx := hid hcx
      obtain ⟨bD, hbD⟩ : ∃ bD, bD = decide (c ∈ D) := ⟨_, rfl⟩
      obtain ⟨x0, x2⟩ := HC.out wr HB.out
      have HDc : Hid (∀ W, Below wr.heap.size wr W → Calls Tryz.prog 59 #[.int .i64 c, .pointer (some ⟨b, 0, none⟩)] W fun e w' => e = .returned (.bool bD) ∧ Below W.heap.size W w') := fun W hW => by
        rw [hbD]
        exact HDf.out W c (below_step Cr.out hW)
      have HBD := hid hbD
      clear hc hdr hbD
      have hdk : decide ((k : Int) < (t.length : Int)) = true := by simpa using hlt
      go_upto_region 5 with fail
      go_cut [30] from 16 to 30 (fun x wx => x = .bool (decide (0 ≤ c) && !bD) ∧ Below wr.heap.size wr wx)
      case first =>
        by_cases hcc : 0 ≤ c
        · have hge : decide (c ≥ 0) = true := by simpa using hcc
          have hge2 : decide (0 ≤ c) = true := by simpa using hcc
          cases bD
          · refine region_below (by kernel_rfl) (by kernel_rfl) ?_
            -- Q:cap1
            (go_big_quiet_want; go_big_quiet_op; go_big_quiet_on)
            (go_big_quiet_want; go_big_quiet_op; go_big_quiet_on)
            go_big_quiet_want
            refine ⟨.pointer (some ⟨g, off + k, none⟩), fun w' hw' => ?_, ?_⟩
            · unfold Oper.quietAt; go_simp
            simp only [Act.put, List.setIfInBounds_toArray, List.set_cons_zero, List.set_cons_succ]
            go_big_quiet_on
            go_big_quiet_want
            refine ⟨.int .i64 c, fun w' hw' => ?_, ?_⟩
            · have hh0 := (Kp.of_below hw').cell _ _ HCx.out; unfold Oper.quietAt; go_simp
            simp only [Act.put, List.setIfInBounds_toArray, List.set_cons_zero, List.set_cons_succ]
            go_big_quiet_on
            go_big_quiet_want
            refine ⟨.bool true, fun w' hw' => ?_, ?_⟩
            · unfold Oper.quietAt; go_simp
            simp only [Act.put, List.setIfInBounds_toArray, List.set_cons_zero, List.set_cons_succ]
            go_big_quiet_on
            (go_big_quiet_want; go_big_quiet_op; go_big_quiet_on)
            go_big_quiet_want
            refine ⟨.pointer (some ⟨w.heap.size, 2, none⟩), fun w' hw' => ?_, ?_⟩
            · unfold Oper.quietAt; go_simp
            simp only [Act.put, List.setIfInBounds_toArray, List.set_cons_zero, List.set_cons_succ]
            go_big_quiet_on
            go_big_quiet_want
            refine ⟨.func (.func 59) #[] #[.pointer (some ⟨b, 0, none⟩)], fun w' hw' => ?_, ?_⟩
            · have hh0 := (Kp.of_below hw').cell _ _ x2; unfold Oper.quietAt; go_simp
            simp only [Act.put, List.setIfInBounds_toArray, List.set_cons_zero, List.set_cons_succ]
            go_big_quiet_on
            (go_big_quiet_want; go_big_quiet_op; go_big_quiet_on)
            (go_big_quiet_want; go_big_quiet_op; go_big_quiet_on)
            go_big_quiet_want
            refine ⟨.pointer (some ⟨g, off + k, none⟩), fun w' hw' => ?_, ?_⟩
            · unfold Oper.quietAt; go_simp
            simp only [Act.put, List.setIfInBounds_toArray, List.set_cons_zero, List.set_cons_succ]
            go_big_quiet_on
            go_big_quiet_want
            refine ⟨.int .i64 c, fun w' hw' => ?_, ?_⟩
            · have hh0 := (Kp.of_below hw').cell _ _ HCx.out; unfold Oper.quietAt; go_simp
            simp only [Act.put, List.setIfInBounds_toArray, List.set_cons_zero, List.set_cons_succ]
            go_big_quiet_on
            go_big_quiet_want
            refine ⟨.bool false, fun w' hw' => ?_, ?_⟩
            · unfold Oper.quietAt; go_simp; exact (HDc.out w' hw').mono (fun e w2 ⟨he, hb⟩ => ⟨he, below_step hw' hb⟩)
            simp only [Act.put, List.setIfInBounds_toArray, List.set_cons_zero, List.set_cons_succ]
            go_big_quiet_on
            go_big_quiet_want
            refine ⟨.bool true, fun w' hw' => ?_, ?_⟩
            · unfold Oper.quietAt; go_simp
            simp only [Act.put, List.setIfInBounds_toArray, List.set_cons_zero, List.set_cons_succ]
            go_big_quiet_on
            go_big_quiet_want
            refine ⟨.bool true, fun w' hw' => ?_, ?_⟩
            · unfold Oper.quietAt; go_simp
            simp only [Act.put, List.setIfInBounds_toArray, List.set_cons_zero, List.set_cons_succ]
            go_big_quiet_on
            refine wpQuiet_nil ?_
            -- E:cap1
            intro w2 hb2
            have B2 := hid hb2
            clear hb2
            go_wp2
            go_meet
            case rel => exact ⟨by rw [hge2]; rfl, B2.out⟩
          · refine region_below (by kernel_rfl) (by kernel_rfl) ?_
            -- Q:cap2
            (go_big_quiet_want; go_big_quiet_op; go_big_quiet_on)
            (go_big_quiet_want; go_big_quiet_op; go_big_quiet_on)
            go_big_quiet_want
            refine ⟨.pointer (some ⟨g, off + k, none⟩), fun w' hw' => ?_, ?_⟩
            · unfold Oper.quietAt; go_simp
            simp only [Act.put, List.setIfInBounds_toArray, List.set_cons_zero, List.set_cons_succ]
            go_big_quiet_on
            go_big_quiet_want
            refine ⟨.int .i64 c, fun w' hw' => ?_, ?_⟩
            · have hh0 := (Kp.of_below hw').cell _ _ HCx.out; unfold Oper.quietAt; go_simp
            simp only [Act.put, List.setIfInBounds_toArray, List.set_cons_zero, List.set_cons_succ]
            go_big_quiet_on
            go_big_quiet_want
            refine ⟨.bool true, fun w' hw' => ?_, ?_⟩
            · unfold Oper.quietAt; go_simp
            simp only [Act.put, List.setIfInBounds_toArray, List.set_cons_zero, List.set_cons_succ]
            go_big_quiet_on
            (go_big_quiet_want; go_big_quiet_op; go_big_quiet_on)
            go_big_quiet_want
            refine ⟨.pointer (some ⟨w.heap.size, 2, none⟩), fun w' hw' => ?_, ?_⟩
            · unfold Oper.quietAt; go_simp
            simp only [Act.put, List.setIfInBounds_toArray, List.set_cons_zero, List.set_cons_succ]
            go_big_quiet_on
            go_big_quiet_want
            refine ⟨.func (.func 59) #[] #[.pointer (some ⟨b, 0, none⟩)], fun w' hw' => ?_, ?_⟩
            · have hh0 := (Kp.of_below hw').cell _ _ x2; unfold Oper.quietAt; go_simp
            simp only [Act.put, List.setIfInBounds_toArray, List.set_cons_zero, List.set_cons_succ]
            go_big_quiet_on
            (go_big_quiet_want; go_big_quiet_op; go_big_quiet_on)
            (go_big_quiet_want; go_big_quiet_op; go_big_quiet_on)
            go_big_quiet_want
            refine ⟨.pointer (some ⟨g, off + k, none⟩), fun w' hw' => ?_, ?_⟩
            · unfold Oper.quietAt; go_simp
            simp only [Act.put, List.setIfInBounds_toArray, List.set_cons_zero, List.set_cons_succ]
            go_big_quiet_on
            go_big_quiet_want
            refine ⟨.int .i64 c, fun w' hw' => ?_, ?_⟩
            · have hh0 := (Kp.of_below hw').cell _ _ HCx.out; unfold Oper.quietAt; go_simp
            simp only [Act.put, List.setIfInBounds_toArray, List.set_cons_zero, List.set_cons_succ]
            go_big_quiet_on
            go_big_quiet_want
            refine ⟨.bool true, fun w' hw' => ?_, ?_⟩
            · unfold Oper.quietAt; go_simp; exact (HDc.out w' hw').mono (fun e w2 ⟨he, hb⟩ => ⟨he, below_step hw' hb⟩)
            simp only [Act.put, List.setIfInBounds_toArray, List.set_cons_zero, List.set_cons_succ]
            go_big_quiet_on
            go_big_quiet_want
            refine ⟨.bool false, fun w' hw' => ?_, ?_⟩
            · unfold Oper.quietAt; go_simp
            simp only [Act.put, List.setIfInBounds_toArray, List.set_cons_zero, List.set_cons_succ]
            go_big_quiet_on
            go_big_quiet_want
            refine ⟨.bool false, fun w' hw' => ?_, ?_⟩
            · unfold Oper.quietAt; go_simp
            simp only [Act.put, List.setIfInBounds_toArray, List.set_cons_zero, List.set_cons_succ]
            go_big_quiet_on
            refine wpQuiet_nil ?_
            -- E:cap2
            intro w2 hb2
            have B2 := hid hb2
            clear hb2
            go_wp2
            go_meet
            case rel => exact ⟨by rw [hge2]; rfl, B2.out⟩
        · have hge : decide (c ≥ 0) = false := by rw [decide_eq_false_iff_not]; omega
          have hge2 : decide (0 ≤ c) = false := by rw [decide_eq_false_iff_not]; omega
          refine region_below (by kernel_rfl) (by kernel_rfl) ?_
          -- Q:cap3
          (go_big_quiet_want; go_big_quiet_op; go_big_quiet_on)
          (go_big_quiet_want; go_big_quiet_op; go_big_quiet_on)
          go_big_quiet_want
          refine ⟨.pointer (some ⟨g, off + k, none⟩), fun w' hw' => ?_, ?_⟩
          · unfold Oper.quietAt; go_simp
          simp only [Act.put, List.setIfInBounds_toArray, List.set_cons_zero, List.set_cons_succ]
          go_big_quiet_on
          go_big_quiet_want
          refine ⟨.int .i64 c, fun w' hw' => ?_, ?_⟩
          · have hh0 := (Kp.of_below hw').cell _ _ HCx.out; unfold Oper.quietAt; go_simp
          simp only [Act.put, List.setIfInBounds_toArray, List.set_cons_zero, List.set_cons_succ]
          go_big_quiet_on
          go_big_quiet_want
          refine ⟨.bool false, fun w' hw' => ?_, ?_⟩
          · unfold Oper.quietAt; go_simp
          simp only [Act.put, List.setIfInBounds_toArray, List.set_cons_zero, List.set_cons_succ]
          go_big_quiet_on
          (go_big_quiet_want; go_big_quiet_op; go_big_quiet_on)
          go_big_quiet_skip
          go_big_quiet_skip
          go_big_quiet_skip
          go_big_quiet_skip
          go_big_quiet_skip
          go_big_quiet_skip
          go_big_quiet_skip
          go_big_quiet_skip
          go_big_quiet_want
          refine ⟨.bool false, fun w' hw' => ?_, ?_⟩
          · unfold Oper.quietAt; go_simp
          simp only [Act.put, List.setIfInBounds_toArray, List.set_cons_zero, List.set_cons_succ]
          go_big_quiet_on
          refine wpQuiet_nil ?_
          -- E:cap3
          intro w2 hb2
          have B2 := hid hb2
          clear hb2
          go_wp2
          go_meet
          case rel => exact ⟨by rw [hge2]; rfl, B2.out⟩
      obtain ⟨rfl, hb2⟩ := hcut
      obtain ⟨w2, hw2⟩ : ∃ W, W = wc := ⟨_, rfl⟩
      rw [← hw2] at hb2 ⊢
      have B2 := hid (below_step HB.out hb2)
      have HO2 := hid (HO.out.later hb2)
      have C2 := hid (below_step C0.out B2.out)
      clear hw2 hb2 x0 x2 HO HCx
      have hwk : IntKind.i64.wrap ((k : Int) + 1) = ((k + 1 : Nat) : Int) := by rw [IntWalk.i64_in _ ⟨by omega, by omega⟩]; omega
      by_cases hcc : 0 ≤ c ∧ c ∉ D
      · have hB : (decide (0 ≤ c) && !bD) = true := by
          rw [Bool.and_eq_true, decide_eq_true_eq, HBD.out]
          exact ⟨hcc.1, by simpa using hcc.2⟩
        rw [hB]
        have hd9 := HDr.out
        obtain ⟨v3, w3, hr3, ho3, hg3, _⟩ := join_one 36 HO2.out hc1 hc2 B2.out.size (by omega)
        have HR3 := hid hr3
        have HO3 := hid ho3
        have HB3 : Hid (Below w0.heap.size w0 w3) := (below_step B2.out (below_alloc _)).grown hg3 (below_step B2.out (below_alloc _)).size (fun j hj => own_blk HO2.out.2 hj)
        have HRn : Hid (R = (sf ++ [c]) ++ (capG (extL sig) D N' f (t.drop (k + 1))).1) := by
          show _ = _
          rw [HR.out, hd9, capG, if_pos hcc, List.append_assoc]
          rfl
        have HNn : Hid ((t.drop (k + 1)).length ≤ N') := by
          have h9 := HN.out
          rw [hd9, List.length_cons] at h9
          show _ ≤ _
          omega
        have HMn : Hid (k + 1 = t.length ∨ ∃ m : Int, 1 ≤ m ∧ firstT (extL sig) m (k + 1) (t.drop (k + 1)) = ((t.length : Int), 0)) := by
          rcases HM.out with h9 | ⟨m, hm, h9⟩
          · omega
          · rw [hd9] at h9
            obtain ⟨x', r', d, e1, e2, e3⟩ := first_round h9
            simp only [List.cons.injEq] at e1
            obtain ⟨rfl, rfl⟩ := e1
            rcases e3 with ⟨_, e3⟩ | ⟨e3, e4⟩
            · exact .inl (by omega)
            · exact .inr ⟨m + d, by have := codeD_ge HA.out e2; omega, e4⟩
        obtain ⟨ro, rcp, rfl, _, _⟩ := HO2.out.shape
        have hsl3 : (sf ++ [c]).length ≤ k + 1 := by rw [List.length_append, List.length_singleton]; omega
        have HL3 := hid hsl3
        obtain ⟨_, _, c', e1, hc', hcx', _, _⟩ := (HTt.out.kp (Kp.of_below C2.out)).at hlt
        cases e1
        rw [List.getElem?_eq_getElem hlt, Option.some.injEq] at hc'
        have hcc' : c' = c := by
          rw [← hc']
          have := HDr.out
          rw [List.drop_eq_getElem_cons hlt] at this
          simp only [List.cons.injEq] at this
          exact this.1
        subst hcc'
        clear hr3 ho3 hg3 hd9 hc' hsl3 hB
        go_wp2_with (first
          | (at_builtin; refine wpList_append_run rfl _ _ _ rfl _ _ rfl rfl HR3.out ?_))
        go_roundw
        case rel => exact ⟨k + 1, f, N', sf ++ [c'], by go_num, rfl, by omega, by omega, by omega, HO3.out, HL3.out, HNn.out, HRn.out, HMn.out, HB3.out⟩
        case measure => simp only [intOf]; omega
      · have hB : (decide (0 ≤ c) && !bD) = false := by
          rw [HBD.out]
          by_cases h1 : 0 ≤ c
          · have h2 : c ∈ D := by
              by_cases h3 : c ∈ D
              · exact h3
              · exact absurd ⟨h1, h3⟩ hcc
            simp [h2]
          · simp [h1]
        rw [hB]
        have hd9 := HDr.out
        obtain ⟨m, hm, hf9⟩ : ∃ m : Int, 1 ≤ m ∧ firstT (extL sig) m k (t.drop k) = ((t.length : Int), 0) := by
          rcases HM.out with h9 | h9
          · omega
          · exact h9
        have hdl : (t.drop k).length = t.length - k := List.length_drop
        obtain ⟨kk, k1, k2, k3, k4, k5, k6⟩ := head_term HA.out hm (by rw [hf9, hdl]; congr 1; omega : firstT (extL sig) m k (t.drop k) = ((k : Int) + (t.drop k).length, 0))
        rw [hdl] at k2 k5
        obtain ⟨v3, w3, hr3, ho3, hg3, _⟩ := join_one 36 (c := -1 - (f : Int)) HO2.out (by omega) (by omega) B2.out.size (by omega)
        have HR3 := hid hr3
        have HO3 := hid ho3
        have HB3 : Hid (Below w0.heap.size w0 w3) := (below_step B2.out (below_alloc _)).grown hg3 (below_step B2.out (below_alloc _)).size (fun j hj => own_blk HO2.out.2 hj)
        have hdd : (t.drop (k + 1)).drop (kk - 1) = t.drop (k + kk) := by rw [List.drop_drop]; congr 1; omega
        have HRn : Hid (R = (sf ++ [-1 - (f : Int)]) ++ (capG (extL sig) D N' (f + 1) (t.drop (k + kk))).1) := by
          show _ = _
          rw [HR.out, hd9, capG, if_neg hcc, ← hd9, k3, hdd, List.append_assoc]
          rfl
        have HNn : Hid ((t.drop (k + kk)).length ≤ N') := by
          have h9 := HN.out
          rw [hdl] at h9
          show _ ≤ _
          rw [List.length_drop]
          omega
        have HMn : Hid (k + kk = t.length ∨ ∃ m : Int, 1 ≤ m ∧ firstT (extL sig) m (k + kk) (t.drop (k + kk)) = ((t.length : Int), 0)) := by
          by_cases h1 : m = 1
          · exact .inl (by have := k5 h1; omega)
          · refine .inr ⟨m - 1, by omega, ?_⟩
            have h9 := k6 (by omega)
            rw [List.drop_drop] at h9
            rw [h9, hdl]
            congr 1
            omega
        have hcut : t = t.take k ++ ((t.drop k).take kk ++ (t.drop k).drop kk) := by rw [List.take_append_drop, List.take_append_drop]
        have htk : (t.take k).length = k := by rw [List.length_take]; omega
        have hul : ((t.drop k).take kk).length = kk := by rw [List.length_take, hdl]; omega
        have HTm := hid fun W (hW : Below w0.heap.size w0 W) => termAt_any _ _ (extL sig) t (t.take k) ((t.drop k).take kk) ((t.drop k).drop kk) W (HS.out.kp (Kp.of_below (below_step C0.out hW))) (HTt.out.kp (Kp.of_below (below_step C0.out hW))) HA.out hcut k4 (by omega)
        rw [htk] at HTm
        have HK := hid hul
        obtain ⟨ro, rcp, rfl, _, _⟩ := HO2.out.shape
        have hsl3 : (sf ++ [-1 - (f : Int)]).length ≤ k + kk := by rw [List.length_append, List.length_singleton]; omega
        have HL3 := hid hsl3
        have hwf : IntKind.i64.wrap (-1 - (f : Int)) = -1 - (f : Int) := IntWalk.i64_in _ ⟨by omega, by omega⟩
        have hwf2 : IntKind.i64.wrap ((f : Int) + 1) = ((f + 1 : Nat) : Int) := by rw [IntWalk.i64_in _ ⟨by omega, by omega⟩]; omega
        have hwkk : IntKind.i64.wrap ((k : Int) + (kk : Int)) = ((k + kk : Nat) : Int) := by rw [IntWalk.i64_in _ ⟨by omega, by omega⟩]; omega
        obtain ⟨y0, _⟩ := HC.out w3 HB3.out
        clear hr3 ho3 hg3 hd9 hsl3 hB hf9 hdl k3 k4 k5 k6 hdd hcut htk hul
        go_wp2_with (first
          | (at_builtin; refine wpList_append_run rfl _ _ _ rfl _ _ rfl rfl HR3.out ?_)
          | (refine (HTm.out w3 HB3.out).mono ?_; rintro e w4 ⟨v4, rfl, hi4, hw4⟩; have hw5 := hw4.symm; subst hw5; clear hw4; obtain ⟨a4, c4, rfl, _, _, _⟩ := Row.flat hi4; rw [HK.out]; clear hi4))
        go_roundw
        case rel => exact ⟨k + kk, f + 1, N', sf ++ [-1 - (f : Int)], by go_num, by go_num, by omega, by omega, by omega, HO3.out, HL3.out, HNn.out, HRn.out, HMn.out, HB3.out⟩
        case measure => simp only [intOf]; omega
    · have hke : k = t.length := by omega
      have hd : decide ((k : Int) < (t.length : Int)) = false := by rw [decide_eq_false_iff_not]; omega
      have HRn : Hid (R = sf) := by
        show _ = _
        rw [HR.out, hke, List.drop_length, capG_nil, List.append_nil]
      have HOn := hid (HO.out.mono C0.out.size)
      clear hke
      go_wp2
      go_ret
      exact ⟨_, rfl, by rw [HRn.out]; exact HOn.out, Cr.out⟩

end Go.Proofs.YtoapgbaibpkckaaGreatDoor

/- slices.Clone and slices.Reverse at trees and classes of package unify. -/
namespace Go.Proofs.YtoapgbaibpkckaaGreatDoor
open Go.RowKit Go.Maps Go.BigFrame

set_option maxRecDepth 1000000 in
set_option maxHeartbeats 1600000 in
theorem reverseT6_any (v : Value) (vals : List Value) (base : Nat) (w : World) (h : w.ownsRow base 135 1 v vals.length vals) (hif : ∀ u ∈ vals, IfV u) :
    Calls Tryz.prog 142 #[v] w fun e w' => e = .returned (.tuple #[]) ∧ w'.ownsRow base 135 1 v vals.length vals.reverse ∧ w.grownBy w' v.ownBlock := by
  have hsh : ∃ ao cap, v = .slice ao vals.length cap ∧ vals.length ≤ cap ∧ cap ≤ maxLen := by
    rcases h.2 with ⟨rfl, hn⟩ | ⟨g, cap, cur, rfl, hb, hg, hc, hm, hs, ht⟩
    · exact ⟨none, 0, by rw [hn], by omega, by simp [maxLen]⟩
    · exact ⟨_, cap, rfl, hc, hm⟩
  obtain ⟨ao, cap, rfl, hc1, hc2⟩ := hsh
  unfold maxLen at hc2
  have HV := hid h
  have HIf := hid hif
  clear h hif
  have mixed : Tryz.prog.follows .mixedOrders = true := by kernel_rfl
  go_enter Tryz.func142, Tryz.ntmps142
  go_wp2
  go_loopg [2, 3] vals.length (fun k s2 s3 wr => ∃ (i jn : Nat) (jz : Int) (dk : Array Value), s2 = .int .i64 i ∧ s3 = .int .i64 jz ∧ ((i : Int) < jz → jz = jn ∧ jn < vals.length) ∧ (¬ (i : Int) < jz → ¬ i < jn) ∧ jn - i ≤ k ∧
    dk.size = vals.length ∧ (∀ u ∈ dk.toList, IfV u) ∧ wr.ownsRow base 135 1 (.slice ao vals.length cap) vals.length dk.toList ∧ w.grownBy wr (Value.slice ao vals.length cap).ownBlock ∧ Sort.reverseLoop i jn dk = Sort.reverseLoop 0 (vals.length - 1) vals.toArray)
  case atStart => exact ⟨0, vals.length - 1, (vals.length : Int) - 1, vals.toArray, rfl, rfl, fun h => ⟨by omega, by omega⟩, fun h => by omega, by omega, by simp, HIf.out, HV.out, World.grownBy.refl _ _, rfl⟩
  case round =>
    obtain ⟨i, jn, jz, dk, rfl, rfl, h1, h2, hk, hds, hifd, how, hgr, heq⟩ := hrel
    by_cases hlt : (i : Int) < jz
    · obtain ⟨rfl, hjn⟩ := h1 hlt
      have hij : i < jn := by omega
      obtain ⟨g, cp, hv⟩ := own_form (v := .slice ao vals.length cap) how (by omega)
      simp only [Value.slice.injEq] at hv
      obtain ⟨rfl, _, rfl⟩ := hv
      have ci : wr.cell? ⟨g, i, none⟩ = some dk[i]! := by
        rw [World.ownsRow.cellAt how i (by omega)]
        simp [getElem!_pos, show i < dk.size by omega]
      have cj : wr.cell? ⟨g, jn, none⟩ = some dk[jn]! := by
        rw [World.ownsRow.cellAt how jn (by omega)]
        simp [getElem!_pos, show jn < dk.size by omega]
      have fi := World.ownsRow.frozenAt how i
      have fj := World.ownsRow.frozenAt how jn
      have HOw := hid how
      have HGr := hid hgr
      have HEq := hid heq
      have hil : i < vals.length := by omega
      obtain ⟨xi, hxi⟩ : ∃ x, x = dk[i]! := ⟨_, rfl⟩
      obtain ⟨xj, hxj⟩ : ∃ x, x = dk[jn]! := ⟨_, rfl⟩
      rw [← hxi] at ci
      rw [← hxj] at cj
      obtain ⟨ti, yi, hyi⟩ : IfV xi := by rw [hxi, getElem!_pos dk i (by omega)]; exact hifd _ (Array.getElem_mem_toList (by omega))
      obtain ⟨tj, yj, hyj⟩ : IfV xj := by rw [hxj, getElem!_pos dk jn (by omega)]; exact hifd _ (Array.getElem_mem_toList (by omega))
      subst hyi
      subst hyj
      have HXi := hid hxi
      have HXj := hid hxj
      have HIf2 : Hid (∀ u ∈ (Sort.swp dk i jn).toList, IfV u) := fun u hu => hifd u (swp_mem (by omega) (by omega) hu)
      clear hifd
      clear how hgr heq hxi hxj h1 h2
      have hst := (World.ownsRow.stored HOw.out i (.iface tj yj)).1
      have hst2 := (World.ownsRow.stored hst jn (.iface ti yi)).1
      have HS2 : Hid (((wr.setCell ⟨g, i, none⟩ (.iface tj yj)).setCell ⟨g, jn, none⟩ (.iface ti yi)).drew.ownsRow base 135 1 (.slice (some ⟨g, 0, none⟩) vals.length cap) vals.length (Sort.swp dk i jn).toList) := by
        rw [swp_list (by omega) (by omega), ← HXi.out, ← HXj.out]
        exact ownsRow_later hst2 (drawn_below1 _)
      have HG2 : Hid (w.grownBy ((wr.setCell ⟨g, i, none⟩ (.iface tj yj)).setCell ⟨g, jn, none⟩ (.iface ti yi)).drew (some g)) :=
        grown_trans HGr.out (grown_trans (set_grownT wr g i (.iface tj yj)) (grown_trans (set_grownT _ g jn (.iface ti yi)) (grown_of_below (drawn_below1 _) _)))
      clear hst hst2
      go_wp2_with fail
      go_region_o
      go_wp2
      go_roundg (jn - 1 - (i + 1))
      case measure => omega
      case rel =>
        have h9 := HEq.out
        rw [Sort.reverseLoop, if_pos hij] at h9
        exact ⟨i + 1, jn - 1, (jn : Int) - 1, Sort.swp dk i jn, by simp, rfl, fun h => ⟨by omega, by omega⟩, fun h => by omega, Nat.le_refl _, by rw [Sort.size_swp]; exact hds, HIf2.out, HS2.out, HG2.out, h9⟩
    · have hnot := h2 hlt
      have HR : Hid (dk.toList = vals.reverse) := by
        show _ = _
        rw [Sort.reverseLoop, if_neg hnot] at heq
        have h9 := Lib.reverseLoop_reverse vals.toArray
        rw [show vals.toArray.size = vals.length by simp] at h9
        rw [heq, h9]
        simp
      have HOw := hid how
      have HGr := hid hgr
      clear how hgr heq
      go_wp2
      go_end0
      exact ⟨rfl, by rw [← HR.out]; exact HOw.out, HGr.out⟩

end Go.Proofs.YtoapgbaibpkckaaGreatDoor

/- count of package unify walked. -/
namespace Go.Proofs.YtoapgbaibpkckaaGreatDoor
open Go.RowKit Go.Maps Go.BigFrame

theorem snoc7 {α : Type} (l : List α) : l = [] ∨ ∃ xs x, l = xs ++ [x] := by
  rcases List.eq_nil_or_concat l with h | ⟨xs, x, h⟩
  · exact .inl h
  · exact .inr ⟨xs, x, by rw [h, List.concat_eq_append]⟩

set_option maxRecDepth 100000 in
set_option maxHeartbeats 3200000 in
theorem uCount_any {sig : List Sy} (har : ArOk sig) {w : World} {B T : Nat} {M : List Nm} {into : Nat → Option Nat} {face : Nat → Nat} {cnt : Nat → Int} {root rk : Nat → Nat} {r : Nat} {mr : Nm} (hL : NdOk sig (M.map Nm.nd)) (hok : ClOk (M.map Nm.nd) root face) (hn : M.length ≤ 4194304) (hlow : T ≤ w.heap.size) (hb : Bd6 w B T M into face cnt) (hf : Fr6 M.length into root rk) (hci : CI M root face r cnt [r]) (hmr : M[r]? = some mr) :
    Calls Tryz.prog 117 #[.pointer (some ⟨mr.cls, 0, none⟩)] w fun e w' => ∃ ok into' cnt', e = .returned (.bool ok) ∧ Bd6 w' B T M into' face cnt' ∧ Fr6 M.length into' root rk ∧ Ch6 M w w' ∧ (ok = false → ∃ c, c < M.length ∧ root c = c ∧ Rch (M.map Nm.nd) root face c c) ∧ (ok = true → CI M root face r cnt' []) := by
  have hlen : (M.map Nm.nd).length = M.length := by rw [List.length_map]
  obtain ⟨hwf, hsym⟩ := nd_wf har hL
  have hrl : ∀ i, i < M.length → root i < M.length := fun i hi => by have := hok.lt i (by omega); omega
  have hfl : ∀ i, i < M.length → root i = i → face i < M.length := fun i hi hr => by have := hok.face_lt i (by omega); rw [hr] at this; omega
  have HB := hid hb
  have HF := hid hf
  have HCI := hid hci
  have HLo := hid hlow
  have HL := hid hL
  have HOk := hid hok
  have HWf := hid hwf
  have HRl := hid hrl
  have HFl := hid hfl
  have HMr := hid hmr
  have hcw : ∀ m ∈ M, m.cls < w.heap.size := fun m hm => Nat.lt_of_lt_of_le (hb.low m hm).1.2 hlow
  have HCw := hid hcw
  clear hb hf hci hlow hL hok hwf hsym hrl hfl hmr har hlen hcw
  go_enter Tryz.func117, Tryz.ntmps117
  go_wp2
  go_loopg [3] (M.length * 1001 + 1) (fun k v wr => ∃ (O : List Nat) (into' : Nat → Option Nat) (cnt' : Nat → Int), OwC6 wr w.heap.size M v O ∧ Bd6 wr B T M into' face cnt' ∧ Fr6 M.length into' root rk ∧ CI M root face r cnt' O ∧ Ch6 M w wr ∧ nZero M.length cnt' * 1001 + O.length ≤ k ∧ k ≤ M.length * 1001 + 1)
  case atStart =>
    have hbA : Below w.heap.size w (w.alloc (.cells #[.pointer (some ⟨mr.cls, 0, none⟩)] 139)) := below_alloc _
    refine ⟨[r], into, cnt, ?_, HB.out.later hbA, HF.out, HCI.out, Ch6.of_below hbA, ?_, Nat.le_refl _⟩
    · refine ⟨rfl, .inr ⟨w.heap.size, 1, #[.pointer (some ⟨mr.cls, 0, none⟩)], rfl, Nat.le_refl _, heap_alloc_new _ _, Nat.le_refl _, by simp [maxLen], rfl, ?_⟩⟩
      simp only [List.map_cons, List.map_nil]
      rw [clV_eq HMr.out]
      rfl
    · have := nZero_le M.length cnt
      simp only [List.length_cons, List.length_nil]
      omega
  case round =>
    obtain ⟨O, into', cnt', how, hb', hf', hc', hch, hk1, hk2⟩ := hrel
    have HB' := hid hb'
    have HF' := hid hf'
    have HC' := hid hc'
    have HCh := hid hch
    rcases snoc7 O with rfl | ⟨Q, q, rfl⟩
    · obtain ⟨ao, cp, rfl⟩ : ∃ ao cp, u3 = .slice ao 0 cp := by
        rcases how.2 with ⟨h8, _⟩ | ⟨g8, c8, _, h8, _⟩
        · exact ⟨_, _, h8⟩
        · exact ⟨_, _, h8⟩
      clear how hb' hf' hc' hch hk1 hk2
      go_wp2
      go_ret
      exact ⟨true, into', cnt', rfl, HB'.out, HF'.out, HCh.out, fun h => (by cases h), fun _ => HC'.out⟩
    · obtain ⟨hql, hqr⟩ := hc'.el q (by simp)
      obtain ⟨mq, hmq⟩ : ∃ m, M[q]? = some m := ⟨_, List.getElem?_eq_getElem hql⟩
      obtain ⟨g, cp, hv, hge, hcp1, hcp2, hca⟩ := own_last6 how (k := Q.length) (x := q) (by simp)
      have hll : (Q ++ [q]).length = Q.length + 1 := by simp
      rw [hll] at hv hcp1
      subst hv
      have hct := own_cut6 (k := Q.length) (by rw [hll]; exact how) (by rw [hll]; omega)
      rw [List.take_left] at hct
      have HOw : Hid (OwC6 wr w.heap.size M (.slice (some ⟨g, 0, none⟩) (Q.length + 1) cp) (Q ++ [q])) := by rw [← hll]; rw [hll]; exact how
      obtain ⟨N, hN⟩ : ∃ N, N = Q.length := ⟨_, rfl⟩
      rw [← hN] at hca hct hcp1 HOw ⊢
      have HCt := hid hct
      have HMq := hid hmq
      have HN := hid hN
      have hNb : N ≤ 4294967296 := by rw [hN]; rw [hll] at hk1; omega
      have hw1 : IntKind.i64.wrap ((N : Int) + 1 - 1) = (N : Int) := by rw [IntWalk.i64_in _ ⟨by omega, by omega⟩]; omega
      have hw1' : IntKind.i64.wrap (N : Int) = (N : Int) := IntWalk.i64_in _ ⟨by omega, by omega⟩
      have hxc : N ≤ cp := by omega
      rw [clV_eq hmq] at hca
      obtain ⟨k9, hk9, _, _, _, x3⟩ := hb'.clc hmq
      have HQl := hid hql
      have HQr := hid hqr
      have HK1 : Hid (nZero M.length cnt' * 1001 + (Q.length + 1) ≤ gk) := by rw [hll] at hk1; exact hk1
      have HK2 := hid hk2
      have HFq := hid (HFl.out q hql hqr)
      by_cases h0 : cnt' q = 0
      · rw [h0] at x3
        have f3 : wr.frozen? ⟨mq.cls, 3, none⟩ = false := frozen_of_row _ _ _ _ _ hk9
        obtain ⟨W1, hW1⟩ : ∃ X, X = wr.setCell ⟨mq.cls, 3, none⟩ (.int .i64 (-1)) := ⟨_, rfl⟩
        obtain ⟨hb1, hc1⟩ := hb'.put hmq (o := into' q) (f := face q) (n := -1) (w' := W1) (by rw [hW1]; exact set_grown _ _ _ _) ⟨k9, by rw [hW1]; exact heap_setCell_same _ _ _ _ _ _ hk9⟩
        rw [if_self6, if_self6] at hb1
        have HC1 := hid (hch.trans hc1)
        have HO1 : Hid (OwC6 W1 w.heap.size M (.slice (some ⟨g, 0, none⟩) (N + 1) cp) (Q ++ [q])) := own_ch6 HOw.out hc1 HCw.out
        have HPa := hid (parts_any hb1 hf' (Nat.le_trans HLo.out (hch.trans hc1).size) HWf.out hmq HFq.out)
        obtain ⟨ps, hps⟩ : ∃ ps, ps = ptsN M root (face q) := ⟨_, rfl⟩
        rw [← hps] at HPa
        have HPs := hid hps
        obtain ⟨hpl, hpn⟩ := ptsN_lt HWf.out HRl.out (f := face q)
        rw [← hps] at hpl hpn
        have HPl := hid hpl
        have H0 := hid h0
        obtain ⟨cnt1, hcnt1⟩ : ∃ c : Nat → Int, c = fun j => if j = q then -1 else cnt' j := ⟨_, rfl⟩
        rw [← hcnt1] at HPa
        have HCn1 := hid hcnt1
        clear how hb' hf' hc' hch hk1 hk2 hll hct hmq hk9 hb1 hc1 hps hpl h0 hcnt1 hN hql hqr
        go_upto_region 8 with fail
        rw [← hW1]
        clear hW1 x3 f3 hca hw1 hw1'
        go_wp2_with fail
        refine HPa.out.mono ?_
        rintro e w2 ⟨v2, into2, rfl, o2, hb2, hf2, hc2⟩
        obtain ⟨ao, cap, hv2, hcap1, hcap2⟩ := o2.shape
        subst hv2
        unfold maxLen at hcap2
        have HO2 := hid o2
        have HB2 := hid hb2
        have HF2 := hid hf2
        have HC2 := hid (HC1.out.trans hc2)
        have HV2 : Hid (OwC6 w2 w.heap.size M (.slice (some ⟨g, 0, none⟩) (N + 1) cp) (Q ++ [q])) := own_ch6 HO1.out hc2 HCw.out
        have HW1s := hid HC1.out.size
        have HS12 := hid hc2.size
        have HNb : Hid (∀ j, Value.ownBlock (.slice (some ⟨g, 0, none⟩) (N + 1) cp) = some j → Value.ownBlock (.slice ao ps.length cap) ≠ some j) := fun j hj e => by
          have h1 := own_blk_lt HO1.out hj
          have h2 := own_blk HO2.out e
          omega
        clear o2 hb2 hf2 hc2 HPa HO1
        go_wp2
        go_loopw [3, 36] (fun v kv wy => ∃ k : Nat, k ≤ ps.length ∧ kv = .int .i64 k ∧ OwC6 wy w.heap.size M v (Q ++ [q] ++ ps.take k) ∧ OwC6 wy W1.heap.size M (.slice ao ps.length cap) ps ∧ Bd6 wy B T M into2 face cnt1 ∧ Ch6 M w wy ∧ W1.heap.size ≤ wy.heap.size ∧ (∀ j, v.ownBlock = some j → Value.ownBlock (.slice ao ps.length cap) ≠ some j) ∧ ∀ d ∈ ps.take k, cnt1 d ≠ -1) (fun _ kv _ => ps.length - (intOf kv).toNat)
        case atStart => exact ⟨0, Nat.zero_le _, rfl, by rw [List.take_zero, List.append_nil]; exact HV2.out, HO2.out, HB2.out, HC2.out, HS12.out, HNb.out, fun d hd => (by cases hd)⟩
        case round =>
          obtain ⟨k, hk, rfl, hov, hop, hby, hcy, hsy, hnb, hnm⟩ := hrel
          have HOv := hid hov
          have HOp := hid hop
          have HBy := hid hby
          have HCy := hid hcy
          have HNb2 := hid hnb
          have HNm := hid hnm
          by_cases hlt : k < ps.length
          · have hdk : decide ((k : Int) < (ps.length : Int)) = true := by simpa using hlt
            obtain ⟨p, hpk⟩ : ∃ p, ps[k]? = some p := ⟨_, List.getElem?_eq_getElem hlt⟩
            have hpm := List.mem_of_getElem? hpk
            obtain ⟨mp, hmp⟩ : ∃ m, M[p]? = some m := ⟨_, List.getElem?_eq_getElem (HPl.out p hpm)⟩
            obtain ⟨g2, cp2, hv, hge2, hcl1, hcl2, hcell⟩ := own_last6 hop hpk
            simp only [Value.slice.injEq] at hv
            obtain ⟨rfl, _, rfl⟩ := hv
            rw [clV_eq hmp] at hcell
            obtain ⟨kp, _, _, _, _, q3⟩ := hby.clc hmp
            obtain ⟨ao3, cap3, hv3, hcp31, hcp32⟩ := hov.shape
            have hlen3 : (Q ++ [q] ++ ps.take k).length = N + 1 + k := by rw [List.length_append, List.length_append, List.length_take, List.length_singleton, HN.out]; omega
            rw [hlen3] at hv3 hcp31
            subst hv3
            unfold maxLen at hcp32
            by_cases hm : cnt1 p = -1
            · rw [hm] at q3
              have HCi : Hid (∃ c, c < M.length ∧ root c = c ∧ Rch (M.map Nm.nd) root face c c) := ci_circle HL.out HOk.out HC'.out (d := p) (by rw [← HPs.out]; exact hpm) (by rw [HCn1.out] at hm; exact hm)
              clear hov hop hby hcy hnb hnm hpk hpm hmp hlen3 hm
              go_wp2
              go_ret
              exact ⟨false, into2, cnt1, rfl, HBy.out, HF2.out, HCy.out, fun _ => HCi.out, fun h => (by cases h)⟩
            · have hmb : (cnt1 p == -1) = false := by rw [beq_eq_false_iff_ne]; exact hm
              obtain ⟨WA, hWA⟩ : ∃ X, X = wr.alloc (.cells #[.pointer (some ⟨mp.cls, 0, none⟩)] 139) := ⟨_, rfl⟩
              have bA : Below wr.heap.size wr WA := by rw [hWA]; exact below_alloc _
              obtain ⟨v5, w5, hr5, o5, g5, d5⟩ := join_cls6 177 (ao := some ⟨wr.heap.size, 0, none⟩) (cap := 1) (ys := [p]) (own_ch6 hov (Ch6.of_below (M := M) bA) HCw.out) (.inr ⟨wr.heap.size, 0, rfl, fun j y hj => by
                match j, hj with
                | 0, hj =>
                  cases hj
                  rw [clV_eq hmp, hWA]
                  exact cell_new rfl
                | j + 1, hj => simp at hj⟩) (Nat.le_trans hcy.size bA.size) (by rw [hlen3]; simp only [List.length_cons, List.length_nil]; omega)
              have hnx : Q ++ [q] ++ ps.take (k + 1) = (Q ++ [q] ++ ps.take k) ++ [p] := by rw [take_get hpk, List.append_assoc (Q ++ [q])]
              rw [← hnx] at o5
              have hB5 : ∀ b, b < w.heap.size → w5.heap[b]? = wr.heap[b]? := fun b hb9 => by
                refine (g5.block b (Nat.lt_of_lt_of_le hb9 (Nat.le_trans hcy.size bA.size)) (fun e9 => ?_)).trans (bA.block b (Nat.lt_of_lt_of_le hb9 hcy.size))
                have := own_blk hov e9.symm
                omega
              have hpb : ∀ j, Value.ownBlock (.slice (some ⟨g2, 0, none⟩) ps.length cap) = some j → j < wr.heap.size := fun j hj => own_blk_lt hop hj
              have HO5p : Hid (OwC6 w5 W1.heap.size M (.slice (some ⟨g2, 0, none⟩) ps.length cap) ps) := own_grown6 (own_ch6 hop (Ch6.of_below (M := M) bA) (fun m hm9 => Nat.lt_of_lt_of_le (HCw.out m hm9) HW1s.out)) g5 (.inr fun e => by
                cases h9 : Value.ownBlock (.slice ao3 (N + 1 + k) cap3) with
                | none => rw [h9] at e; cases e
                | some j => exact hnb j h9 (e.trans h9))
              have HB5 := hid (hby.keep fun b hb9 => hB5 b (Nat.lt_of_lt_of_le hb9 HLo.out))
              have HC5 : Hid (Ch6 M w w5) := ⟨(g5.os.trans bA.os).trans hcy.os, (g5.tape.trans bA.tape).trans hcy.tape, (g5.output.trans bA.output).trans hcy.output, Nat.le_trans hcy.size (Nat.le_trans bA.size g5.size), fun b hb9 hm9 => (hB5 b hb9).trans (hcy.block b hb9 hm9)⟩
              have HS5 : Hid (W1.heap.size ≤ w5.heap.size) := Nat.le_trans hsy (Nat.le_trans bA.size g5.size)
              have HN5 : Hid (∀ j, v5.ownBlock = some j → Value.ownBlock (.slice (some ⟨g2, 0, none⟩) ps.length cap) ≠ some j) := fun j hj e => by
                rcases d5 with d5 | d5
                · exact hnb j (d5.symm.trans hj) e
                · rw [d5] at hj
                  have := hpb j e
                  have h8 := bA.size
                  cases hj
                  omega
              have HM5 : Hid (∀ d ∈ ps.take (k + 1), cnt1 d ≠ -1) := fun d hd => by
                rw [take_get hpk] at hd
                rcases List.mem_append.1 hd with hd | hd
                · exact hnm d hd
                · rw [List.mem_singleton] at hd
                  subst hd
                  exact hm
              have HR5 := hid hr5
              have HO5 := hid o5
              clear hov hop hby hcy hnb hnm hpk hpm hmp hlen3 hm hr5 o5 g5 d5 hnx hB5 hpb bA
              go_wp2_with (first
                | (rw [← hWA]; at_builtin; refine wpList_append_run rfl _ _ _ rfl _ _ rfl rfl HR5.out ?_))
              go_roundw
              case rel => exact ⟨k + 1, hlt, by go_num, HO5.out, HO5p.out, HB5.out, HC5.out, HS5.out, HN5.out, HM5.out⟩
              case measure => simp [intOf]; omega
          · have hdk : decide ((k : Int) < (ps.length : Int)) = false := by simpa using (show ¬ (k : Int) < (ps.length : Int) by omega)
            have hke : ps.take k = ps := List.take_of_length_le (by omega)
            rw [hke] at HOv HNm
            have HCi2 : Hid (CI M root face r cnt1 (Q ++ [q] ++ ps)) := by
              have h9 := ci_push HL.out HOk.out HC'.out H0.out (fun d hd => by have h8 := HNm.out d (by rw [HPs.out]; exact hd); rw [HCn1.out] at h8; exact h8)
              rw [← HPs.out, ← HCn1.out] at h9
              exact h9
            have HNz : Hid (nZero M.length cnt1 < nZero M.length cnt') := by
              have h9 := nZero_mark (n := M.length) HQl.out H0.out
              rw [← HCn1.out] at h9
              exact h9
            clear hov hop hby hcy hnb hnm hke
            go_wp2
            go_roundg (nZero M.length cnt1 * 1001 + (Q ++ [q] ++ ps).length)
            case measure => have h1 := HK1.out; have h2 := HNz.out; rw [List.length_append, List.length_append, List.length_singleton]; omega
            case rel => exact ⟨Q ++ [q] ++ ps, into2, cnt1, HOv.out, HBy.out, HF2.out, HCi2.out, HCy.out, Nat.le_refl _, by have h1 := HK1.out; have h2 := HNz.out; have h3 := HK2.out; rw [List.length_append, List.length_append, List.length_singleton]; omega⟩
      · have hne0 : (cnt' q != 0) = true := by rw [bne_iff_ne]; exact h0
        have HPt : Hid (cnt' q = -1 → ∀ p ∈ ptsN M root (face q), p ≠ q ∧ 0 ≤ cnt' p ∧ cnt' p ≤ 513) := fun h1 p hp => by
          obtain ⟨a1, a2⟩ := ci_parts hc' h1 p (pts_iff.1 hp)
          have hpl := (ptsN_lt HWf.out HRl.out (f := face q)).1 p hp
          have hpr : root p = p := by
            obtain ⟨s, xs, x, e1, e2, rfl⟩ := pts_iff.1 hp
            exact HOk.out.idem x (Nat.lt_trans (HL.out.ahead _ _ _ e1 x e2) (List.getElem?_eq_some_iff.1 e1).1)
          exact ⟨a1, by omega, (ci_pos hc' hpl hpr).1⟩
        have HFi := hid (finish_any hb' hf' (Nat.le_trans HLo.out hch.size) HWf.out HRl.out hmq HFq.out HPt.out)
        have H0 := hid h0
        clear how hb' hf' hc' hch hk1 hk2 hll hct hmq hk9 h0 hN hql hqr
        go_wp2_with fail
        refine HFi.out.mono ?_
        rintro e w2 ⟨rfl, into2, hb2, hf2, hc2⟩
        have HO2 : Hid (OwC6 w2 w.heap.size M (.slice (some ⟨g, 0, none⟩) N cp) Q) := own_ch6 HCt.out hc2 HCw.out
        have HC2 := hid (HCh.out.trans hc2)
        have HF2 := hid hf2
        have HNew : Hid (∃ cnt2, Bd6 w2 B T M into2 face cnt2 ∧ CI M root face r cnt2 Q ∧ nZero M.length cnt2 ≤ nZero M.length cnt') := by
          by_cases h1 : cnt' q = -1
          · rw [if_pos h1] at hb2
            have hci2 := ci_fin HL.out HOk.out HC'.out h1
            refine ⟨_, hb2, hci2, nZero_less ?_⟩
            have := (sumC_bnd (cnt := cnt') (ps := ptsN M root (face q)) (fun p hp => ⟨(HPt.out h1 p hp).2.1, (HPt.out h1 p hp).2.2⟩)).1
            omega
          · rw [if_neg h1, if_self6] at hb2
            exact ⟨cnt', hb2, ci_pop HC'.out H0.out h1, Nat.le_refl _⟩
        clear hb2 hf2 hc2 HFi hca x3 hw1 hw1' hne0
        go_wp2
        obtain ⟨cnt2, n1, n2, n3⟩ := HNew.out
        go_roundg (nZero M.length cnt2 * 1001 + Q.length)
        case measure => have := HK1.out; omega
        case rel => exact ⟨Q, into2, cnt2, by rw [← HN.out] at *; exact HO2.out, n1, HF2.out, n2, HC2.out, Nat.le_refl _, by have h1 := HK1.out; have h2 := HK2.out; omega⟩

end Go.Proofs.YtoapgbaibpkckaaGreatDoor
