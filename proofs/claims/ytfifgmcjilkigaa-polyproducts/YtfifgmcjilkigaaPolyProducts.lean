/- Proved: for every two rows of monomials, the law PolyProducts answers true (products are told as the document tells them, what is handed in stays, and what comes out is the caller's), and its arguments read afterwards as before. No condition. -/
import Derived.Test.YtfifgmcjilkigaaPLawS
import Derived.Test.YtfifgmcjilkigaaPRefM
namespace Go.Proofs.Ytfifgmcjilkigaa
open Go.ChangeShapes Go.WideShapes Go.ChangeAt Go.RowKit Go.Maps

set_option maxRecDepth 100000 in
set_option maxHeartbeats 1600000 in
theorem polyProducts_any (v u : Value) (p q : List Mn) (w : World) (h : Ms w v p) (h' : Ms w u q) (hf : Fit 140737488351232 p) (hf' : Fit 140737488351232 q) :
    Calls Try.prog 5 #[v, u] w fun e w' => e = .returned (.bool true) ∧ Below w.heap.size w w' := by
  have HL : Hid (∀ m ∈ p, m.2.length ≤ 4611686018427387904) := fun m hm => by have := (hf.2 m hm).2; omega
  have HL' : Hid (∀ m ∈ q, m.2.length ≤ 4611686018427387904) := fun m hm => by have := (hf'.2 m hm).2; omega
  have HS : Hid ((mulPL p q).length ≤ 256 ∧ ∀ m ∈ mulPL p q, m.1.length ≤ 64 ∧ m.2.length ≤ 512) := mulPL_lens h.limA h'.limA
  have HP : Hid (Ms w v p) := h
  have HQ : Hid (Ms w u q) := h'
  have HF : Hid (Fit 140737488351232 p) := hf
  have HF' : Hid (Fit 140737488351232 q) := hf'
  clear h h' hf hf'
  go_enter Try.func5, Try.ntmps5
  go_wp2_with fail
  refine (shown_any _).mono ?_
  rintro e w1 ⟨rfl, hb1⟩
  have HP1 : Hid (Ms w1 v p) := HP.out.kp (Kp.of_below hb1)
  have HQ1 : Hid (Ms w1 u q) := HQ.out.kp (Kp.of_below hb1)
  have HB1 : Hid (Below w.heap.size w w1) := hb1
  clear hb1 HP HQ
  go_wp2_with fail
  refine (copied_any v p _ HP1.out HF.out).mono ?_
  rintro e w2 ⟨va, rfl, oa, hb2⟩
  have HA2 : Hid (Ms w2 va p) := oa.ms
  have HP2 : Hid (Ms w2 v p) := HP1.out.kp (Kp.of_below hb2)
  have HQ2 : Hid (Ms w2 u q) := HQ1.out.kp (Kp.of_below hb2)
  have HB2 : Hid (Below w.heap.size w w2) := below_step HB1.out hb2
  clear hb2 oa HP1 HQ1 HB1
  go_wp2_with fail
  refine (copied_any u q _ HQ2.out HF'.out).mono ?_
  rintro e w3 ⟨vb, rfl, ob, hb3⟩
  have HC3 : Hid (Ms w3 vb q) := ob.ms
  have HA3 : Hid (Ms w3 va p) := HA2.out.kp (Kp.of_below hb3)
  have HP3 : Hid (Ms w3 v p) := HP2.out.kp (Kp.of_below hb3)
  have HQ3 : Hid (Ms w3 u q) := HQ2.out.kp (Kp.of_below hb3)
  have HB3 : Hid (Below w.heap.size w w3) := below_step HB2.out hb3
  clear hb3 ob HA2 HP2 HQ2 HB2
  go_wp2_with fail
  refine (pmul_any _ _ p q _ HA3.out HC3.out).mono ?_
  rintro e w4 ⟨vs, rfl, os, hb4⟩
  obtain ⟨A, hA⟩ : ∃ A, A = awayB w3.heap.size w4.heap.size := ⟨_, rfl⟩
  have HAe : Hid (A = awayB w3.heap.size w4.heap.size) := hA
  have HAn : Hid (∀ g, w4.heap.size ≤ g → A g = true) := by intro g hg; rw [hA]; exact away_new hg
  have K34 : Kp w3 (only A w4) := by rw [hA]; exact away_old hb4
  have HP4 : Hid (Ms (only A w4) v p) := HP3.out.kp K34
  have HQ4 : Hid (Ms (only A w4) u q) := HQ3.out.kp K34
  have HA4 : Hid (Ms (only A w4) va p) := HA3.out.kp K34
  have HC4 : Hid (Ms (only A w4) vb q) := HC3.out.kp K34
  have HO4 : Hid (OM w4 w3.heap.size vs (mulPL p q)) := os
  have HB34 : Hid (Below w3.heap.size w3 w4) := hb4
  have HB4 : Hid (Below w.heap.size w w4) := below_step HB3.out hb4
  obtain ⟨E, hE⟩ : ∃ E, E = mulPE p q := ⟨_, rfl⟩
  have HE : Hid (E = mulPE p q) := hE
  rw [← hE]
  clear hE os hb4 hA K34 HP3 HQ3 HA3 HC3
  go_wp2_with fail
  refine (refMulP_any A _ _ p q _ HP4.out HQ4.out HAn.out HL.out HL'.out).mono ?_
  rw [← HE.out]
  rintro e w5 ⟨vw, rfl, hw5, hb5⟩
  have HW5 : Hid (Ms (only A w5) vw (mulPL p q)) := hw5
  have HB45 : Hid (Below w4.heap.size w4 w5) := hb5
  have HB5 : Hid (Below w.heap.size w w5) := below_step HB4.out hb5
  have hEE : (E == E) = true := by simp
  have hEN : (E != E) = false := by simp
  clear hw5 hb5
  go_wp2_with fail
  refine (same_any _ _ (mulPL p q) (mulPL p q) _ (HO4.out.later HB45.out).ms (HW5.out.kp (only_kp A w5))).mono ?_
  rw [show decide (mulPL p q = mulPL p q) = true by simp]
  rintro e w6 ⟨rfl, n6, hw6⟩
  have HB46 : Hid (Below w4.heap.size w4 w6) := below_step HB45.out (below_drawn hw6)
  have HB56 : Hid (Below w5.heap.size w5 w6) := below_drawn hw6
  clear hw6
  go_wp2_with fail
  refine (pspoil_any vs (mulPL p q) w3.heap.size w4 _ HO4.out HB46.out HS.out.2 HS.out.1).mono ?_
  rintro e w11 ⟨rfl, hs11⟩
  have K11 : Kp (only A w6) (only A w11) := by rw [HAe.out]; exact away_spl hs11
  have K4 : Kp (only A w4) (only A w11) := (only_below HB46.out).trans K11
  have HP11 : Hid (Ms (only A w11) v p) := HP4.out.kp K4
  have HQ11 : Hid (Ms (only A w11) u q) := HQ4.out.kp K4
  have HA11 : Hid (Ms (only A w11) va p) := HA4.out.kp K4
  have HC11 : Hid (Ms (only A w11) vb q) := HC4.out.kp K4
  have HW11 : Hid (Ms (only A w11) vw (mulPL p q)) := HW5.out.kp ((only_below HB56.out).trans K11)
  have HB11 : Hid (Below w.heap.size w w11) := HB3.out.trans ((spl_below (HB34.out.trans (HB46.out.mono HB34.out.size)) hs11 (Nat.le_trans HB34.out.size HB46.out.size)).mono HB3.out.size)
  clear hs11 K11 K4 HP4 HQ4 HA4 HC4 HW5 HO4
  go_wp2_with fail
  refine (pmul_any _ _ p q _ (HA11.out.kp (only_kp A w11)) (HC11.out.kp (only_kp A w11))).mono ?_
  rw [← HE.out]
  rintro e w12 ⟨vt, rfl, ot, hb12⟩
  have K12 : Kp (only A w11) w12 := (only_kp A w11).trans (Kp.of_below hb12)
  have HP12 : Hid (Ms w12 v p) := HP11.out.kp K12
  have HQ12 : Hid (Ms w12 u q) := HQ11.out.kp K12
  have HA12 : Hid (Ms w12 va p) := HA11.out.kp K12
  have HC12 : Hid (Ms w12 vb q) := HC11.out.kp K12
  have HW12 : Hid (Ms w12 vw (mulPL p q)) := HW11.out.kp K12
  have HT12 : Hid (Ms w12 vt (mulPL p q)) := ot.ms
  have HB12 : Hid (Below w.heap.size w w12) := below_step HB11.out hb12
  clear hb12 ot K12 HP11 HQ11 HA11 HC11 HW11 HB11
  go_wp2_with fail
  refine (same_any _ _ p p _ HA12.out HP12.out).mono ?_
  rw [show decide (p = p) = true by simp]
  rintro e w13 ⟨rfl, n13, hw13⟩
  have hb13 := below_drawn hw13
  have HB13 : Hid (Below w12.heap.size w12 w13) := hb13
  clear hw13 hb13
  go_wp2_with fail
  refine (same_any _ _ q q _ (HC12.out.kp (Kp.of_below HB13.out)) (HQ12.out.kp (Kp.of_below HB13.out))).mono ?_
  rw [show decide (q = q) = true by simp]
  rintro e w14 ⟨rfl, n14, hw14⟩
  have HB14 : Hid (Below w12.heap.size w12 w14) := below_step HB13.out (below_drawn hw14)
  clear hw14 HB13
  go_wp2_with fail
  refine (same_any _ _ (mulPL p q) (mulPL p q) _ (HT12.out.kp (Kp.of_below HB14.out)) (HW12.out.kp (Kp.of_below HB14.out))).mono ?_
  rw [show decide (mulPL p q = mulPL p q) = true by simp]
  rintro e w15 ⟨rfl, n15, hw15⟩
  have HB15 : Hid (Below w.heap.size w w15) := below_step HB12.out (below_step HB14.out (below_drawn hw15))
  clear hw15
  go_wp2
  go_ret
  exact ⟨rfl, HB15.out⟩

set_option maxRecDepth 100000 in
theorem polyProducts_lifted (os : Os) (started : os.Started) (H : Type) (enc : TypeId × Value → H) :
    ReturnsInHanded {} Try.checked os 5 .any (Rows.polyProductsSpec.pre6 enc Try.prog Try.f5 Rows.polyProductsRow.domain false) (Rows.polyProductsSpec.post enc Try.prog Try.f5 false true false false) := by
  refine returnsInHanded_of_change_sized (C := Try.checked) own started (by kernel_rfl) Try.func5
    (ChangeSpec.witness6 (enc := enc) (C := Try.checked) false ⟨#[], #[.slice none 0 0, .slice none 0 0], []⟩ 8 (by kernel_rfl) (by kernel_rfl) (by kernel_rfl) (by kernel_rfl)) ?_
  intro W base args ds gs before hval0 hW hcnd hsz0 _
  have hsz : (DataW.weightsEach Try.prog (Try.f5.params.toList ++ Rows.polyProductsSpec.plain.varTypes Try.prog) (ds ++ gs)).all (· ≤ reachBytes) = true := hsz0
  have hval : ∀ (j : Nat) t v, Try.f5.params[j]? = some t → args[j]? = some v → Value.okWide Try.prog W .any base t v := hval0
  have hW' := hW
  obtain ⟨p, q, hA0, hV, rfl, hfz, hnd⟩ := hW
  have hA : DataW.TrodAll enc Try.prog W 0 (fun _ => true) true Try.f5.params.toList args.toList ds p := hA0
  rw [Try.params5] at hA hval hsz
  obtain ⟨v0, vs0, d0, ds0, p0, q0, hargs, rfl, rfl, h0, r0⟩ := trodAll_cons hA
  obtain ⟨v1, vs1, d1, ds1, p1, q1, rfl, rfl, rfl, h1, r1⟩ := trodAll_cons r0
  obtain ⟨rfl, rfl, rfl⟩ := trodAll_nil r1
  obtain rfl : args = #[v0, v1] := by cases args; simp_all
  obtain ⟨rfl, rfl⟩ := trodVars_none hV
  obtain ⟨a0, len0, cap0, rfl⟩ := okWide_slice Try.underlying22 (hval 0 22 v0 rfl rfl)
  have k0 := h0
  have lt0 : ∀ x ∈ p0, x.block < W.heap.size := by obtain ⟨m, hm⟩ := k0; exact DataW.trod_lt m _ _ _ hm
  obtain ⟨z0, w0, g0⟩ : ∃ zs, Ms W (.slice a0 len0 cap0) zs ∧ Fit reachBytes zs := by
    obtain ⟨fuel, hf⟩ := h0
    obtain ⟨v, zs, e, hz, hfit⟩ := open_monos hf
    simp [Value.cells] at e
    subst e
    exact ⟨zs, hz, hfit _ fun n hn => of_decide_eq_true (List.all_eq_true.1 hsz _ (DataW.weights_mem_each (j := 0) (t := 22) rfl rfl n hn))⟩
  obtain ⟨a1, len1, cap1, rfl⟩ := okWide_slice Try.underlying22 (hval 1 22 v1 rfl rfl)
  have k1 := h1
  have lt1 : ∀ x ∈ p1, x.block < W.heap.size := by obtain ⟨m, hm⟩ := k1; exact DataW.trod_lt m _ _ _ hm
  obtain ⟨z1, w1, g1⟩ : ∃ zs, Ms W (.slice a1 len1 cap1) zs ∧ Fit reachBytes zs := by
    obtain ⟨fuel, hf⟩ := h1
    obtain ⟨v, zs, e, hz, hfit⟩ := open_monos hf
    simp [Value.cells] at e
    subst e
    exact ⟨zs, hz, hfit _ fun n hn => of_decide_eq_true (List.all_eq_true.1 hsz _ (DataW.weights_mem_each (j := 1) (t := 22) rfl rfl n hn))⟩
  clear hA0 hval0
  refine (polyProducts_any _ _ z0 z1 W w0 w1 g0 g1).mono fun e W' ⟨he, bel⟩ => ?_
  subst he
  exact ⟨_, rfl, _, _, _, [], _, [], hW', trodAll_mk1 (shut_bool Try.underlying4 _), (trodAll_cons_mk (Below.trod laidOut (by kernel_rfl) (of_decide_eq_true (by kernel_rfl)) k0 bel lt0) (trodAll_cons_mk (Below.trod laidOut (by kernel_rfl) (of_decide_eq_true (by kernel_rfl)) k1 bel lt1) trodAll_mk0)), rfl, bel.frame _, fun h => by cases h⟩

theorem polyProducts_holds : Rows.PolyProductsSaid :=
  OpenClaim.holds_of_wide 5 Try.f5 rfl rfl rfl rfl rfl rfl rfl ⟨rfl, rfl, rfl, rfl, rfl⟩ rfl rfl rfl rfl rfl (by kernel_rfl) Try.func5 (by kernel_rfl)
    (of_decide_eq_true (by kernel_rfl)) (by unfold Func.isWrapper; first | (rw [if_pos (by decide +kernel)]; kernel_rfl) | (rw [if_neg (by decide +kernel)]; exact ⟨rfl, rfl⟩))
    (fun os started H enc _ => polyProducts_lifted os started H enc)

#print axioms polyProducts_holds

end Go.Proofs.Ytfifgmcjilkigaa
