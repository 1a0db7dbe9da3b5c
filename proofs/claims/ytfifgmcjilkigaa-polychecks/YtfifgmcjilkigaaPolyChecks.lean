/- Proved: for every row of monomials and every number of variables, the law PolyChecks answers true (what is wrong with a polynomial is told as the document tells it), and its arguments read afterwards as before. No condition. -/
import Derived.Test.YtfifgmcjilkigaaPShown
import Derived.Test.YtfifgmcjilkigaaPCopyW
import Derived.Test.YtfifgmcjilkigaaPRefD
namespace Go.Proofs.Ytfifgmcjilkigaa
open Go.ChangeShapes Go.WideShapes Go.ChangeAt Go.RowKit Go.Maps

set_option maxRecDepth 100000 in
set_option maxHeartbeats 1600000 in
theorem polyChecks_any (v : Value) (p : List Mn) (vars : Int) (w : World) (h : Ms w v p) (hf : Fit 140737488351232 p) (hv1 : -9223372036854775808 ≤ vars) (hv2 : vars ≤ 9223372036854775807) :
    Calls Try.prog 3 #[v, .int .i64 vars] w fun e w' => e = .returned (.bool true) ∧ Below w.heap.size w w' := by
  have HP : Hid (Ms w v p) := h
  clear h
  go_enter Try.func3, Try.ntmps3
  go_wp2_with fail
  refine (shown_any _).mono ?_
  rintro e w1 ⟨rfl, hb1⟩
  have HP1 : Hid (Ms w1 v p) := HP.out.kp (Kp.of_below hb1)
  have HB1 : Hid (Below w.heap.size w w1) := hb1
  clear hb1 HP
  go_wp2_with fail
  refine (copied_any v p _ HP1.out hf).mono ?_
  rintro e w2 ⟨vo, rfl, oo, hb2⟩
  have HO2 : Hid (Ms w2 vo p) := oo.ms
  have HP2 : Hid (Ms w2 v p) := HP1.out.kp (Kp.of_below hb2)
  have HB2 : Hid (Below w.heap.size w w2) := below_step HB1.out hb2
  clear hb2 oo HP1 HB1
  go_wp2_with fail
  refine (check_any _ p vars _ HO2.out hv1 hv2).mono ?_
  rintro e w3 ⟨rfl, hb3⟩
  have HO3 : Hid (Ms w3 vo p) := HO2.out.kp (Kp.of_below hb3)
  have HP3 : Hid (Ms w3 v p) := HP2.out.kp (Kp.of_below hb3)
  have HB3 : Hid (Below w.heap.size w w3) := below_step HB2.out hb3
  clear hb3 HO2 HP2 HB2
  go_wp2_with fail
  refine (refCheck_any _ p vars _ HP3.out hv1 hv2).mono ?_
  rw [checkR_eq]
  rintro e w4 ⟨rfl, hb4⟩
  have HO4 : Hid (Ms w4 vo p) := HO3.out.kp (Kp.of_below hb4)
  have HP4 : Hid (Ms w4 v p) := HP3.out.kp (Kp.of_below hb4)
  have HB4 : Hid (Below w.heap.size w w4) := below_step HB3.out hb4
  clear hb4 HO3 HP3 HB3
  obtain ⟨E, hE⟩ : ∃ E, E = checkE p vars := ⟨_, rfl⟩
  rw [← hE]
  clear hE
  have hEE : (E == E) = true := by simp
  go_wp2_with fail
  refine (same_any _ _ p p _ HO4.out HP4.out).mono ?_
  rw [show decide (p = p) = true by simp]
  rintro e w5 ⟨rfl, n, hw⟩
  have HB5 : Hid (Below w.heap.size w w5) := below_step HB4.out (below_drawn hw)
  clear hw
  go_wp2
  go_ret
  exact ⟨rfl, HB5.out⟩

set_option maxRecDepth 100000 in
theorem polyChecks_lifted (os : Os) (started : os.Started) (H : Type) (enc : TypeId × Value → H) :
    ReturnsInHanded {} Try.checked os 3 .any (Rows.polyChecksSpec.pre6 enc Try.prog Try.f3 Rows.polyChecksRow.domain false) (Rows.polyChecksSpec.post enc Try.prog Try.f3 false true false false) := by
  refine returnsInHanded_of_change_sized (C := Try.checked) own started (by kernel_rfl) Try.func3
    (ChangeSpec.witness6 (enc := enc) (C := Try.checked) false ⟨#[], #[.slice none 0 0, .int .i64 0], []⟩ 8 (by kernel_rfl) (by kernel_rfl) (by kernel_rfl) (by kernel_rfl)) ?_
  intro W base args ds gs before hval0 hW hcnd hsz0 _
  have hsz : (DataW.weightsEach Try.prog (Try.f3.params.toList ++ Rows.polyChecksSpec.plain.varTypes Try.prog) (ds ++ gs)).all (· ≤ reachBytes) = true := hsz0
  have hval : ∀ (j : Nat) t v, Try.f3.params[j]? = some t → args[j]? = some v → Value.okWide Try.prog W .any base t v := hval0
  have hW' := hW
  obtain ⟨p, q, hA0, hV, rfl, hfz, hnd⟩ := hW
  have hA : DataW.TrodAll enc Try.prog W 0 (fun _ => true) true Try.f3.params.toList args.toList ds p := hA0
  rw [Try.params3] at hA hval hsz
  obtain ⟨v0, vs0, d0, ds0, p0, q0, hargs, rfl, rfl, h0, r0⟩ := trodAll_cons hA
  obtain ⟨v1, vs1, d1, ds1, p1, q1, rfl, rfl, rfl, h1, r1⟩ := trodAll_cons r0
  obtain ⟨rfl, rfl, rfl⟩ := trodAll_nil r1
  obtain rfl : args = #[v0, v1] := by cases args; simp_all
  obtain ⟨rfl, rfl⟩ := trodVars_none hV
  obtain ⟨a0, len0, cap0, rfl⟩ := okWide_slice Try.underlying22 (hval 0 22 v0 rfl rfl)
  have k0 := h0
  have lt0 : ∀ x ∈ p0, x.block < W.heap.size := by obtain ⟨m, hm⟩ := k0; exact DataW.trod_lt m _ _ _ hm
  obtain ⟨z0, w0, g0⟩ : ∃ zs, Ms W (.slice a0 len0 cap0) zs ∧ Fit reachBytes zs := by
    obtain ⟨fuel, hf⟩ := h0
    obtain ⟨v, zs, e, hz, hfit⟩ := open_monos hf
    simp [Value.cells] at e
    subst e
    exact ⟨zs, hz, hfit _ fun n hn => of_decide_eq_true (List.all_eq_true.1 hsz _ (DataW.weights_mem_each (j := 0) (t := 22) rfl rfl n hn))⟩
  obtain ⟨a1, rfl, rfl, rfl, w1⟩ := open_int Try.underlying3 (hval 1 3 v1 rfl rfl) h1
  have b1 := bounds_i64 w1
  clear hA0 hval0
  refine (polyChecks_any _ z0 a1 W w0 g0 (by omega) (by omega)).mono fun e W' ⟨he, bel⟩ => ?_
  subst he
  exact ⟨_, rfl, _, _, _, [], _, [], hW', trodAll_mk1 (shut_bool Try.underlying4 _), (trodAll_cons_mk (Below.trod laidOut (by kernel_rfl) (of_decide_eq_true (by kernel_rfl)) k0 bel lt0) (trodAll_cons_mk (shut_int Try.underlying3 w1) trodAll_mk0)), rfl, bel.frame _, fun h => by cases h⟩

theorem polyChecks_holds : Rows.PolyChecksSaid :=
  OpenClaim.holds_of_wide 3 Try.f3 rfl rfl rfl rfl rfl rfl rfl ⟨rfl, rfl, rfl, rfl, rfl⟩ rfl rfl rfl rfl rfl (by kernel_rfl) Try.func3 (by kernel_rfl)
    (of_decide_eq_true (by kernel_rfl)) (by unfold Func.isWrapper; first | (rw [if_pos (by decide +kernel)]; kernel_rfl) | (rw [if_neg (by decide +kernel)]; exact ⟨rfl, rfl⟩))
    (fun os started H enc _ => polyChecks_lifted os started H enc)

#print axioms polyChecks_holds

end Go.Proofs.Ytfifgmcjilkigaa
