/- Proved: for every row of monomials and every row of rows of limbs, the law PolyValues answers true (what a polynomial is worth is told as the document tells it), and its arguments read afterwards as before. No condition. -/
import Derived.Test.YtfifgmcjilkigaaPShown
import Derived.Test.YtfifgmcjilkigaaPFrame
import Derived.Test.YtfifgmcjilkigaaPRefW
namespace Go.Proofs.Ytfifgmcjilkigaa
open Go.ChangeShapes Go.WideShapes Go.ChangeAt Go.RowKit Go.Maps

theorem Ms.lim {w : World} {v : Value} {p : List Mn} (h : Ms w v p) : ∀ m ∈ p, Lim m.1 := by
  intro m hm
  obtain ⟨k, hk⟩ := List.mem_iff_getElem?.1 hm
  obtain ⟨ao, cap, rfl, _, _, hx⟩ := Row.flat h
  obtain ⟨g, off, x, _, hk2, cv, ev, _, _, hmo⟩ := hx k (List.getElem?_eq_some_iff.1 hk).1
  rw [hk] at hk2
  cases hk2
  exact hmo.1.1

theorem Rs.lim {w : World} {v : Value} {fs : List (List Nat)} (h : Rs w v fs) : ∀ f ∈ fs, Lim f := by
  intro m hm
  obtain ⟨k, hk⟩ := List.mem_iff_getElem?.1 hm
  obtain ⟨ao, cap, rfl, _, _, hx⟩ := Row.flat h
  obtain ⟨g, off, x, _, hk2, u, _, hmo⟩ := hx k (List.getElem?_eq_some_iff.1 hk).1
  rw [hk] at hk2
  cases hk2
  exact hmo.1

set_option maxRecDepth 100000 in
set_option maxHeartbeats 1600000 in
theorem polyValues_any (v av : Value) (p : List Mn) (ats : List (List Nat)) (w : World) (h : Ms w v p) (h' : Rs w av ats) (hf : Fit 140737488351232 p) :
    Calls Try.prog 7 #[v, av] w fun e w' => e = .returned (.bool true) ∧ Below w.heap.size w w' := by
  have HL : Hid (∀ m ∈ p, Lim m.1) := h.lim
  have HLa : Hid (∀ f ∈ ats, Lim f) := h'.lim
  have HLo : Hid (∀ m ∈ p, m.2.length ≤ 4611686018427387904) := fun m hm => by have := (hf.2 m hm).2; omega
  have HP : Hid (Ms w v p) := h
  have HQ : Hid (Rs w av ats) := h'
  clear h h' hf
  go_enter Try.func7, Try.ntmps7
  go_wp2_with fail
  refine (shown_any _).mono ?_
  rintro e w1 ⟨rfl, hb1⟩
  have HP1 : Hid (Ms w1 v p) := HP.out.kp (Kp.of_below hb1)
  have HQ1 : Hid (Rs w1 av ats) := HQ.out.kp (Kp.of_below hb1)
  have HB1 : Hid (Below w.heap.size w w1) := hb1
  clear hb1 HP HQ
  go_wp2_with fail
  refine (value_any _ _ p ats _ HP1.out HQ1.out).mono ?_
  rintro e w2 ⟨va, rfl, sa, hb2⟩
  have HP2 : Hid (Ms w2 v p) := HP1.out.kp (Kp.of_below hb2)
  have HQ2 : Hid (Rs w2 av ats) := HQ1.out.kp (Kp.of_below hb2)
  have HA2 : Hid (Sl w2 va (valL p ats)) := sa
  have HB2 : Hid (Below w.heap.size w w2) := below_step HB1.out hb2
  obtain ⟨E, hE⟩ : ∃ E, E = valE p ats := ⟨_, rfl⟩
  have HE : Hid (E = valE p ats) := hE
  rw [← hE]
  clear hb2 sa HP1 HQ1 HB1 hE
  go_wp2_with fail
  refine (refValue_any _ _ p ats _ HP2.out HQ2.out HL.out HLa.out HLo.out).mono ?_
  rw [← HE.out]
  rintro e w3 ⟨vb, rfl, sb, hb3⟩
  have HA3 : Hid (Sl w3 va (valL p ats)) := HA2.out.kp (Kp.of_below hb3)
  have HS3 : Hid (Sl w3 vb (valL p ats)) := sb
  have HB3 : Hid (Below w.heap.size w w3) := below_step HB2.out hb3
  clear hb3 sb HP2 HQ2 HB2 HA2 HE
  have hEE : (E == E) = true := by simp
  go_wp2_with fail
  refine (sameNat_at true _ _ _ _ _ (by simp) HA3.out HS3.out).mono ?_
  rintro e w5 ⟨rfl, n, hw⟩
  have HB5 : Hid (Below w.heap.size w w5) := below_step HB3.out (below_drawn hw)
  clear hw
  go_wp2
  go_ret
  exact ⟨rfl, HB5.out⟩

set_option maxRecDepth 100000 in
theorem polyValues_lifted (os : Os) (started : os.Started) (H : Type) (enc : TypeId × Value → H) :
    ReturnsInHanded {} Try.checked os 7 .any (Rows.polyValuesSpec.pre6 enc Try.prog Try.f7 Rows.polyValuesRow.domain false) (Rows.polyValuesSpec.post enc Try.prog Try.f7 false true false false) := by
  refine returnsInHanded_of_change_sized (C := Try.checked) own started (by kernel_rfl) Try.func7
    (ChangeSpec.witness6 (enc := enc) (C := Try.checked) false ⟨#[], #[.slice none 0 0, .slice none 0 0], []⟩ 8 (by kernel_rfl) (by kernel_rfl) (by kernel_rfl) (by kernel_rfl)) ?_
  intro W base args ds gs before hval0 hW hcnd hsz0 _
  have hsz : (DataW.weightsEach Try.prog (Try.f7.params.toList ++ Rows.polyValuesSpec.plain.varTypes Try.prog) (ds ++ gs)).all (· ≤ reachBytes) = true := hsz0
  have hval : ∀ (j : Nat) t v, Try.f7.params[j]? = some t → args[j]? = some v → Value.okWide Try.prog W .any base t v := hval0
  have hW' := hW
  obtain ⟨p, q, hA0, hV, rfl, hfz, hnd⟩ := hW
  have hA : DataW.TrodAll enc Try.prog W 0 (fun _ => true) true Try.f7.params.toList args.toList ds p := hA0
  rw [Try.params7] at hA hval hsz
  obtain ⟨v0, vs0, d0, ds0, p0, q0, hargs, rfl, rfl, h0, r0⟩ := trodAll_cons hA
  obtain ⟨v1, vs1, d1, ds1, p1, q1, rfl, rfl, rfl, h1, r1⟩ := trodAll_cons r0
  obtain ⟨rfl, rfl, rfl⟩ := trodAll_nil r1
  obtain rfl : args = #[v0, v1] := by cases args; simp_all
  obtain ⟨rfl, rfl⟩ := trodVars_none hV
  obtain ⟨a0, len0, cap0, rfl⟩ := okWide_slice Try.underlying22 (hval 0 22 v0 rfl rfl)
  have k0 := h0
  have lt0 : ∀ x ∈ p0, x.block < W.heap.size := by obtain ⟨m, hm⟩ := k0; exact DataW.trod_lt m _ _ _ hm
  obtain ⟨z0, w0, g0⟩ : ∃ zs, Ms W (.slice a0 len0 cap0) zs ∧ Fit reachBytes zs := by
    obtain ⟨fuel, hf⟩ := h0
    obtain ⟨v, zs, e, hz, hfit⟩ := open_monos hf
    simp [Value.cells] at e
    subst e
    exact ⟨zs, hz, hfit _ fun n hn => of_decide_eq_true (List.all_eq_true.1 hsz _ (DataW.weights_mem_each (j := 0) (t := 22) rfl rfl n hn))⟩
  obtain ⟨a1, len1, cap1, rfl⟩ := okWide_slice Try.underlying35 (hval 1 35 v1 rfl rfl)
  have k1 := h1
  have lt1 : ∀ x ∈ p1, x.block < W.heap.size := by obtain ⟨m, hm⟩ := k1; exact DataW.trod_lt m _ _ _ hm
  obtain ⟨z1, w1⟩ : ∃ zs, Rs W (.slice a1 len1 cap1) zs := by
    obtain ⟨fuel, hf⟩ := h1
    obtain ⟨v, zs, e, hz⟩ := open_rows hf
    simp [Value.cells] at e
    subst e
    exact ⟨zs, hz⟩
  clear hA0 hval0
  refine (polyValues_any _ _ z0 z1 W w0 w1 g0).mono fun e W' ⟨he, bel⟩ => ?_
  subst he
  exact ⟨_, rfl, _, _, _, [], _, [], hW', trodAll_mk1 (shut_bool Try.underlying4 _), (trodAll_cons_mk (Below.trod laidOut (by kernel_rfl) (of_decide_eq_true (by kernel_rfl)) k0 bel lt0) (trodAll_cons_mk (Below.trod laidOut (by kernel_rfl) (of_decide_eq_true (by kernel_rfl)) k1 bel lt1) trodAll_mk0)), rfl, bel.frame _, fun h => by cases h⟩

theorem polyValues_holds : Rows.PolyValuesSaid :=
  OpenClaim.holds_of_wide 7 Try.f7 rfl rfl rfl rfl rfl rfl rfl ⟨rfl, rfl, rfl, rfl, rfl⟩ rfl rfl rfl rfl rfl (by kernel_rfl) Try.func7 (by kernel_rfl)
    (of_decide_eq_true (by kernel_rfl)) (by unfold Func.isWrapper; first | (rw [if_pos (by decide +kernel)]; kernel_rfl) | (rw [if_neg (by decide +kernel)]; exact ⟨rfl, rfl⟩))
    (fun os started H enc _ => polyValues_lifted os started H enc)

#print axioms polyValues_holds

end Go.Proofs.Ytfifgmcjilkigaa
