/- For every signature, every three rules and every number MatchKinds of layer 5 returns true and leaves what was handed in as it was; its condition: the two tables of the package unicode utf8 are as the text of the program lays them (the card ties them, over the pruned copy). -/
import Derived.Test.YtjcgngfidnechabDoorOwn14
import Derived.Test.YtjcgngfidnechabDoorOwn15
import Derived.Test.YtjcgngfidnechabDoorTie
import Derived.Test.YtjcgngfidnechabDoorCards
import Derived.SevenTiedAt
namespace Go.Proofs.YtjcgngfidnechabDoor
open Go.ChangeShapes Go.WideShapes Go.ChangeAt Go.RowKit Go.Deep

set_option maxRecDepth 100000 in
theorem matchKinds_lifted (os : Os) (started : os.Started) (H : Type) (enc : TypeId × Value → H) :
    ReturnsInHanded {} Tryd.checked os 7 .any (fun w args => (Rows.matchKindsSpec.pre enc Tryd.prog Tryd.f7 [] false w args ∧ laidMetH Tryd.prog laidT w) ∧ sizedMet enc Tryd.prog Tryd.f7 (OpenSpec.ofChange Rows.matchKindsSpec) false w args)
      (Rows.matchKindsSpec.post enc Tryd.prog Tryd.f7 false true false false) := by
  refine returnsInHanded_of_change_and (C := Tryd.checked) (X := fun w _ => laidMetH Tryd.prog laidT w) (fun _ _ _ hh h => h.of_heap hh) own started (by kernel_rfl) Tryd.func7
    (ChangeSpec.witness_shaped (enc := enc) (C := Tryd.checked) (os := os) (X := fun w _ => laidMetH Tryd.prog laidT w) false (laidWorld os) #[.slice none 0 0, .agg #[.slice none 0 0, .slice none 0 0, .slice none 0 0, .slice none 0 0, .slice none 0 0, .slice none 0 0], .int .i64 0] 8 rfl (World.shaped_of_RefB (by kernel_rfl) (by kernel_rfl)) (by kernel_rfl) (by kernel_rfl) (by kernel_rfl) (door_met os _)) ?_
  intro W base args ds gs before hval0 hW _ hsz0 hL _
  have hsz : (DataW.weightsEach Tryd.prog (Tryd.f7.params.toList ++ Rows.matchKindsSpec.plain.varTypes Tryd.prog) (ds ++ gs)).all (· ≤ reachBytes) = true := hsz0
  have hval : ∀ (j : Nat) t v, Tryd.f7.params[j]? = some t → args[j]? = some v → Value.okWide Tryd.prog W .any base t v := hval0
  have hW' := hW
  obtain ⟨p, q, hA0, hV, rfl, hfz, hnd⟩ := hW'
  have hA : DataW.TrodAll enc Tryd.prog W 0 (fun _ => true) true Tryd.f7.params.toList args.toList ds p := hA0
  rw [Tryd.params7] at hA hval hsz
  obtain ⟨v0, vs0, d0, ds0, p0, q0, hargs, rfl, rfl, h0, r0⟩ := trodAll_cons hA
  obtain ⟨v1, vs1, d1, ds1, p1, q1, rfl, rfl, rfl, h1, r1⟩ := trodAll_cons r0
  obtain ⟨v2, vs2, d2, ds2, p2, q2, rfl, rfl, rfl, h2, r2⟩ := trodAll_cons r1
  obtain ⟨rfl, rfl, rfl⟩ := trodAll_nil r2
  obtain rfl : args = #[v0, v1, v2] := by cases args; simp_all
  obtain ⟨rfl, rfl⟩ := trodVars_none hV
  obtain ⟨a0, len0, cap0, rfl⟩ := okWide_slice Tryd.underlying22 (hval 0 22 v0 rfl rfl)
  have k0 := h0
  have lt0 : ∀ x ∈ p0, x.block < W.heap.size := by obtain ⟨m, hm⟩ := k0; exact DataW.trod_lt m _ _ _ hm
  obtain ⟨z0, w0⟩ : ∃ zs, Sg W (.slice a0 len0 cap0) zs := by
    obtain ⟨fuel, hf⟩ := h0
    obtain ⟨v, zs, e, hz⟩ := open_syms hf
    simp [Value.cells] at e
    subst e
    exact ⟨zs, hz⟩
  obtain ⟨cs1, rfl, _⟩ := okWide_arr Tryd.underlying48 (hval 1 48 v1 rfl rfl)
  have k1 := h1
  have lt1 : ∀ x ∈ p1, x.block < W.heap.size := by obtain ⟨m, hm⟩ := k1; exact DataW.trod_lt m _ _ _ hm
  obtain ⟨x0z, x1z, x2z, x3z, x4z, x5z, z0z, z1z, z2z, z3z, z4z, z5z, hcs1, ⟨i0z, i1z, i2z, i3z, i4z, i5z⟩, l0z, l1z, l2z, l3z, l4z, l5z⟩ : ∃ (v0 v1 v2 v3 v4 v5 : Value) (z0 z1 z2 z3 z4 z5 : List Int), cs1.toList = [v0, v1, v2, v3, v4, v5] ∧ (Is W v0 z0 ∧ Is W v1 z1 ∧ Is W v2 z2 ∧ Is W v3 z3 ∧ Is W v4 z4 ∧ Is W v5 z5) ∧ (z0.length * 8 ≤ 140737488351232 ∧ z1.length * 8 ≤ 140737488351232 ∧ z2.length * 8 ≤ 140737488351232 ∧ z3.length * 8 ≤ 140737488351232 ∧ z4.length * 8 ≤ 140737488351232 ∧ z5.length * 8 ≤ 140737488351232) := by
    obtain ⟨fuel, hf⟩ := h1
    exact open_rules3 hf (fun n hn => of_decide_eq_true (List.all_eq_true.1 hsz _ (DataW.weights_mem_each (j := 1) (t := 48) rfl rfl n hn)))
  obtain rfl : cs1 = #[x0z, x1z, x2z, x3z, x4z, x5z] := by cases cs1; simpa using hcs1
  obtain ⟨a2, rfl, rfl, rfl, w2⟩ := open_int Tryd.underlying3 (hval 2 3 v2 rfl rfl) h2
  have b2 := bounds_i64 w2
  clear hA0 hval0
  refine (matchKinds_any _ _ _ _ _ _ _ z0 z0z z1z z2z z3z z4z z5z a2 W w0 i0z i1z i2z i3z i4z i5z (tabs_of_laid hL) l0z l1z l2z l3z l4z l5z b2.1 b2.2).mono fun e W' ⟨he, bel⟩ => ?_
  subst he
  exact ⟨_, rfl, _, _, _, [], _, [], hW, trodAll_mk1 (shut_bool Tryd.underlying4 _), (trodAll_cons_mk (Below.trod laidOut (by kernel_rfl) (of_decide_eq_true (by kernel_rfl)) k0 bel lt0) (trodAll_cons_mk (Below.trod laidOut (by kernel_rfl) (of_decide_eq_true (by kernel_rfl)) k1 bel lt1) (trodAll_cons_mk (shut_int Tryd.underlying3 w2) trodAll_mk0))), rfl, bel.frame _, fun h => by cases h⟩

theorem matchKinds_holds : Rows.MatchKindsSaid :=
  OpenClaim.holds_of_wide 7 Tryd.f7 rfl rfl rfl rfl rfl rfl rfl ⟨rfl, rfl, rfl, rfl, rfl⟩ rfl rfl rfl rfl rfl (by kernel_rfl) Tryd.func7 (by kernel_rfl)
    (of_decide_eq_true (by kernel_rfl)) (by unfold Func.isWrapper; first | (rw [if_pos (by decide +kernel)]; kernel_rfl) | (rw [if_neg (by decide +kernel)]; exact ⟨rfl, rfl⟩))
    (fun os started H enc _ => matchKinds_lifted os started H enc)

theorem matchKinds_card : Rows.MatchKindsCardSaid :=
  Claim7.holds_tied_plain_at .later [] _ _ _ _
    matchKinds_holds (fun _ h => by cases h) (by kernel_rfl) (fun _ h => by cases h) matchKinds_row_tie rfl ⟨rfl, rfl⟩ (by kernel_rfl) rfl
    (fun f fn hf hfn => by
      obtain rfl : f = 7 := Option.some.inj ((show Tryd.prog.funcNamed "lodestone/lodestonelaw05.MatchKinds" = some 7 by kernel_rfl).symm.trans hf) |>.symm
      obtain rfl : fn = Tryd.f7 := (Option.some.inj (Tryd.func7.symm.trans hfn)).symm
      exact ⟨by kernel_rfl, fun j t ht => by
        rw [Tryd.params7] at ht
        have hm : t ∈ [22, 48, 3] := by simpa using Array.mem_of_getElem? ht
        have hall : ([22, 48, 3].all fun u => !Tryd.prog.wantsStandIn u) = true := by kernel_rfl
        exact (show Tryd.prog.wantsStandIn t = false by simpa using List.all_eq_true.1 hall t hm)⟩)
    (by kernel_rfl)

#print axioms matchKinds_card

end Go.Proofs.YtjcgngfidnechabDoor
