/- For every system, all interpretations, every row and all numbers (together of bulk at most 1048576: the Upto form) InterpSteps of layer 12 returns true and leaves what was handed in as it was; its condition: the two tables of the package unicode utf8 are as the text of the program lays them (the card ties them, over the pruned copy). -/
import Derived.Test.YtdjmjhlbjcgoiaaGreatDoorOwn28
import Derived.Test.YtdjmjhlbjcgoiaaGreatDoorOwn29
import Derived.Test.YtdjmjhlbjcgoiaaGreatDoorOwn30
import Derived.Test.YtdjmjhlbjcgoiaaGreatDoorTie
import Derived.Test.YtdjmjhlbjcgoiaaGreatDoorCards
import Derived.SevenTiedAt
import Derived.Deep.DeepHandedRow
set_option maxRecDepth 1000000
set_option maxHeartbeats 6400000
namespace Go.Proofs.YtdjmjhlbjcgoiaaGreatDoor
open Go.ChangeShapes Go.WideShapes Go.ChangeAt Go.RowKit Go.Deep
theorem interpSteps_reads (os : Os) {H : Type} (enc : TypeId × Value → H) : ∃ places, DataW.whole enc Tryz.prog ((laidWorld os).forCall (fun _ _ => 0) ⟨#[], #[.agg #[.slice none 0 0, .slice none 0 0], .slice none 0 0, .slice none 0 0, .slice none 0 0], []⟩).memory Tryz.f8.params.toList Rows.interpStepsSpec.vars false [.agg #[.slice none 0 0, .slice none 0 0], .slice none 0 0, .slice none 0 0, .slice none 0 0] 8 = some ([.agg [.nil, .nil], .nil, .nil, .nil], [], places) :=
 ⟨[], by kernel_rfl⟩
theorem interpSteps_lifted (os : Os) (started : os.Started) (H : Type) (enc : TypeId × Value → H) (F : Stop.Interp) :
  ReturnsInHanded {} Tryz.checked os 8 .any ((Rows.OpenSpec.upto Rows.interpStepsSpec).preRow enc Tryz.prog Tryz.f8 Rows.interpStepsUptoRow.domain false Rows.interpStepsUptoRow.laid) (((Rows.OpenSpec.upto Rows.interpStepsSpec).at F).post enc Tryz.prog Tryz.f8 false true false false) := by
 obtain ⟨places, hx⟩ := interpSteps_reads os enc
 refine returnsInHanded_of_row (C := Tryz.checked) (s := Rows.OpenSpec.upto Rows.interpStepsSpec) own started (by kernel_rfl) Tryz.func8
  (witness_row_at (enc := enc) (C := Tryz.checked) false (laidWorld os) #[.agg #[.slice none 0 0, .slice none 0 0], .slice none 0 0, .slice none 0 0, .slice none 0 0] rfl (by kernel_rfl) (by kernel_rfl) (by kernel_rfl)
   (OpenSpec.preRow_of_cond 8 hx (by kernel_rfl) (fun k hk => by cases hk; kernel_rfl) (by kernel_rfl) (laidMet_of_run' 8 (by kernel_rfl) (by kernel_rfl)))) ?_
 intro W base args ds gs before hval0 hW _ hcond hsz0 hL _ _
 have hk := hcond _ rfl
 have hsz : (DataW.weightsEach Tryz.prog (Tryz.f8.params.toList ++ Rows.interpStepsSpec.plain.varTypes Tryz.prog) (ds ++ gs)).all (· ≤ reachBytes) = true := hsz0
 have hval : ∀ (j : Nat) t v, Tryz.f8.params[j]? = some t → args[j]? = some v → Value.okWide Tryz.prog W .any base t v := hval0
 have hW' := hW
 obtain ⟨p, q, hA0, hV, rfl, hfz, hnd⟩ := hW'
 have hA : DataW.TrodAll enc Tryz.prog W 0 (fun _ => true) true Tryz.f8.params.toList args.toList ds p := hA0
 rw [Tryz.params8] at hA hval hsz
 obtain ⟨v0, vs0, d0, ds0, p0, q0, hargs, rfl, rfl, h0, r0⟩ := trodAll_cons hA
 obtain ⟨v1, vs1, d1, ds1, p1, q1, rfl, rfl, rfl, h1, r1⟩ := trodAll_cons r0
 obtain ⟨v2, vs2, d2, ds2, p2, q2, rfl, rfl, rfl, h2, r2⟩ := trodAll_cons r1
 obtain ⟨v3, vs3, d3, ds3, p3, q3, rfl, rfl, rfl, h3, r3⟩ := trodAll_cons r2
 obtain ⟨rfl, rfl, rfl⟩ := trodAll_nil r3
 obtain rfl : args = #[v0, v1, v2, v3] := by cases args; simp_all
 obtain ⟨rfl, rfl⟩ := trodVars_none hV
 have hbk : Rows.uptoBulkAll [d0, d1, d2, d3] ≤ 1048576 := by
  have h9 := of_decide_eq_true hk
  simpa using h9
 simp only [Rows.uptoBulkAll] at hbk
 obtain ⟨cs0, rfl, _⟩ := okWide_struct Tryz.underlying64 (hval 0 64 v0 rfl rfl)
 have k0 := h0
 have lt0 : ∀ x ∈ p0, x.block < W.heap.size := by obtain ⟨m, hm⟩ := k0; exact DataW.trod_lt m _ _ _ hm
 obtain ⟨x0, y0, p0z, q0z, hcs0, i0, k0z, l0⟩ : ∃ v0 v1 p q, cs0.toList = [v0, v1] ∧ Sg W v0 p ∧ RU W v1 q ∧ ∀ r ∈ q, r.1.length ≤ Rows.uptoBulk d0 ∧ r.2.length ≤ Rows.uptoBulk d0 := by
  obtain ⟨fuel, hf⟩ := h0
  obtain ⟨v0, v1, p, q, e, hp, hq⟩ := open_system hf (fun n hn => of_decide_eq_true (List.all_eq_true.1 hsz _ (DataW.weights_mem_each (j := 0) (t := 64) rfl rfl n hn)))
  have hf2 := hf
  change DataW.trod _ _ _ _ _ _ _ _ cs0.toList = _ at hf2
  rw [show cs0.toList = [v0, v1] from e] at hf2
  exact ⟨v0, v1, p, q, e, hp, hq, bulk_system hf2 hq⟩
 obtain rfl : cs0 = #[x0, y0] := by cases cs0; simpa using hcs0
 obtain ⟨a1, len1, cap1, rfl⟩ := okWide_slice Tryz.underlying23 (hval 1 23 v1 rfl rfl)
 have k1 := h1
 have lt1 : ∀ x ∈ p1, x.block < W.heap.size := by obtain ⟨m, hm⟩ := k1; exact DataW.trod_lt m _ _ _ hm
 obtain ⟨z1, w1, g1⟩ : ∃ zs, Ins W (.slice a1 len1 cap1) zs ∧ FitN 140737488351232 zs := by
  obtain ⟨fuel, hf⟩ := h1
  obtain ⟨v, zs, e, hz, hl⟩ := open_interps hf (fun n hn => of_decide_eq_true (List.all_eq_true.1 hsz _ (DataW.weights_mem_each (j := 1) (t := 23) rfl rfl n hn)))
  simp [Value.cells] at e
  subst e
  exact ⟨zs, hz, hl⟩
 obtain ⟨a2, len2, cap2, rfl⟩ := okWide_slice Tryz.underlying30 (hval 2 30 v2 rfl rfl)
 have k2 := h2
 have lt2 : ∀ x ∈ p2, x.block < W.heap.size := by obtain ⟨m, hm⟩ := k2; exact DataW.trod_lt m _ _ _ hm
 obtain ⟨z2, w2, g2, l2⟩ : ∃ zs, Is W (.slice a2 len2 cap2) zs ∧ zs.length * 8 ≤ reachBytes ∧ zs.length ≤ Rows.uptoBulk d2 := by
  obtain ⟨fuel, hf⟩ := h2
  obtain ⟨v, zs, e, hz, hfit⟩ := open_nums hf
  simp [Value.cells] at e
  subst e
  exact ⟨zs, hz, hfit _ (fun n hn => of_decide_eq_true (List.all_eq_true.1 hsz _ (DataW.weights_mem_each (j := 2) (t := 30) rfl rfl n hn))), bulk_nums hf hz⟩
 obtain ⟨a3, len3, cap3, rfl⟩ := okWide_slice Tryz.underlying54 (hval 3 54 v3 rfl rfl)
 have k3 := h3
 have lt3 : ∀ x ∈ p3, x.block < W.heap.size := by obtain ⟨m, hm⟩ := k3; exact DataW.trod_lt m _ _ _ hm
 obtain ⟨z3, w3⟩ : ∃ zs, RsY W (.slice a3 len3 cap3) zs := by
  obtain ⟨fuel, hf⟩ := h3
  obtain ⟨v, zs, e, hz⟩ := open_rowsY hf
  simp [Value.cells] at e
  subst e
  exact ⟨zs, hz⟩
 clear hA0 hval0
 refine (interpSteps_any shown12_any _ _ _ _ _ p0z q0z z1 z2 z3 W i0 k0z w1 w2 w3 (tabs_of_laid hL) (by omega) (fun r hr => by have := l0 r hr; omega)).mono fun e W' ⟨he, bel⟩ => ?_
 subst he
 exact ⟨_, rfl, _, _, _, [], _, [], hW, trodAll_mk1 (shut_bool Tryz.underlying4 _), (trodAll_cons_mk (Below.trod laidOut (by kernel_rfl) (of_decide_eq_true (by kernel_rfl)) k0 bel lt0) (trodAll_cons_mk (Below.trod laidOut (by kernel_rfl) (of_decide_eq_true (by kernel_rfl)) k1 bel lt1) (trodAll_cons_mk (Below.trod laidOut (by kernel_rfl) (of_decide_eq_true (by kernel_rfl)) k2 bel lt2) (trodAll_cons_mk (Below.trod laidOut (by kernel_rfl) (of_decide_eq_true (by kernel_rfl)) k3 bel lt3) trodAll_mk0)))), rfl, bel.frame _, fun h => by cases h⟩
theorem interpSteps_holds : Rows.InterpStepsUptoSaid :=
 OpenClaim.holds_of_cond 8 Tryz.f8 rfl rfl rfl rfl rfl rfl rfl ⟨rfl, rfl, rfl, rfl, rfl⟩ rfl rfl rfl rfl rfl (by kernel_rfl) Tryz.func8 (by kernel_rfl)
  (of_decide_eq_true (by kernel_rfl)) (by unfold Func.isWrapper; first | (rw [if_pos (by decide +kernel)]; kernel_rfl) | (rw [if_neg (by decide +kernel)]; exact ⟨rfl, rfl⟩))
  (fun os started H enc _ F => by rw [OpenClaim.pre_eq_preRow]; exact interpSteps_lifted os started H enc F)
theorem interpSteps_card : Rows.InterpStepsUptoCardSaid :=
 Claim7.holds_tied_plain_at .later [] _ _ _ _
  interpSteps_holds (fun _ h => by cases h) (by kernel_rfl) (fun _ h => by cases h) interpStepsUpto_row_tie rfl ⟨rfl, rfl⟩ (by kernel_rfl) rfl
  (fun f fn hf hfn => by
   obtain rfl : f = 8 := Option.some.inj ((show Tryz.prog.funcNamed "lodestone/lodestonelaw12.InterpSteps" = some 8 by kernel_rfl).symm.trans hf) |>.symm
   obtain rfl : fn = Tryz.f8 := (Option.some.inj (Tryz.func8.symm.trans hfn)).symm
   exact ⟨by kernel_rfl, fun j t ht => by
    rw [Tryz.params8] at ht
    have hm : t ∈ [64, 23, 30, 54] := by simpa using Array.mem_of_getElem? ht
    have hall : ([64, 23, 30, 54].all fun u => !Tryz.prog.wantsStandIn u) = true := by kernel_rfl
    exact (show Tryz.prog.wantsStandIn t = false by simpa using List.all_eq_true.1 hall t hm)⟩)
  (by kernel_rfl)
#print axioms interpSteps_card
end Go.Proofs.YtdjmjhlbjcgoiaaGreatDoor
