/- Proved: for every row of limbs and every number, the law NatRights answers true (which limbs are a natural, and a number's limbs, are as the document says), and its arguments read afterwards as before. No condition. -/
import Derived.Test.YtaekpijpkblkgaaFrame
namespace Go.Proofs.Ytaekpijpkblkgaa
open Go.ChangeShapes Go.WideShapes Go.ChangeAt Go.RowKit
open Go.ChangeMaps (open_string shut_string)

theorem length_limbs_u64 {n : Nat} (h : n ≤ 18446744073709551615) : (limbs n).length ≤ 2 := length_limbs_le (by omega)

set_option maxHeartbeats 800000 in
theorem natRights_any (v : Value) (xs : List Nat) (n : Nat) (w : World) (h : Sl w v xs) (hn : n ≤ 18446744073709551615) :
    Calls Try.prog 3 #[v, .int .u64 (n : Int)] w fun e w' => e = .returned (.bool true) ∧ Below w.heap.size w w' := by
  have h2 := length_limbs_u64 hn
  go_enter Try.func3, Try.ntmps3
  go_wp2_with fail
  refine (shown_any _).mono ?_
  rintro e w1 ⟨rfl, hb1⟩
  have s1 := h.later hb1
  clear h
  go_wp2_with fail
  refine (right_any v xs _ s1).mono ?_
  rintro e w1' ⟨rfl, rfl⟩
  go_wp2_with fail
  refine (refRight_any v xs _ s1).mono ?_
  rintro e w1 ⟨rfl, rfl⟩
  generalize rightB xs = r
  go_wp2_with fail
  refine (of_any n _ hn).mono ?_
  rintro e w2 ⟨vb, rfl, ob, hb⟩
  have hb2 := bnext hb1 hb
  have hz2 := hb1.size
  clear hb hb1 s1
  go_wp2_with fail
  refine (refOf_any n _ hn).mono ?_
  rintro e w3 ⟨vt, rfl, ot, hb⟩
  have ob3 := ob.later hb
  have st := ot.sl
  have hb3 := bnext hb2 hb
  clear hb hb2 ob ot
  go_wp2_with fail
  refine (same_any _ _ _ _ _ ob3.sl st).mono ?_
  rintro e w4 ⟨rfl, k, hw⟩
  have hb : Below w3.heap.size w3 w4 := by rw [hw]; exact below_drewN (Below.refl _ _) k
  have ob4 := ob3.later hb
  have hb4 := bnext hb3 hb
  clear hw hb hb3 ob3 st
  rw [dec_same]
  go_wp2_with fail
  refine (spoil_any _ _ _ _ ob4 (by omega)).mono ?_
  rintro e w5 ⟨rfl, hg⟩
  have hb5 : Below w.heap.size w w5 := hb4.grown hg hb4.size (fun k hk => by have := ob4.block k hk; omega)
  clear hg ob4 hb4
  go_wp2_with fail
  refine (of_any n _ hn).mono ?_
  rintro e w6 ⟨vc, rfl, oc, hb⟩
  have hb6 := bnext hb5 hb
  clear hb hb5
  go_wp2_with fail
  refine (refOf_any n _ hn).mono ?_
  rintro e w7 ⟨vt2, rfl, ot, hb⟩
  have oc7 := (oc.later hb).sl
  have st := ot.sl
  have hb7 := bnext hb6 hb
  clear hb hb6 oc ot
  go_wp2_with fail
  refine (same_any _ _ _ _ _ oc7 st).mono ?_
  rintro e w8 ⟨rfl, k, hw⟩
  have hb8 : Below w.heap.size w w8 := by rw [hw]; exact below_drewN hb7 k
  clear hw hb7 oc7 st
  rw [dec_same]
  go_wp2
  go_ret
  exact ⟨ret1b (by simp), hb8⟩

set_option maxRecDepth 100000 in
theorem natRights_lifted (os : Os) (started : os.Started) (H : Type) (enc : TypeId × Value → H) :
    ReturnsInHanded {} Try.checked os 3 .any (Rows.natRightsSpec.pre6 enc Try.prog Try.f3 Rows.natRightsRow.domain false) (Rows.natRightsSpec.post enc Try.prog Try.f3 false true false false) := by
  refine returnsInHanded_of_change (C := Try.checked) own started (by kernel_rfl) Try.func3
    (ChangeSpec.witness6 (enc := enc) (C := Try.checked) false ⟨#[], #[.slice none 0 0, .int .u64 0], []⟩ 8 (by kernel_rfl) (by kernel_rfl) (by kernel_rfl) (by kernel_rfl)) ?_
  intro W base args ds gs before hval0 hW hcnd _
  have hval : ∀ (j : Nat) t v, Try.f3.params[j]? = some t → args[j]? = some v → Value.okWide Try.prog W .any base t v := hval0
  have hW' := hW
  obtain ⟨p, q, hA0, hV, rfl, hfz, hnd⟩ := hW
  have hA : DataW.TrodAll enc Try.prog W 0 (fun _ => true) true Try.f3.params.toList args.toList ds p := hA0
  rw [Try.params3] at hA hval
  obtain ⟨v0, vs0, d0, ds0, p0, q0, hargs, rfl, rfl, h0, r0⟩ := trodAll_cons hA
  obtain ⟨v1, vs1, d1, ds1, p1, q1, rfl, rfl, rfl, h1, r1⟩ := trodAll_cons r0
  obtain ⟨rfl, rfl, rfl⟩ := trodAll_nil r1
  obtain rfl : args = #[v0, v1] := by cases args; simp_all
  obtain ⟨rfl, rfl⟩ := trodVars_none hV
  obtain ⟨a0, len0, cap0, rfl⟩ := okWide_slice Try.underlying22 (hval 0 22 v0 rfl rfl)
  have k0 := h0
  have lt0 : ∀ x ∈ p0, x.block < W.heap.size := by obtain ⟨m, hm⟩ := k0; exact DataW.trod_lt m _ _ _ hm
  obtain ⟨z0, w0⟩ : ∃ zs, IsRow .u32 W a0 len0 cap0 zs := by
    obtain ⟨fuel, hf⟩ := h0
    rcases open_ints Try.underlying22 Try.underlying42 (by kernel_rfl) hf with ⟨hcs, _⟩ | ⟨x, l, c, zs, hcs, _, hl, hm, hz, _, hcell, hwz⟩
    · simp [Value.cells] at hcs
      obtain ⟨rfl, rfl, rfl⟩ := hcs
      exact ⟨[], .inl ⟨rfl, rfl, rfl, rfl⟩⟩
    · simp [Value.cells] at hcs
      obtain ⟨rfl, rfl, rfl⟩ := hcs
      exact ⟨zs, .inr ⟨_, rfl, hl, hm, by simpa using hz, hcell, hwz⟩⟩
  obtain ⟨a1, rfl, rfl, rfl, w1⟩ := open_int Try.underlying23 (hval 1 23 v1 rfl rfl) h1
  have b1 := bounds_u64 w1
  obtain ⟨n1, rfl⟩ := Int.eq_ofNat_of_zero_le b1.1
  clear hA0 hval0
  refine (natRights_any _ _ n1 W w0.sl (by omega)).mono fun e W' ⟨he, bel⟩ => ?_
  subst he
  exact ⟨_, rfl, _, _, _, [], _, [], hW', trodAll_mk1 (shut_bool Try.underlying4 _), (trodAll_cons_mk (Below.trod laidOut (by kernel_rfl) (of_decide_eq_true (by kernel_rfl)) k0 bel lt0) (trodAll_cons_mk (shut_int Try.underlying23 w1) trodAll_mk0)), rfl, bel.frame _, fun h => by cases h⟩

theorem natRights_holds : Rows.NatRightsSaid :=
  OpenClaim.holds_of_wide 3 Try.f3 rfl rfl rfl rfl rfl rfl rfl ⟨rfl, rfl, rfl, rfl, rfl⟩ rfl rfl rfl rfl rfl (by kernel_rfl) Try.func3 (by kernel_rfl)
    (of_decide_eq_true (by kernel_rfl)) (by unfold Func.isWrapper; first | (rw [if_pos (by decide +kernel)]; kernel_rfl) | (rw [if_neg (by decide +kernel)]; exact ⟨rfl, rfl⟩))
    (fun os started H enc _ => natRights_lifted os started H enc)

#print axioms natRights_holds

end Go.Proofs.Ytaekpijpkblkgaa
