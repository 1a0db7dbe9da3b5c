/- Proved: for every text the law NatParses answers true (a text is read as the document reads it), and its argument reads afterwards as before. No condition. -/
import Derived.Test.YtaekpijpkblkgaaFrame
import Derived.Test.YtaekpijpkblkgaaRefParse
namespace Go.Proofs.Ytaekpijpkblkgaa
open Go.ChangeShapes Go.WideShapes Go.ChangeAt Go.RowKit
open Go.ChangeMaps (open_string shut_string)

set_option maxHeartbeats 800000 in
theorem natParses_any (s : ByteArray) (w : World) (hs : s.size ≤ maxLen) :
    Calls Try.prog 6 #[.string s] w fun e w' => e = .returned (.bool true) ∧ Below w.heap.size w w' := by
  go_enter Try.func6, Try.ntmps6
  go_wp2_with fail
  refine (shown_any _).mono ?_
  rintro e w0 ⟨rfl, hb_0⟩
  go_wp2_with fail
  refine (parse_any _ _ hs).mono ?_
  rintro e w1 ⟨va, rfl, oa, hb⟩
  have sa_1 := oa.sl
  clear oa
  have hb_1 := bnext hb_0 hb
  clear hb hb_0 
  go_wp2_with fail
  refine (refParse_any _ _ hs).mono ?_
  rintro e w2 ⟨vb, rfl, ob, hb⟩
  have sb_2 := ob.sl
  clear ob
  have sa_2 := sa_1.later hb
  have hb_2 := bnext hb_1 hb
  clear hb hb_1 sa_1
  go_wp2_with fail
  refine (same_any _ _ _ _ _ sa_2 sb_2).mono ?_
  rintro e w3 ⟨rfl, nd, hw⟩
  have hb := below_of_drawn hw
  clear hw
  rw [dec_same]
  have sa_3 := sa_2.later hb
  have sb_3 := sb_2.later hb
  have hb_3 := bnext hb_2 hb
  clear hb hb_2 sa_2 sb_2
  generalize parseE s.data.toList = E
  go_wp2
  go_ret
  exact ⟨ret1b (by simp), hb_3⟩

set_option maxRecDepth 100000 in
theorem natParses_lifted (os : Os) (started : os.Started) (H : Type) (enc : TypeId × Value → H) :
    ReturnsInHanded {} Try.checked os 6 .any (Rows.natParsesSpec.pre6 enc Try.prog Try.f6 Rows.natParsesRow.domain false) (Rows.natParsesSpec.post enc Try.prog Try.f6 false true false false) := by
  refine returnsInHanded_of_change (C := Try.checked) own started (by kernel_rfl) Try.func6
    (ChangeSpec.witness6 (enc := enc) (C := Try.checked) false ⟨#[], #[.string ByteArray.empty], []⟩ 8 (by kernel_rfl) (by kernel_rfl) (by kernel_rfl) (by kernel_rfl)) ?_
  intro W base args ds gs before hval0 hW hcnd _
  have hval : ∀ (j : Nat) t v, Try.f6.params[j]? = some t → args[j]? = some v → Value.okWide Try.prog W .any base t v := hval0
  have hW' := hW
  obtain ⟨p, q, hA0, hV, rfl, hfz, hnd⟩ := hW
  have hA : DataW.TrodAll enc Try.prog W 0 (fun _ => true) true Try.f6.params.toList args.toList ds p := hA0
  rw [Try.params6] at hA hval
  obtain ⟨v0, vs0, d0, ds0, p0, q0, hargs, rfl, rfl, h0, r0⟩ := trodAll_cons hA
  obtain ⟨rfl, rfl, rfl⟩ := trodAll_nil r0
  obtain rfl : args = #[v0] := by cases args; simp_all
  obtain ⟨rfl, rfl⟩ := trodVars_none hV
  obtain ⟨a0, rfl, rfl, rfl, w0⟩ := open_string Try.underlying9 (hval 0 9 v0 rfl rfl) h0
  clear hA0 hval0
  refine (natParses_any a0 W w0).mono fun e W' ⟨he, bel⟩ => ?_
  subst he
  exact ⟨_, rfl, _, _, _, [], _, [], hW', trodAll_mk1 (shut_bool Try.underlying4 _), (trodAll_cons_mk (shut_string Try.underlying9 w0) trodAll_mk0), rfl, bel.frame _, fun h => by cases h⟩

theorem natParses_holds : Rows.NatParsesSaid :=
  OpenClaim.holds_of_wide 6 Try.f6 rfl rfl rfl rfl rfl rfl rfl ⟨rfl, rfl, rfl, rfl, rfl⟩ rfl rfl rfl rfl rfl (by kernel_rfl) Try.func6 (by kernel_rfl)
    (of_decide_eq_true (by kernel_rfl)) (by unfold Func.isWrapper; first | (rw [if_pos (by decide +kernel)]; kernel_rfl) | (rw [if_neg (by decide +kernel)]; exact ⟨rfl, rfl⟩))
    (fun os started H enc _ => natParses_lifted os started H enc)

#print axioms natParses_holds

end Go.Proofs.Ytaekpijpkblkgaa
