/- copied and sameBinds of the law file. -/
import Derived.Test.YtifpanfgojfbkaaDoorTBind
import Derived.Test.YtifpanfgojfbkaaDoorTShownC
namespace Go.Proofs.YtifpanfgojfbkaaDoor
open Go.RowKit Go.Maps Go.BigFrame

set_option maxRecDepth 100000 in
set_option maxHeartbeats 3200000 in
theorem copied_any (v : Value) (s : List Bd) (w : World) (h : Bs w v s) (hpl : s.length * 32 ≤ 140737488351232) :
    Calls Tryd.prog 10 #[v] w fun e w' => ∃ v', e = .returned v' ∧ Bs w' v' s ∧ Below w.heap.size w w' := by
  obtain ⟨ao, cap, rfl, hao, hca, q0⟩ := Row.flat h
  unfold maxLen at hca
  have HP := hid h
  clear h q0
  go_enter Tryd.func10, Tryd.ntmps10
  go_wp2
  go_loopw [3, 4] (fun x i wr => ∃ k : Nat, k ≤ s.length ∧ i = .int .i64 k ∧ OB w wr x (s.take k) ∧ Below w.heap.size w wr) (fun _ i _ => s.length - (intOf i).toNat)
  case atStart => exact ⟨0, Nat.zero_le _, rfl, OB.empty w w (Nat.le_refl _), below_alloc _⟩
  case round =>
    obtain ⟨k, hk, rfl, hom, hbl⟩ := hrel
    by_cases hlt : k < s.length
    · obtain ⟨g, off, x, ba, t, bc, rfl, hm, hc0, hc1, hit, hx1, hx2, hx3⟩ := HP.out.at hlt
      have HX := hid hm
      have HIt := hid hit
      have HOm := hid hom
      have HTk : Hid ((s.take k).length = k) := by show _ = _; rw [List.length_take]; omega
      have hwr := hbl.size
      have hS : Below w.heap.size w wr.drew := hbl.drew
      have bW : Below wr.heap.size wr wr.drew := (Below.refl _ _).drew
      clear hm hit hom hbl
      go_wp2_with fail
      refine wp_region_held_drew (S := fun w' => Below w.heap.size w w') (by kernel_rfl) hS (fun _ => ?_)
      obtain ⟨W0, hW0⟩ : ∃ X, X = wr.drew := ⟨_, rfl⟩
      rw [← hW0] at hS bW ⊢
      clear hW0
      refine wpAnyH_take (i := 0) (v := u3) rfl (by kernel_rfl) (by kernel_rfl) (by kernel_rfl) (fun _ _ _ h => h) (Or.inl ⟨by rfl, fun w' _ => by go_simp⟩) hS ?_
      simp only [Act.put, List.setIfInBounds_toArray]
      refine wpAnyH_take (i := 1) (v := .slice (some ⟨g, off, none⟩) s.length cap) rfl (by kernel_rfl) (by kernel_rfl) (by kernel_rfl) (fun _ _ _ h => h) (Or.inl ⟨by rfl, fun w' _ => by go_simp⟩) hS ?_
      simp only [Act.put]
      refine wpAnyH_take (i := 2) (v := .int .i64 (k : Int)) rfl (by kernel_rfl) (by kernel_rfl) (by kernel_rfl) (fun _ _ _ h => h) (Or.inl ⟨by rfl, fun w' _ => by go_simp⟩) hS ?_
      simp only [Act.put]
      refine wpAnyH_take (i := 3) (v := .pointer (some ⟨g, off + k * 2, none⟩)) rfl (by kernel_rfl) (by kernel_rfl) (by kernel_rfl) (fun _ _ _ h => h) (Or.inl ⟨by rfl, fun w' _ => by go_simp⟩) hS ?_
      simp only [Act.put]
      refine wpAnyH_take (i := 4) (v := .pointer (some ⟨g, off + k * 2, none⟩)) rfl (by kernel_rfl) (by kernel_rfl) (by kernel_rfl) (fun _ _ _ h => h) (Or.inl ⟨by rfl, fun w' _ => by go_simp⟩) hS ?_
      simp only [Act.put]
      refine wpAnyH_take (i := 5) (v := .int .i64 x) rfl (by kernel_rfl) (by kernel_rfl) (by kernel_rfl) (fun _ _ _ h => h) (Or.inl ⟨by rfl, fun w' h => by have hh := (Kp.of_below h).cell _ _ hc0; go_simp⟩) hS ?_
      simp only [Act.put]
      refine wpAnyH_take (i := 7) (v := .slice (some ⟨g, off, none⟩) s.length cap) rfl (by kernel_rfl) (by kernel_rfl) (by kernel_rfl) (fun _ _ _ h => h) (Or.inl ⟨by rfl, fun w' _ => by go_simp⟩) hS ?_
      simp only [Act.put]
      refine wpAnyH_take (i := 8) (v := .int .i64 (k : Int)) rfl (by kernel_rfl) (by kernel_rfl) (by kernel_rfl) (fun _ _ _ h => h) (Or.inl ⟨by rfl, fun w' _ => by go_simp⟩) hS ?_
      simp only [Act.put]
      refine wpAnyH_take (i := 9) (v := .pointer (some ⟨g, off + k * 2, none⟩)) rfl (by kernel_rfl) (by kernel_rfl) (by kernel_rfl) (fun _ _ _ h => h) (Or.inl ⟨by rfl, fun w' _ => by go_simp⟩) hS ?_
      simp only [Act.put]
      refine wpAnyH_take (i := 10) (v := .pointer (some ⟨g, off + k * 2 + 1, none⟩)) rfl (by kernel_rfl) (by kernel_rfl) (by kernel_rfl) (fun _ _ _ h => h) (Or.inl ⟨by rfl, fun w' _ => by go_simp⟩) hS ?_
      simp only [Act.put]
      refine wpAnyH_take (i := 11) (v := .slice ba t.length bc) rfl (by kernel_rfl) (by kernel_rfl) (by kernel_rfl) (fun _ _ _ h => h) (Or.inl ⟨by rfl, fun w' h => by have hh := (Kp.of_below h).cell _ _ hc1; go_simp⟩) hS ?_
      simp only [Act.put]
      refine wpAnyH_ready (rs := [6]) (by kernel_rfl) (by simp) (AllReadyH.cons rfl (fun K hK => ?_) AllReadyH.nil)
      go_simp
      refine hK.out _ _ (below_step hS (below_alloc _)) (fun hSn => ?_)
      clear hK K
      obtain ⟨W1, hWn⟩ : ∃ X, X = W0.alloc (.cells #[] 3) := ⟨_, rfl⟩
      have bn : Below W0.heap.size W0 W1 := by rw [hWn]; exact below_alloc _
      have A : W1.ownsRow wr.heap.size 3 1 (.slice (some ⟨W0.heap.size, 0, none⟩) 0 0) 0 [] := by rw [hWn]; exact empty_row _ bW.size
      rw [← hWn] at hSn ⊢
      clear hWn hS
      have bW2 := below_step bW bn
      clear bW bn
      refine wpAnyH_ready (rs := [12]) (by kernel_rfl) (by simp) (AllReadyH.cons rfl (fun K hK => ?_) AllReadyH.nil)
      obtain ⟨v1, W2, hr, ho, hg⟩ := copy_ints 30 A (HIt.out.kp (Kp.of_below hSn)) bW2.size (by omega)
      refine step_append_run rfl _ _ 30 rfl _ _ rfl rfl hr ?_
      have hge := own_ge A
      refine hK.out _ _ (hSn.grown hg hSn.size (fun j hj => by cases hj; exact Nat.le_trans hwr hge)) (fun hS2 => ?_)
      clear hK K hr
      simp only [Act.put, List.setIfInBounds_toArray]
      have bW3 := bW2.grown hg bW2.size (fun j hj => by cases hj; exact hge)
      clear A hge hg bW2 hSn
      have HRow : Hid (EBd w W2 v1 (x, t)) := ⟨.inl (ho.mono hwr), hx1, hx2, hx3⟩
      obtain ⟨b1, d1, rfl, _, _⟩ := ho.shape
      clear ho
      refine wpAnyH_take (i := 13) (v := .agg #[.int .i64 x, .slice b1 t.length d1]) rfl (by kernel_rfl) (by kernel_rfl) (by kernel_rfl) (fun _ _ _ h => h) (Or.inl ⟨by rfl, fun w' _ => by go_simp⟩) hS2 ?_
      simp only [Act.put]
      refine wpAnyH_ready (rs := [14]) (by kernel_rfl) (by simp) (AllReadyH.cons rfl (fun K hK => ?_) AllReadyH.nil)
      go_simp
      refine hK.out _ _ (below_step hS2 (below_alloc _)) (fun hS3 => ?_)
      clear hK K
      refine wpAnyH_ready (rs := [15]) (by kernel_rfl) (by simp) (AllReadyH.cons rfl (fun K hK => ?_) AllReadyH.nil)
      obtain ⟨v3, W9, hr9, ho9, hb9⟩ := (HOm.out.later bW3).snoc 23 hS2 HRow.out (by rw [HTk.out]; omega)
      refine step_append_run rfl _ _ 23 rfl _ _ rfl rfl hr9 ?_
      refine hK.out _ _ hb9 (fun hS9 => ?_)
      clear hK K hr9
      simp only [Act.put, List.setIfInBounds_toArray]
      refine wpAnyH_take (i := 16) (v := v3) rfl (by kernel_rfl) (by kernel_rfl) (by kernel_rfl) (fun _ _ _ h => h) (Or.inl ⟨by rfl, fun w' _ => by go_simp⟩) hS9 ?_
      simp only [Act.put]
      refine wpAnyH_done (by kernel_rfl) ?_ _
      rw [← take_get HX.out] at ho9
      have HO9 := hid ho9
      have HB9 := hid hb9
      clear ho9 hb9 hS9 hS3 hS2 bW3
      go_wp2
      go_roundw
      case rel => exact ⟨k + 1, by omega, by go_num, HO9.out, HB9.out⟩
      case measure => simp [intOf]; omega
    · have hke : k = s.length := by omega
      subst hke
      rw [List.take_length] at hom
      have HF := hid (hom.bs hbl)
      go_wp2
      go_ret
      exact ⟨_, rfl, HF.out, hbl⟩

set_option maxRecDepth 100000 in
set_option maxHeartbeats 1600000 in
theorem sameBinds_any (v u : Value) (a : List Bd) (w : World) (h : Bs w v a) (h' : Bs w u a) :
    Calls Tryd.prog 13 #[v, u] w fun e w' => e = .returned (.bool true) ∧ Below w.heap.size w w' := by
  obtain ⟨ao, cap, rfl, hao, hca, _⟩ := Row.flat h
  obtain ⟨bo, cap', rfl, hbo, hcb, _⟩ := Row.flat h'
  unfold maxLen at hca hcb
  have HA := hid h
  have HB := hid h'
  clear h h'
  have hle : ((a.length : Int) != a.length) = false := by simp
  go_enter Tryd.func13, Tryd.ntmps13
  go_wp2
  go_loopw [5] (fun i wr => ∃ k : Nat, k ≤ a.length ∧ i = .int .i64 k ∧ Below w.heap.size w wr) (fun i _ => a.length - (intOf i).toNat)
  case atStart => exact ⟨0, Nat.zero_le _, rfl, Below.refl _ _⟩
  case round =>
    obtain ⟨k, hk, rfl, hbl⟩ := hrel
    have HBl := hid hbl
    by_cases hlt : k < a.length
    · obtain ⟨g, off, x, xa, t, xc, rfl, hm, hc0, hc1, hit, hx1, hx2, hx3⟩ := (HA.out.kp (Kp.of_below hbl)).at hlt
      obtain ⟨g', off', y, ya, t', yc, rfl, hm', hd0, hd1, hjt, hy1, hy2, hy3⟩ := (HB.out.kp (Kp.of_below hbl)).at hlt
      obtain ⟨rfl, rfl⟩ : x = y ∧ t = t' := by rw [hm] at hm'; simpa using hm'
      have hxx : (x != x) = false := by simp
      have HC : Hid (∀ W, Below wr.heap.size wr W → Calls Tryd.prog 16 #[.slice xa t.length xc, .slice ya t.length yc] W fun e w' => e = .returned (.bool true) ∧ Below W.heap.size W w') := fun W hW => by
        refine (same_any _ _ t t W (hit.kp (Kp.of_below hW)) (hjt.kp (Kp.of_below hW))).mono ?_
        rintro e w' ⟨rfl, n, hw⟩
        exact ⟨by rw [decide_eq_true rfl], drawn_below hw⟩
      clear hm hm' hit hjt hbl
      go_wp2_with fail
      refine region_below (by kernel_rfl) (by kernel_rfl) ?_
      (go_big_quiet_want; go_big_quiet_op; go_big_quiet_on)
      (go_big_quiet_want; go_big_quiet_op; go_big_quiet_on)
      go_big_quiet_want
      refine ⟨.pointer (some ⟨g, off + k * 2, none⟩), fun w' hw' => ?_, ?_⟩
      · unfold Oper.quietAt; go_simp
      simp only [Act.put, List.setIfInBounds_toArray, List.set_cons_zero, List.set_cons_succ]
      go_big_quiet_on
      go_big_quiet_want
      refine ⟨.pointer (some ⟨g, off + k * 2, none⟩), fun w' hw' => ?_, ?_⟩
      · unfold Oper.quietAt; go_simp
      simp only [Act.put, List.setIfInBounds_toArray, List.set_cons_zero, List.set_cons_succ]
      go_big_quiet_on
      go_big_quiet_want
      refine ⟨.int .i64 x, fun w' hw' => ?_, ?_⟩
      · have hh0 := (Kp.of_below hw').cell _ _ hc0; unfold Oper.quietAt; go_simp
      simp only [Act.put, List.setIfInBounds_toArray, List.set_cons_zero, List.set_cons_succ]
      go_big_quiet_on
      (go_big_quiet_want; go_big_quiet_op; go_big_quiet_on)
      (go_big_quiet_want; go_big_quiet_op; go_big_quiet_on)
      go_big_quiet_want
      refine ⟨.pointer (some ⟨g', off' + k * 2, none⟩), fun w' hw' => ?_, ?_⟩
      · unfold Oper.quietAt; go_simp
      simp only [Act.put, List.setIfInBounds_toArray, List.set_cons_zero, List.set_cons_succ]
      go_big_quiet_on
      go_big_quiet_want
      refine ⟨.pointer (some ⟨g', off' + k * 2, none⟩), fun w' hw' => ?_, ?_⟩
      · unfold Oper.quietAt; go_simp
      simp only [Act.put, List.setIfInBounds_toArray, List.set_cons_zero, List.set_cons_succ]
      go_big_quiet_on
      go_big_quiet_want
      refine ⟨.int .i64 x, fun w' hw' => ?_, ?_⟩
      · have hh0 := (Kp.of_below hw').cell _ _ hd0; unfold Oper.quietAt; go_simp
      simp only [Act.put, List.setIfInBounds_toArray, List.set_cons_zero, List.set_cons_succ]
      go_big_quiet_on
      go_big_quiet_want
      refine ⟨.bool false, fun w' hw' => ?_, ?_⟩
      · unfold Oper.quietAt; go_simp
      simp only [Act.put, List.setIfInBounds_toArray, List.set_cons_zero, List.set_cons_succ]
      go_big_quiet_on
      (go_big_quiet_want; go_big_quiet_op; go_big_quiet_on)
      (go_big_quiet_want; go_big_quiet_op; go_big_quiet_on)
      (go_big_quiet_want; go_big_quiet_op; go_big_quiet_on)
      go_big_quiet_want
      refine ⟨.pointer (some ⟨g, off + k * 2, none⟩), fun w' hw' => ?_, ?_⟩
      · unfold Oper.quietAt; go_simp
      simp only [Act.put, List.setIfInBounds_toArray, List.set_cons_zero, List.set_cons_succ]
      go_big_quiet_on
      go_big_quiet_want
      refine ⟨.pointer (some ⟨g, off + k * 2 + 1, none⟩), fun w' hw' => ?_, ?_⟩
      · unfold Oper.quietAt; go_simp
      simp only [Act.put, List.setIfInBounds_toArray, List.set_cons_zero, List.set_cons_succ]
      go_big_quiet_on
      go_big_quiet_want
      refine ⟨.slice xa t.length xc, fun w' hw' => ?_, ?_⟩
      · have hh0 := (Kp.of_below hw').cell _ _ hc1; unfold Oper.quietAt; go_simp
      simp only [Act.put, List.setIfInBounds_toArray, List.set_cons_zero, List.set_cons_succ]
      go_big_quiet_on
      (go_big_quiet_want; go_big_quiet_op; go_big_quiet_on)
      (go_big_quiet_want; go_big_quiet_op; go_big_quiet_on)
      go_big_quiet_want
      refine ⟨.pointer (some ⟨g', off' + k * 2, none⟩), fun w' hw' => ?_, ?_⟩
      · unfold Oper.quietAt; go_simp
      simp only [Act.put, List.setIfInBounds_toArray, List.set_cons_zero, List.set_cons_succ]
      go_big_quiet_on
      go_big_quiet_want
      refine ⟨.pointer (some ⟨g', off' + k * 2 + 1, none⟩), fun w' hw' => ?_, ?_⟩
      · unfold Oper.quietAt; go_simp
      simp only [Act.put, List.setIfInBounds_toArray, List.set_cons_zero, List.set_cons_succ]
      go_big_quiet_on
      go_big_quiet_want
      refine ⟨.slice ya t.length yc, fun w' hw' => ?_, ?_⟩
      · have hh0 := (Kp.of_below hw').cell _ _ hd1; unfold Oper.quietAt; go_simp
      simp only [Act.put, List.setIfInBounds_toArray, List.set_cons_zero, List.set_cons_succ]
      go_big_quiet_on
      go_big_quiet_want
      refine ⟨.bool true, fun w' hw' => ?_, ?_⟩
      · unfold Oper.quietAt; go_simp; exact (HC.out w' hw').mono (fun e w2 ⟨he, hb⟩ => ⟨he, below_step hw' hb⟩)
      simp only [Act.put, List.setIfInBounds_toArray, List.set_cons_zero, List.set_cons_succ]
      go_big_quiet_on
      go_big_quiet_want
      refine ⟨.bool false, fun w' hw' => ?_, ?_⟩
      · unfold Oper.quietAt; go_simp
      simp only [Act.put, List.setIfInBounds_toArray, List.set_cons_zero, List.set_cons_succ]
      go_big_quiet_on
      go_big_quiet_want
      refine ⟨.bool false, fun w' hw' => ?_, ?_⟩
      · unfold Oper.quietAt; go_simp
      simp only [Act.put, List.setIfInBounds_toArray, List.set_cons_zero, List.set_cons_succ]
      go_big_quiet_on
      refine wpQuiet_nil ?_
      intro w2 hb2
      have HB2 := hid (below_step HBl.out hb2)
      clear hb2 HC
      go_wp2
      go_roundw
      case rel => exact ⟨k + 1, by omega, by go_num, HB2.out⟩
      case measure => simp [intOf]; omega
    · go_wp2
      go_ret
      exact ⟨rfl, HBl.out⟩

end Go.Proofs.YtifpanfgojfbkaaDoor
