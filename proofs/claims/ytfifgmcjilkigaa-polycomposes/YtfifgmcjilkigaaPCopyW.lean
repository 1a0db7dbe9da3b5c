/- copied of the law file: monomials of one's own. -/
import Derived.Test.YtfifgmcjilkigaaPCopy
namespace Go.Proofs.Ytfifgmcjilkigaa
open Go.RowKit Go.Maps

theorem own_ge {w : World} {base : Nat} {e : TypeId} {s g n c m : Nat} {xs : List Value} (h : w.ownsRow base e s (.slice (some ⟨g, 0, none⟩) n c) m xs) : base ≤ g := by
  rcases h.2 with ⟨hv, _⟩ | ⟨g', cap, cur, hv, hb, _⟩
  · cases hv
  · cases hv
    exact hb

theorem own_blk {w : World} {base : Nat} {e : TypeId} {s m j : Nat} {v : Value} {xs : List Value} (h : w.ownsRow base e s v m xs) (hj : v.ownBlock = some j) : base ≤ j := by
  rcases h.2 with ⟨rfl, _⟩ | ⟨g', cap, cur, rfl, hb, _⟩
  · cases hj
  · cases hj
    exact hb

theorem OM.empty {w : World} {base : Nat} (hb : base ≤ w.heap.size) : OM (w.alloc (.cells #[] 46)) base (.slice (some ⟨w.heap.size, 0, none⟩) 0 0) [] :=
  ⟨[], rfl, fun i c m h => (by simp at h), rfl, .inr ⟨w.heap.size, 0, #[], rfl, hb, heap_alloc_new _ _, Nat.le_refl _, Nat.zero_le _, rfl, rfl⟩⟩

set_option maxRecDepth 100000 in
set_option maxHeartbeats 6400000 in
theorem copied_any (v : Value) (p : List Mn) (w : World) (h : Ms w v p) (hf : Fit 140737488351232 p) :
    Calls Try.prog 10 #[v] w fun e w' => ∃ v', e = .returned v' ∧ OM w' w.heap.size v' p ∧ Below w.heap.size w w' := by
  obtain ⟨i1, hi1, hy0, hy1, hy2⟩ := info_parts info_mono
  obtain ⟨ao, cap, rfl, hao, hca, q0⟩ := Row.flat h
  unfold maxLen at hca
  have HP : Hid (Ms w (.slice ao p.length cap) p) := h
  have HFi : Hid (Fit 140737488351232 p) := hf
  have hpl : p.length * 48 ≤ 140737488351232 := hf.1
  clear h q0 hf
  go_enter Try.func10, Try.ntmps10
  go_wp2
  go_loopw [3, 4] (fun x i wr => ∃ k : Nat, k ≤ p.length ∧ i = .int .i64 k ∧ OM wr w.heap.size x (p.take k) ∧ Below w.heap.size w wr) (fun _ i _ => p.length - (intOf i).toNat)
  case atStart => exact ⟨0, Nat.zero_le _, rfl, OM.empty (Nat.le_refl _), below_alloc _⟩
  case round =>
    obtain ⟨k, hk, rfl, hom, hbl⟩ := hrel
    by_cases hlt : k < p.length
    · obtain ⟨g, off, c, es, a1, c1, a2, c2, rfl, hm1, hc0, hc1, hmo, hl1, hl2, hl3, hl4'⟩ := HP.out.at hlt
      have HX : Hid (p[k]? = some (c, es)) := hm1
      have hfit := HFi.out.2 _ (List.mem_of_getElem? hm1)
      have hl4 : c.length * 4 ≤ 140737488355328 := by have := hfit.1; simp only at this; omega
      have hl8 : es.length * 8 ≤ 140737488355328 := by have := hfit.2; simp only at this; omega
      have HSl : Hid (Sl w (.slice a1 c.length c1) c) := hmo.1
      have HIs : Hid (Is w (.slice a2 es.length c2) es) := hmo.2
      obtain ⟨cs, hcsl, hcc, hcow⟩ := hom
      have HCs : Hid (cs.length = (p.take k).length) := hcsl
      have HCC : Hid (∀ (i : Nat) (c : Value × Value) (m : Mn), cs[i]? = some c → (p.take k)[i]? = some m → Ow wr w.heap.size c.1 m.1 ∧ OwI wr w.heap.size c.2 m.2) := hcc
      have HOw : Hid (wr.ownsRow w.heap.size 46 2 u3 (p.take k).length (cs.flatMap fun c => [c.1, c.2])) := hcow
      have HTk : Hid ((p.take k).length = k) := by show _ = _; rw [List.length_take]; omega
      have hwr := hbl.size
      have hS : Below w.heap.size w wr.drew := hbl.drew
      have bW : Below wr.heap.size wr wr.drew := (Below.refl _ _).drew
      clear hm1 hmo hfit hcsl hcc hcow hbl
      go_wp2_with fail
      refine wp_region_held_drew (S := fun w' => Below w.heap.size w w') (by kernel_rfl) hS (fun _ => ?_)
      obtain ⟨W0, hW0⟩ : ∃ X, X = wr.drew := ⟨_, rfl⟩
      rw [← hW0] at hS bW ⊢
      clear hW0
      refine wpAnyH_take (i := 0) (v := u3) rfl (by kernel_rfl) (by kernel_rfl) (by kernel_rfl) (fun _ _ _ h => h) (Or.inl ⟨by rfl, fun w' _ => by go_simp⟩) hS ?_
      simp only [Act.put, List.setIfInBounds_toArray]
      refine wpAnyH_take (i := 2) (v := .slice (some ⟨g, off, none⟩) p.length cap) rfl (by kernel_rfl) (by kernel_rfl) (by kernel_rfl) (fun _ _ _ h => h) (Or.inl ⟨by rfl, fun w' _ => by go_simp⟩) hS ?_
      simp only [Act.put]
      refine wpAnyH_take (i := 3) (v := .int .i64 (k : Int)) rfl (by kernel_rfl) (by kernel_rfl) (by kernel_rfl) (fun _ _ _ h => h) (Or.inl ⟨by rfl, fun w' _ => by go_simp⟩) hS ?_
      simp only [Act.put]
      refine wpAnyH_take (i := 4) (v := .pointer (some ⟨g, off + k * 2, none⟩)) rfl (by kernel_rfl) (by kernel_rfl) (by kernel_rfl) (fun _ _ _ h => h) (Or.inl ⟨by rfl, fun w' _ => by go_simp⟩) hS ?_
      simp only [Act.put]
      refine wpAnyH_take (i := 5) (v := .pointer (some ⟨g, off + k * 2, none⟩)) rfl (by kernel_rfl) (by kernel_rfl) (by kernel_rfl) (fun _ _ _ h => h) (Or.inl ⟨by rfl, fun w' _ => by go_simp⟩) hS ?_
      simp only [Act.put]
      refine wpAnyH_take (i := 6) (v := .slice a1 c.length c1) rfl (by kernel_rfl) (by kernel_rfl) (by kernel_rfl) (fun _ _ _ h => h) (Or.inl ⟨by rfl, fun w' h => by have hh := (Kp.of_below h).cell _ _ hc0; go_simp⟩) hS ?_
      simp only [Act.put]
      refine wpAnyH_take (i := 9) (v := .slice (some ⟨g, off, none⟩) p.length cap) rfl (by kernel_rfl) (by kernel_rfl) (by kernel_rfl) (fun _ _ _ h => h) (Or.inl ⟨by rfl, fun w' _ => by go_simp⟩) hS ?_
      simp only [Act.put]
      refine wpAnyH_take (i := 10) (v := .int .i64 (k : Int)) rfl (by kernel_rfl) (by kernel_rfl) (by kernel_rfl) (fun _ _ _ h => h) (Or.inl ⟨by rfl, fun w' _ => by go_simp⟩) hS ?_
      simp only [Act.put]
      refine wpAnyH_take (i := 11) (v := .pointer (some ⟨g, off + k * 2, none⟩)) rfl (by kernel_rfl) (by kernel_rfl) (by kernel_rfl) (fun _ _ _ h => h) (Or.inl ⟨by rfl, fun w' _ => by go_simp⟩) hS ?_
      simp only [Act.put]
      refine wpAnyH_take (i := 12) (v := .pointer (some ⟨g, off + k * 2 + 1, none⟩)) rfl (by kernel_rfl) (by kernel_rfl) (by kernel_rfl) (fun _ _ _ h => h) (Or.inl ⟨by rfl, fun w' _ => by go_simp⟩) hS ?_
      simp only [Act.put]
      refine wpAnyH_take (i := 13) (v := .slice a2 es.length c2) rfl (by kernel_rfl) (by kernel_rfl) (by kernel_rfl) (fun _ _ _ h => h) (Or.inl ⟨by rfl, fun w' h => by have hh := (Kp.of_below h).cell _ _ hc1; go_simp⟩) hS ?_
      simp only [Act.put]
      refine wpAnyH_ready (rs := [1, 8]) (by kernel_rfl) (by simp) (AllReadyH.cons rfl (fun K hK => ?_) (AllReadyH.cons rfl (fun K hK => ?_) AllReadyH.nil))
      · skip
        go_simp
        refine hK.out _ _ (below_step hS (below_alloc _)) (fun hSn => ?_)
        clear hK K
        obtain ⟨W1, hWn⟩ : ∃ X, X = W0.alloc (.cells #[] 43) := ⟨_, rfl⟩
        have bn : Below W0.heap.size W0 W1 := by rw [hWn]; exact below_alloc _
        have A : W1.ownsRow wr.heap.size 43 1 (.slice (some ⟨W0.heap.size, 0, none⟩) 0 0) 0 [] := by rw [hWn]; exact empty_row _ bW.size
        rw [← hWn] at hSn ⊢
        clear hWn hS
        have hS := hSn
        clear hSn
        have bW2 := below_step bW bn
        clear bW
        have bW := bW2
        clear bW2
        clear bn
        refine wpAnyH_ready (rs := [7, 8]) (by kernel_rfl) (by simp) (AllReadyH.cons rfl (fun K hK => ?_) (AllReadyH.cons rfl (fun K hK => ?_) AllReadyH.nil))
        · skip
          obtain ⟨v1, W2, hr, ho, hg⟩ := copy_limbs 36 A (HSl.out.kp (Kp.of_below hS)) bW.size hl4
          refine step_append_run rfl _ _ 36 rfl _ _ rfl rfl hr ?_
          have hge := own_ge A
          refine hK.out _ _ (hS.grown hg hS.size (fun j hj => by cases hj; exact Nat.le_trans hwr hge)) (fun hSn => ?_)
          clear hK K hr
          simp only [Act.put, List.setIfInBounds_toArray]
          have bW2 := bW.grown hg bW.size (fun j hj => by cases hj; exact hge)
          clear A hge hg bW hS
          have A := ho
          have bW := bW2
          have hS := hSn
          clear ho bW2 hSn
          refine wpAnyH_ready (rs := [8]) (by kernel_rfl) (by simp) (AllReadyH.cons rfl (fun K hK => ?_) AllReadyH.nil)
          go_simp
          refine hK.out _ _ (below_step hS (below_alloc _)) (fun hSn => ?_)
          clear hK K
          obtain ⟨W3, hWn⟩ : ∃ X, X = W2.alloc (.cells #[] 3) := ⟨_, rfl⟩
          have bn : Below W2.heap.size W2 W3 := by rw [hWn]; exact below_alloc _
          have E : W3.ownsRow wr.heap.size 3 1 (.slice (some ⟨W2.heap.size, 0, none⟩) 0 0) 0 [] := by rw [hWn]; exact empty_row _ bW.size
          rw [← hWn] at hSn ⊢
          clear hWn hS
          have hS := hSn
          clear hSn
          have bW2 := below_step bW bn
          clear bW
          have bW := bW2
          clear bW2
          have An := A.since bn
          clear A
          have A := An
          clear An
          clear bn
          refine wpAnyH_ready (rs := [14]) (by kernel_rfl) (by simp) (AllReadyH.cons rfl (fun K hK => ?_) AllReadyH.nil)
          obtain ⟨v2, W4, hr, ho, hg⟩ := copy_ints 44 E (HIs.out.kp (Kp.of_below hS)) bW.size hl8
          refine step_append_run rfl _ _ 44 rfl _ _ rfl rfl hr ?_
          have hge := own_ge E
          refine hK.out _ _ (hS.grown hg hS.size (fun j hj => by cases hj; exact Nat.le_trans hwr hge)) (fun hSn => ?_)
          clear hK K hr
          simp only [Act.put, List.setIfInBounds_toArray]
          have bW2 := bW.grown hg bW.size (fun j hj => by cases hj; exact hge)
          have An := A.held hg (ownsRow_apart A.2 E (by decide))
          clear A
          have A := An
          clear An
          clear E hge hg bW hS
          have E := ho
          have bW := bW2
          have hS := hSn
          clear ho bW2 hSn
          obtain ⟨b1, n1, d1, rfl⟩ := A.slice
          obtain ⟨b2, d2, rfl, _, _⟩ := E.shape
          refine wpAnyH_take (i := 15) (v := .agg #[.slice b1 n1 d1, .slice b2 es.length d2]) rfl (by kernel_rfl) (by kernel_rfl) (by kernel_rfl) (fun _ _ _ h => h) (Or.inl ⟨by rfl, fun w' _ => by go_simp⟩) hS ?_
          simp only [Act.put]
          refine wpAnyH_ready (rs := [16]) (by kernel_rfl) (by simp) (AllReadyH.cons rfl (fun K hK => ?_) AllReadyH.nil)
          go_simp
          refine hK.out _ _ (below_step hS (below_alloc _)) (fun hSn => ?_)
          clear hK K
          refine wpAnyH_ready (rs := [17]) (by kernel_rfl) (by simp) (AllReadyH.cons rfl (fun K hK => ?_) AllReadyH.nil)
          have bX := below_step bW (below_alloc (w := W4) (.cells #[.slice b1 n1 d1, .slice b2 es.length d2] 46))
          have bA := below_alloc (w := W4) (.cells #[.slice b1 n1 d1, .slice b2 es.length d2] 46)
          refine step_append_own rfl _ _ 22 rfl w.heap.size 46 i1 _ 2 48 under_monos hi1 hy0 hy1 hy2 rfl (by decide) u3 (p.take k).length (cs.flatMap fun c => [c.1, c.2]) rfl (ownsRow_later HOw.out bX) ⟨W4.heap.size, 0, none⟩ 1 1 [.slice b1 n1 d1, .slice b2 es.length d2] rfl rfl ?_ ?_ (by rw [HTk.out]; unfold maxLen; omega) (by rw [HTk.out]; omega) (Nat.le_trans hwr bX.size) ?_
          · intro j u hj
            rw [Addr.add_lit, Nat.zero_add, cell_of_row _ _ _ _ _ _ (heap_alloc_new _ _)]
            simpa using hj
          · intro u hu
            simp only [List.mem_cons, List.not_mem_nil, or_false] at hu
            rcases hu with rfl | rfl <;> rfl
          intro v3 W9 hown9 hgrow9 _
          refine hK.out _ _ (hSn.grown hgrow9 hSn.size (fun j hj => own_blk (ownsRow_later HOw.out bX) hj)) (fun hS9 => ?_)
          clear hK K hS
          have hS := hS9
          simp only [Act.put, List.setIfInBounds_toArray]
          refine wpAnyH_take (i := 18) (v := v3) rfl (by kernel_rfl) (by kernel_rfl) (by kernel_rfl) (fun _ _ _ h => h) (Or.inl ⟨by rfl, fun w' _ => by go_simp⟩) hS ?_
          simp only [Act.put]
          refine wpAnyH_done (by kernel_rfl) ?_ _
          have hom := OM.snoc (m := (c, es)) (p := p.take k) HCs.out (fun i cc m h1 h2 => ⟨(HCC.out i cc m h1 h2).1.since bX, (HCC.out i cc m h1 h2).2.later bX⟩) (ownsRow_later HOw.out bX) ((A.mono hwr).since bA) ((E.mono hwr).later bA) hown9 hgrow9 rfl
          rw [← take_get HX.out] at hom
          have HOm9 : Hid (OM W9 w.heap.size v3 (p.take (k + 1))) := hom
          have HB9 : Hid (Below w.heap.size w W9) := hS
          clear hom hown9 hgrow9 hS9 hS hSn bX bA bW A E
          go_wp2
          go_roundw
          case rel => exact ⟨k + 1, by omega, by go_num, HOm9.out, HB9.out⟩
          case measure => simp [intOf]; omega
        · skip
          go_simp
          refine hK.out _ _ (below_step hS (below_alloc _)) (fun hSn => ?_)
          clear hK K
          obtain ⟨W5, hWn⟩ : ∃ X, X = W1.alloc (.cells #[] 3) := ⟨_, rfl⟩
          have bn : Below W1.heap.size W1 W5 := by rw [hWn]; exact below_alloc _
          have E : W5.ownsRow wr.heap.size 3 1 (.slice (some ⟨W1.heap.size, 0, none⟩) 0 0) 0 [] := by rw [hWn]; exact empty_row _ bW.size
          rw [← hWn] at hSn ⊢
          clear hWn hS
          have hS := hSn
          clear hSn
          have bW2 := below_step bW bn
          clear bW
          have bW := bW2
          clear bW2
          have An := ownsRow_later A bn
          clear A
          have A := An
          clear An
          clear bn
          refine wpAnyH_ready (rs := [7]) (by kernel_rfl) (by simp) (AllReadyH.cons rfl (fun K hK => ?_) AllReadyH.nil)
          obtain ⟨v1, W6, hr, ho, hg⟩ := copy_limbs 36 A (HSl.out.kp (Kp.of_below hS)) bW.size hl4
          refine step_append_run rfl _ _ 36 rfl _ _ rfl rfl hr ?_
          have hge := own_ge A
          refine hK.out _ _ (hS.grown hg hS.size (fun j hj => by cases hj; exact Nat.le_trans hwr hge)) (fun hSn => ?_)
          clear hK K hr
          simp only [Act.put, List.setIfInBounds_toArray]
          have bW2 := bW.grown hg bW.size (fun j hj => by cases hj; exact hge)
          have En := E.kept hg (ownsRow_apart E A (by decide))
          clear E
          have E := En
          clear En
          clear A hge hg bW hS
          have A := ho
          have bW := bW2
          have hS := hSn
          clear ho bW2 hSn
          refine wpAnyH_ready (rs := [14]) (by kernel_rfl) (by simp) (AllReadyH.cons rfl (fun K hK => ?_) AllReadyH.nil)
          obtain ⟨v2, W7, hr, ho, hg⟩ := copy_ints 44 E (HIs.out.kp (Kp.of_below hS)) bW.size hl8
          refine step_append_run rfl _ _ 44 rfl _ _ rfl rfl hr ?_
          have hge := own_ge E
          refine hK.out _ _ (hS.grown hg hS.size (fun j hj => by cases hj; exact Nat.le_trans hwr hge)) (fun hSn => ?_)
          clear hK K hr
          simp only [Act.put]
          have bW2 := bW.grown hg bW.size (fun j hj => by cases hj; exact hge)
          have An := A.held hg (ownsRow_apart A.2 E (by decide))
          clear A
          have A := An
          clear An
          clear E hge hg bW hS
          have E := ho
          have bW := bW2
          have hS := hSn
          clear ho bW2 hSn
          obtain ⟨b1, n1, d1, rfl⟩ := A.slice
          obtain ⟨b2, d2, rfl, _, _⟩ := E.shape
          refine wpAnyH_take (i := 15) (v := .agg #[.slice b1 n1 d1, .slice b2 es.length d2]) rfl (by kernel_rfl) (by kernel_rfl) (by kernel_rfl) (fun _ _ _ h => h) (Or.inl ⟨by rfl, fun w' _ => by go_simp⟩) hS ?_
          simp only [Act.put]
          refine wpAnyH_ready (rs := [16]) (by kernel_rfl) (by simp) (AllReadyH.cons rfl (fun K hK => ?_) AllReadyH.nil)
          go_simp
          refine hK.out _ _ (below_step hS (below_alloc _)) (fun hSn => ?_)
          clear hK K
          refine wpAnyH_ready (rs := [17]) (by kernel_rfl) (by simp) (AllReadyH.cons rfl (fun K hK => ?_) AllReadyH.nil)
          have bX := below_step bW (below_alloc (w := W7) (.cells #[.slice b1 n1 d1, .slice b2 es.length d2] 46))
          have bA := below_alloc (w := W7) (.cells #[.slice b1 n1 d1, .slice b2 es.length d2] 46)
          refine step_append_own rfl _ _ 22 rfl w.heap.size 46 i1 _ 2 48 under_monos hi1 hy0 hy1 hy2 rfl (by decide) u3 (p.take k).length (cs.flatMap fun c => [c.1, c.2]) rfl (ownsRow_later HOw.out bX) ⟨W7.heap.size, 0, none⟩ 1 1 [.slice b1 n1 d1, .slice b2 es.length d2] rfl rfl ?_ ?_ (by rw [HTk.out]; unfold maxLen; omega) (by rw [HTk.out]; omega) (Nat.le_trans hwr bX.size) ?_
          · intro j u hj
            rw [Addr.add_lit, Nat.zero_add, cell_of_row _ _ _ _ _ _ (heap_alloc_new _ _)]
            simpa using hj
          · intro u hu
            simp only [List.mem_cons, List.not_mem_nil, or_false] at hu
            rcases hu with rfl | rfl <;> rfl
          intro v3 W9 hown9 hgrow9 _
          refine hK.out _ _ (hSn.grown hgrow9 hSn.size (fun j hj => own_blk (ownsRow_later HOw.out bX) hj)) (fun hS9 => ?_)
          clear hK K hS
          have hS := hS9
          simp only [Act.put, List.setIfInBounds_toArray]
          refine wpAnyH_take (i := 18) (v := v3) rfl (by kernel_rfl) (by kernel_rfl) (by kernel_rfl) (fun _ _ _ h => h) (Or.inl ⟨by rfl, fun w' _ => by go_simp⟩) hS ?_
          simp only [Act.put]
          refine wpAnyH_done (by kernel_rfl) ?_ _
          have hom := OM.snoc (m := (c, es)) (p := p.take k) HCs.out (fun i cc m h1 h2 => ⟨(HCC.out i cc m h1 h2).1.since bX, (HCC.out i cc m h1 h2).2.later bX⟩) (ownsRow_later HOw.out bX) ((A.mono hwr).since bA) ((E.mono hwr).later bA) hown9 hgrow9 rfl
          rw [← take_get HX.out] at hom
          have HOm9 : Hid (OM W9 w.heap.size v3 (p.take (k + 1))) := hom
          have HB9 : Hid (Below w.heap.size w W9) := hS
          clear hom hown9 hgrow9 hS9 hS hSn bX bA bW A E
          go_wp2
          go_roundw
          case rel => exact ⟨k + 1, by omega, by go_num, HOm9.out, HB9.out⟩
          case measure => simp [intOf]; omega
      · skip
        go_simp
        refine hK.out _ _ (below_step hS (below_alloc _)) (fun hSn => ?_)
        clear hK K
        obtain ⟨W8, hWn⟩ : ∃ X, X = W0.alloc (.cells #[] 3) := ⟨_, rfl⟩
        have bn : Below W0.heap.size W0 W8 := by rw [hWn]; exact below_alloc _
        have E : W8.ownsRow wr.heap.size 3 1 (.slice (some ⟨W0.heap.size, 0, none⟩) 0 0) 0 [] := by rw [hWn]; exact empty_row _ bW.size
        rw [← hWn] at hSn ⊢
        clear hWn hS
        have hS := hSn
        clear hSn
        have bW2 := below_step bW bn
        clear bW
        have bW := bW2
        clear bW2
        clear bn
        refine wpAnyH_ready (rs := [1]) (by kernel_rfl) (by simp) (AllReadyH.cons rfl (fun K hK => ?_) AllReadyH.nil)
        go_simp
        refine hK.out _ _ (below_step hS (below_alloc _)) (fun hSn => ?_)
        clear hK K
        obtain ⟨W9, hWn⟩ : ∃ X, X = W8.alloc (.cells #[] 43) := ⟨_, rfl⟩
        have bn : Below W8.heap.size W8 W9 := by rw [hWn]; exact below_alloc _
        have A : W9.ownsRow wr.heap.size 43 1 (.slice (some ⟨W8.heap.size, 0, none⟩) 0 0) 0 [] := by rw [hWn]; exact empty_row _ bW.size
        rw [← hWn] at hSn ⊢
        clear hWn hS
        have hS := hSn
        clear hSn
        have bW2 := below_step bW bn
        clear bW
        have bW := bW2
        clear bW2
        have En := ownsRow_later E bn
        clear E
        have E := En
        clear En
        clear bn
        refine wpAnyH_ready (rs := [7]) (by kernel_rfl) (by simp) (AllReadyH.cons rfl (fun K hK => ?_) AllReadyH.nil)
        obtain ⟨v1, W10, hr, ho, hg⟩ := copy_limbs 36 A (HSl.out.kp (Kp.of_below hS)) bW.size hl4
        refine step_append_run rfl _ _ 36 rfl _ _ rfl rfl hr ?_
        have hge := own_ge A
        refine hK.out _ _ (hS.grown hg hS.size (fun j hj => by cases hj; exact Nat.le_trans hwr hge)) (fun hSn => ?_)
        clear hK K hr
        simp only [Act.put, List.setIfInBounds_toArray]
        have bW2 := bW.grown hg bW.size (fun j hj => by cases hj; exact hge)
        have En := E.kept hg (ownsRow_apart E A (by decide))
        clear E
        have E := En
        clear En
        clear A hge hg bW hS
        have A := ho
        have bW := bW2
        have hS := hSn
        clear ho bW2 hSn
        refine wpAnyH_ready (rs := [14]) (by kernel_rfl) (by simp) (AllReadyH.cons rfl (fun K hK => ?_) AllReadyH.nil)
        obtain ⟨v2, W11, hr, ho, hg⟩ := copy_ints 44 E (HIs.out.kp (Kp.of_below hS)) bW.size hl8
        refine step_append_run rfl _ _ 44 rfl _ _ rfl rfl hr ?_
        have hge := own_ge E
        refine hK.out _ _ (hS.grown hg hS.size (fun j hj => by cases hj; exact Nat.le_trans hwr hge)) (fun hSn => ?_)
        clear hK K hr
        simp only [Act.put]
        have bW2 := bW.grown hg bW.size (fun j hj => by cases hj; exact hge)
        have An := A.held hg (ownsRow_apart A.2 E (by decide))
        clear A
        have A := An
        clear An
        clear E hge hg bW hS
        have E := ho
        have bW := bW2
        have hS := hSn
        clear ho bW2 hSn
        obtain ⟨b1, n1, d1, rfl⟩ := A.slice
        obtain ⟨b2, d2, rfl, _, _⟩ := E.shape
        refine wpAnyH_take (i := 15) (v := .agg #[.slice b1 n1 d1, .slice b2 es.length d2]) rfl (by kernel_rfl) (by kernel_rfl) (by kernel_rfl) (fun _ _ _ h => h) (Or.inl ⟨by rfl, fun w' _ => by go_simp⟩) hS ?_
        simp only [Act.put]
        refine wpAnyH_ready (rs := [16]) (by kernel_rfl) (by simp) (AllReadyH.cons rfl (fun K hK => ?_) AllReadyH.nil)
        go_simp
        refine hK.out _ _ (below_step hS (below_alloc _)) (fun hSn => ?_)
        clear hK K
        refine wpAnyH_ready (rs := [17]) (by kernel_rfl) (by simp) (AllReadyH.cons rfl (fun K hK => ?_) AllReadyH.nil)
        have bX := below_step bW (below_alloc (w := W11) (.cells #[.slice b1 n1 d1, .slice b2 es.length d2] 46))
        have bA := below_alloc (w := W11) (.cells #[.slice b1 n1 d1, .slice b2 es.length d2] 46)
        refine step_append_own rfl _ _ 22 rfl w.heap.size 46 i1 _ 2 48 under_monos hi1 hy0 hy1 hy2 rfl (by decide) u3 (p.take k).length (cs.flatMap fun c => [c.1, c.2]) rfl (ownsRow_later HOw.out bX) ⟨W11.heap.size, 0, none⟩ 1 1 [.slice b1 n1 d1, .slice b2 es.length d2] rfl rfl ?_ ?_ (by rw [HTk.out]; unfold maxLen; omega) (by rw [HTk.out]; omega) (Nat.le_trans hwr bX.size) ?_
        · intro j u hj
          rw [Addr.add_lit, Nat.zero_add, cell_of_row _ _ _ _ _ _ (heap_alloc_new _ _)]
          simpa using hj
        · intro u hu
          simp only [List.mem_cons, List.not_mem_nil, or_false] at hu
          rcases hu with rfl | rfl <;> rfl
        intro v3 W9 hown9 hgrow9 _
        refine hK.out _ _ (hSn.grown hgrow9 hSn.size (fun j hj => own_blk (ownsRow_later HOw.out bX) hj)) (fun hS9 => ?_)
        clear hK K hS
        have hS := hS9
        simp only [Act.put, List.setIfInBounds_toArray]
        refine wpAnyH_take (i := 18) (v := v3) rfl (by kernel_rfl) (by kernel_rfl) (by kernel_rfl) (fun _ _ _ h => h) (Or.inl ⟨by rfl, fun w' _ => by go_simp⟩) hS ?_
        simp only [Act.put]
        refine wpAnyH_done (by kernel_rfl) ?_ _
        have hom := OM.snoc (m := (c, es)) (p := p.take k) HCs.out (fun i cc m h1 h2 => ⟨(HCC.out i cc m h1 h2).1.since bX, (HCC.out i cc m h1 h2).2.later bX⟩) (ownsRow_later HOw.out bX) ((A.mono hwr).since bA) ((E.mono hwr).later bA) hown9 hgrow9 rfl
        rw [← take_get HX.out] at hom
        have HOm9 : Hid (OM W9 w.heap.size v3 (p.take (k + 1))) := hom
        have HB9 : Hid (Below w.heap.size w W9) := hS
        clear hom hown9 hgrow9 hS9 hS hSn bX bA bW A E
        go_wp2
        go_roundw
        case rel => exact ⟨k + 1, by omega, by go_num, HOm9.out, HB9.out⟩
        case measure => simp [intOf]; omega
    · have hke : k = p.length := by omega
      subst hke
      rw [List.take_of_length_le (Nat.le_refl _)] at hom
      have HOm : Hid (OM wr w.heap.size u3 p) := hom
      clear hom
      go_wp2
      go_ret
      exact ⟨_, rfl, HOm.out, hbl⟩

end Go.Proofs.Ytfifgmcjilkigaa
