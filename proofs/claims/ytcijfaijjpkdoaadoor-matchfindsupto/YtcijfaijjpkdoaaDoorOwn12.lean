/- Texts of the proof, one behind the other. -/
import Derived.Test.YtcijfaijjpkdoaaDoorOwn9
import Derived.Test.YtcijfaijjpkdoaaDoorOwn11
import Derived.Test.YtcijfaijjpkdoaaDoorOwn6
/- Variant of package match walked. -/
namespace Go.Proofs.YtcijfaijjpkdoaaDoor
open Go.RowKit Go.Maps

theorem drawnN_below (w : World) (n : Nat) : Below w.heap.size w (w.drewN n) := drawn_below rfl

theorem canL_len (l : List (List Int)) : (canL l).length = l.length := canL_length l

theorem canL_small {p q : List Int} (h1 : p.length * 8 ≤ 140737488351232) (h2 : q.length * 8 ≤ 140737488351232) : ∀ t ∈ canL [p, q], t.length * 8 ≤ 140737488351232 := by
  refine lens_small (l := [p, q]) (canG_lens _ _) fun t ht => ?_
  simp only [List.mem_cons, List.not_mem_nil, or_false] at ht
  rcases ht with rfl | rfl
  · exact h1
  · exact h2

theorem rs_four {w : World} {v1 v2 v3 v4 : Value} {p q r s : List Int} (i1 : Is w v1 p) (i2 : Is w v2 q) (i3 : Is w v3 r) (i4 : Is w v4 s) (h1 : p.length * 8 ≤ 140737488351232) (h2 : q.length * 8 ≤ 140737488351232) (h3 : r.length * 8 ≤ 140737488351232) (h4 : s.length * 8 ≤ 140737488351232) : Rs (w.alloc (.cells #[v1, v2, v3, v4] 23)) (.slice (some ⟨w.heap.size, 0, none⟩) 4 4) [p, q, r, s] := by
  have hk := Kp.of_below (below_alloc (w := w) (.cells #[v1, v2, v3, v4] 23))
  refine ⟨_, 4, rfl, Nat.le_refl _, by simp [maxLen], fun _ => ⟨w.heap.size, 0, rfl, by simp, fun k x hx => ?_⟩⟩
  match k, hx with
  | 0, hx => simp at hx; subst hx; exact ⟨h1, v1, cell_new rfl, i1.kp hk⟩
  | 1, hx => simp at hx; subst hx; exact ⟨h2, v2, cell_new rfl, i2.kp hk⟩
  | 2, hx => simp at hx; subst hx; exact ⟨h3, v3, cell_new rfl, i3.kp hk⟩
  | 3, hx => simp at hx; subst hx; exact ⟨h4, v4, cell_new rfl, i4.kp hk⟩
  | k + 4, hx => simp at hx

set_option maxRecDepth 100000 in
set_option maxHeartbeats 3200000 in
theorem variant_any (sv v1 v2 v3 v4 : Value) (sig : List Sy) (p q r s : List Int) (w : World) (hs : Sg w sv sig) (h1 : Is w v1 p) (h2 : Is w v2 q) (h3 : Is w v3 r) (h4 : Is w v4 s) (hT : Tabs w) (l1 : p.length * 8 ≤ 140737488351232) (l2 : q.length * 8 ≤ 140737488351232) (l3 : r.length * 8 ≤ 140737488351232) (l4 : s.length * 8 ≤ 140737488351232) :
    Calls Tryd.prog 14 #[sv, .agg #[v1, v2], .agg #[v3, v4]] w fun e w' => e = .returned (.bool (termsB sig [p, q, r, s] && decide (canL [p, q] = canL [r, s]))) ∧ Below w.heap.size w w' := by
  obtain ⟨a1, c1, e1, _⟩ := h1.flatI
  obtain ⟨a2, c2, e2, _⟩ := h2.flatI
  obtain ⟨a3, c3, e3, _⟩ := h3.flatI
  obtain ⟨a4, c4, e4, _⟩ := h4.flatI
  subst e1
  subst e2
  subst e3
  subst e4
  have HS := hid hs
  have HTa := hid hT
  have HI1 := hid h1
  have HI2 := hid h2
  have HI3 := hid h3
  have HI4 := hid h4
  have HLp := hid l1
  have HLq := hid l2
  have HLr := hid l3
  have HLs := hid l4
  clear hs hT h1 h2 h3 h4 l1 l2 l3 l4
  obtain ⟨w0, hw0⟩ : ∃ X, X = (w.alloc (.cells #[.slice a1 p.length c1, .slice a2 q.length c2] 34)).alloc (.cells #[.slice a3 r.length c3, .slice a4 s.length c4] 34) := ⟨_, rfl⟩
  have hB0 : Below w.heap.size w w0 := by rw [hw0]; exact below_step (below_alloc _) (below_alloc _)
  have hy0 : w0.cell? ⟨w.heap.size, 0, none⟩ = some (.slice a1 p.length c1) := by rw [hw0]; exact cell_old (cell_new rfl)
  have hy1 : w0.cell? ⟨w.heap.size, 1, none⟩ = some (.slice a2 q.length c2) := by rw [hw0]; exact cell_old (cell_new rfl)
  have hy2 : w0.cell? ⟨w.heap.size + 1, 0, none⟩ = some (.slice a3 r.length c3) := by rw [hw0]; exact cell_newg (by simp) rfl
  have hy3 : w0.cell? ⟨w.heap.size + 1, 1, none⟩ = some (.slice a4 s.length c4) := by rw [hw0]; exact cell_newg (by simp) rfl
  have HB0 := hid hB0
  clear hB0
  go_enter Tryd.func14, Tryd.ntmps14
  go_upto_region 1 with fail
  rw [← hw0]
  clear hw0
  go_wp2_with fail
  have hk0 := Kp.of_below HB0.out
  refine (areTerms_any sv _ sig [p, q, r, s] _ (HS.out.kp (hk0.trans (Kp.of_below (below_alloc _)))) (rs_four (HI1.out.kp hk0) (HI2.out.kp hk0) (HI3.out.kp hk0) (HI4.out.kp hk0) HLp.out HLq.out HLr.out HLs.out) (HTa.out.below (below_step HB0.out (below_alloc _)))).mono ?_
  rintro e wA ⟨rfl, hbA⟩
  have hbA0 := below_step (below_alloc _) hbA
  have hkA := Kp.of_below hbA0
  have hx0 := hkA.cell _ _ hy0
  have hx1 := hkA.cell _ _ hy1
  have hx2 := hkA.cell _ _ hy2
  have hx3 := hkA.cell _ _ hy3
  have HBw := hid (below_step HB0.out hbA0)
  have HIp := hid (HI1.out.kp (hk0.trans hkA))
  have HIq := hid (HI2.out.kp (hk0.trans hkA))
  have HIr := hid (HI3.out.kp (hk0.trans hkA))
  have HIs := hid (HI4.out.kp (hk0.trans hkA))
  clear hbA hbA0 hkA hy0 hy1 hy2 hy3 hk0
  cases htb : termsB sig [p, q, r, s] with
  | true =>
    have HTb := hid htb
    clear htb
    go_upto_region 3 with fail
    have hS : Kp wA wA.drew := Kp.of_below (drawn_below1 wA)
    refine wp_region_held_drew (S := fun w' => Kp wA w') (by kernel_rfl) hS (fun _ => ?_)
    obtain ⟨W0, hW0⟩ : ∃ X, X = wA.drew := ⟨_, rfl⟩
    have bW0 : Below wA.heap.size wA W0 := by rw [hW0]; exact drawn_below1 wA
    rw [← hW0] at hS ⊢
    clear hW0
    refine wpAnyH_take (i := 0) (v := .pointer (some ⟨w.heap.size, 0, none⟩)) rfl (by kernel_rfl) (by kernel_rfl) (by kernel_rfl) (fun _ _ _ h => h) (Or.inl ⟨by rfl, fun w' h => by go_simp⟩) hS ?_
    simp only [Act.put, List.setIfInBounds_toArray]
    refine wpAnyH_take (i := 1) (v := .slice a1 p.length c1) rfl (by kernel_rfl) (by kernel_rfl) (by kernel_rfl) (fun _ _ _ h => h) (Or.inl ⟨by rfl, fun w' h => by have hh0 := h.cell _ _ hx0; go_simp⟩) hS ?_
    simp only [Act.put]
    refine wpAnyH_take (i := 2) (v := .pointer (some ⟨w.heap.size, 1, none⟩)) rfl (by kernel_rfl) (by kernel_rfl) (by kernel_rfl) (fun _ _ _ h => h) (Or.inl ⟨by rfl, fun w' h => by go_simp⟩) hS ?_
    simp only [Act.put]
    refine wpAnyH_take (i := 3) (v := .slice a2 q.length c2) rfl (by kernel_rfl) (by kernel_rfl) (by kernel_rfl) (fun _ _ _ h => h) (Or.inl ⟨by rfl, fun w' h => by have hh0 := h.cell _ _ hx1; go_simp⟩) hS ?_
    simp only [Act.put]
    refine wpAnyH_take (i := 6) (v := .pointer (some ⟨w.heap.size + 1, 0, none⟩)) rfl (by kernel_rfl) (by kernel_rfl) (by kernel_rfl) (fun _ _ _ h => h) (Or.inl ⟨by rfl, fun w' h => by go_simp⟩) hS ?_
    simp only [Act.put]
    refine wpAnyH_take (i := 7) (v := .slice a3 r.length c3) rfl (by kernel_rfl) (by kernel_rfl) (by kernel_rfl) (fun _ _ _ h => h) (Or.inl ⟨by rfl, fun w' h => by have hh0 := h.cell _ _ hx2; go_simp⟩) hS ?_
    simp only [Act.put]
    refine wpAnyH_take (i := 8) (v := .pointer (some ⟨w.heap.size + 1, 1, none⟩)) rfl (by kernel_rfl) (by kernel_rfl) (by kernel_rfl) (fun _ _ _ h => h) (Or.inl ⟨by rfl, fun w' h => by go_simp⟩) hS ?_
    simp only [Act.put]
    refine wpAnyH_take (i := 9) (v := .slice a4 s.length c4) rfl (by kernel_rfl) (by kernel_rfl) (by kernel_rfl) (fun _ _ _ h => h) (Or.inl ⟨by rfl, fun w' h => by have hh0 := h.cell _ _ hx3; go_simp⟩) hS ?_
    simp only [Act.put]
    skip
    refine wpAnyH_ready (rs := [4, 10]) (by kernel_rfl) (by simp) (AllReadyH.cons rfl (fun K hK => ?_) (AllReadyH.cons rfl (fun K hK => ?_) (AllReadyH.nil)))
    · skip
      go_simp
      refine hK.out _ _ (hS.trans (Kp.of_below (below_alloc _))) (fun hSX1 => ?_)
      clear hK K
      try simp only [Act.put, List.setIfInBounds_toArray]
      have hRa := rs_two (HIp.out.kp hS) (HIq.out.kp hS) HLp.out HLq.out
      have gva : ∃ G, G = (W0).heap.size := ⟨_, rfl⟩
      obtain ⟨Ga, hGa⟩ := gva
      obtain ⟨X1, hX1⟩ : ∃ X, X = (W0).alloc (.cells #[.slice a1 p.length c1, .slice a2 q.length c2] 23) := ⟨_, rfl⟩
      have bbX1 : Below (W0).heap.size (W0) X1 := by rw [hX1]; exact below_alloc _
      rw [← hX1, ← hGa] at hRa
      rw [← hX1] at hSX1
      rw [← hX1, ← hGa]
      have HRa := hid hRa
      clear hX1 hGa hRa
      refine wpAnyH_ready (rs := [5, 10]) (by kernel_rfl) (by simp) (AllReadyH.cons rfl (fun K hK => ?_) (AllReadyH.cons rfl (fun K hK => ?_) (AllReadyH.nil)))
      · skip
        go_simp
        refine (canon_any _ [p, q] X1 (HRa.out) (by simp) (by have := HLp.out; have := HLq.out; simp; omega)).mono ?_
        rintro e X2 ⟨va, vsa, rfl, hoa, hwa, bbX2⟩
        have HCa : Hid (Rs X2 va (canL [p, q])) := rs_of_own (by rw [canL_len]; exact hoa) hwa (canL_small HLp.out HLq.out)
        clear hoa hwa
        refine hK.out _ _ (hSX1.trans (Kp.of_below bbX2)) (fun hSX2 => ?_)
        clear hK K
        try simp only [Act.put, List.setIfInBounds_toArray]
        refine wpAnyH_ready (rs := [10]) (by kernel_rfl) (by simp) (AllReadyH.cons rfl (fun K hK => ?_) (AllReadyH.nil))
        go_simp
        refine hK.out _ _ (hSX2.trans (Kp.of_below (below_alloc _))) (fun hSX3 => ?_)
        clear hK K
        try simp only [Act.put, List.setIfInBounds_toArray]
        have hRb := rs_two (HIr.out.kp hSX2) (HIs.out.kp hSX2) HLr.out HLs.out
        have gvb : ∃ G, G = (X2).heap.size := ⟨_, rfl⟩
        obtain ⟨Gb, hGb⟩ := gvb
        obtain ⟨X3, hX3⟩ : ∃ X, X = (X2).alloc (.cells #[.slice a3 r.length c3, .slice a4 s.length c4] 23) := ⟨_, rfl⟩
        have bbX3 : Below (X2).heap.size (X2) X3 := by rw [hX3]; exact below_alloc _
        rw [← hX3, ← hGb] at hRb
        rw [← hX3] at hSX3
        rw [← hX3, ← hGb]
        have HRb := hid hRb
        clear hX3 hGb hRb
        refine wpAnyH_ready (rs := [11]) (by kernel_rfl) (by simp) (AllReadyH.cons rfl (fun K hK => ?_) (AllReadyH.nil))
        go_simp
        refine (canon_any _ [r, s] X3 (HRb.out) (by simp) (by have := HLr.out; have := HLs.out; simp; omega)).mono ?_
        rintro e X4 ⟨vb, vsb, rfl, hob, hwb, bbX4⟩
        have HCb : Hid (Rs X4 vb (canL [r, s])) := rs_of_own (by rw [canL_len]; exact hob) hwb (canL_small HLr.out HLs.out)
        clear hob hwb
        refine hK.out _ _ (hSX3.trans (Kp.of_below bbX4)) (fun hSX4 => ?_)
        clear hK K
        try simp only [Act.put, List.setIfInBounds_toArray]
        refine wpAnyH_ready (rs := [12]) (by kernel_rfl) (by simp) (AllReadyH.cons rfl (fun K hK => ?_) (AllReadyH.nil))
        go_simp
        refine (equalR_any va vb (canL [p, q]) (canL [r, s]) X4 (HCa.out.kp ((Kp.of_below bbX3).trans (Kp.of_below bbX4))) HCb.out).mono ?_
        rintro e X9 ⟨rfl, m9, hw9⟩
        have bb9 : Below X4.heap.size X4 X9 := by rw [hw9]; exact drawnN_below X4 m9
        clear hw9
        refine hK.out _ _ (hSX4.trans (Kp.of_below bb9)) (fun hS9 => ?_)
        clear hK K
        try simp only [Act.put, List.setIfInBounds_toArray]
        refine wpAnyH_take (i := 13) (v := .bool (decide (canL [p, q] = canL [r, s]))) rfl (by kernel_rfl) (by kernel_rfl) (by kernel_rfl) (fun _ _ _ h => h) (Or.inl ⟨by rfl, fun w' h => by go_simp⟩) hS9 ?_
        simp only [Act.put]
        refine wpAnyH_done (by kernel_rfl) ?_ _
        have HZ := hid (below_step (below_step (below_step (below_step (below_step (bW0) bbX1) bbX2) bbX3) bbX4) bb9)
        obtain ⟨D, hD⟩ : ∃ D, D = decide (canL [p, q] = canL [r, s]) := ⟨_, rfl⟩
        rw [← hD]
        have HD := hid hD
        clear hD
        try simp only [List.getElem_toArray, List.getElem_cons_succ, List.getElem_cons_zero, List.setIfInBounds_toArray, List.set_cons_succ, List.set_cons_zero]
        go_wp2
        go_ret
        refine ⟨?_, below_step HBw.out HZ.out⟩
        show Ending.returned (.bool D) = _
        rw [HD.out, HTb.out, Bool.true_and]
      · skip
        go_simp
        refine hK.out _ _ (hSX1.trans (Kp.of_below (below_alloc _))) (fun hSX5 => ?_)
        clear hK K
        try simp only [Act.put, List.setIfInBounds_toArray]
        have hRb := rs_two (HIr.out.kp hSX1) (HIs.out.kp hSX1) HLr.out HLs.out
        have gvb : ∃ G, G = (X1).heap.size := ⟨_, rfl⟩
        obtain ⟨Gb, hGb⟩ := gvb
        obtain ⟨X5, hX5⟩ : ∃ X, X = (X1).alloc (.cells #[.slice a3 r.length c3, .slice a4 s.length c4] 23) := ⟨_, rfl⟩
        have bbX5 : Below (X1).heap.size (X1) X5 := by rw [hX5]; exact below_alloc _
        rw [← hX5, ← hGb] at hRb
        rw [← hX5] at hSX5
        rw [← hX5, ← hGb]
        have HRb := hid hRb
        clear hX5 hGb hRb
        refine wpAnyH_ready (rs := [5]) (by kernel_rfl) (by simp) (AllReadyH.cons rfl (fun K hK => ?_) (AllReadyH.nil))
        go_simp
        refine (canon_any _ [p, q] X5 (HRa.out.kp (Kp.of_below bbX5)) (by simp) (by have := HLp.out; have := HLq.out; simp; omega)).mono ?_
        rintro e X6 ⟨va, vsa, rfl, hoa, hwa, bbX6⟩
        have HCa : Hid (Rs X6 va (canL [p, q])) := rs_of_own (by rw [canL_len]; exact hoa) hwa (canL_small HLp.out HLq.out)
        clear hoa hwa
        refine hK.out _ _ (hSX5.trans (Kp.of_below bbX6)) (fun hSX6 => ?_)
        clear hK K
        try simp only [Act.put, List.setIfInBounds_toArray]
        refine wpAnyH_ready (rs := [11]) (by kernel_rfl) (by simp) (AllReadyH.cons rfl (fun K hK => ?_) (AllReadyH.nil))
        go_simp
        refine (canon_any _ [r, s] X6 (HRb.out.kp (Kp.of_below bbX6)) (by simp) (by have := HLr.out; have := HLs.out; simp; omega)).mono ?_
        rintro e X7 ⟨vb, vsb, rfl, hob, hwb, bbX7⟩
        have HCb : Hid (Rs X7 vb (canL [r, s])) := rs_of_own (by rw [canL_len]; exact hob) hwb (canL_small HLr.out HLs.out)
        clear hob hwb
        refine hK.out _ _ (hSX6.trans (Kp.of_below bbX7)) (fun hSX7 => ?_)
        clear hK K
        try simp only [Act.put, List.setIfInBounds_toArray]
        refine wpAnyH_ready (rs := [12]) (by kernel_rfl) (by simp) (AllReadyH.cons rfl (fun K hK => ?_) (AllReadyH.nil))
        go_simp
        refine (equalR_any va vb (canL [p, q]) (canL [r, s]) X7 (HCa.out.kp (Kp.of_below bbX7)) HCb.out).mono ?_
        rintro e X9 ⟨rfl, m9, hw9⟩
        have bb9 : Below X7.heap.size X7 X9 := by rw [hw9]; exact drawnN_below X7 m9
        clear hw9
        refine hK.out _ _ (hSX7.trans (Kp.of_below bb9)) (fun hS9 => ?_)
        clear hK K
        try simp only [Act.put, List.setIfInBounds_toArray]
        refine wpAnyH_take (i := 13) (v := .bool (decide (canL [p, q] = canL [r, s]))) rfl (by kernel_rfl) (by kernel_rfl) (by kernel_rfl) (fun _ _ _ h => h) (Or.inl ⟨by rfl, fun w' h => by go_simp⟩) hS9 ?_
        simp only [Act.put]
        refine wpAnyH_done (by kernel_rfl) ?_ _
        have HZ := hid (below_step (below_step (below_step (below_step (below_step (bW0) bbX1) bbX5) bbX6) bbX7) bb9)
        obtain ⟨D, hD⟩ : ∃ D, D = decide (canL [p, q] = canL [r, s]) := ⟨_, rfl⟩
        rw [← hD]
        have HD := hid hD
        clear hD
        try simp only [List.getElem_toArray, List.getElem_cons_succ, List.getElem_cons_zero, List.setIfInBounds_toArray, List.set_cons_succ, List.set_cons_zero]
        go_wp2
        go_ret
        refine ⟨?_, below_step HBw.out HZ.out⟩
        show Ending.returned (.bool D) = _
        rw [HD.out, HTb.out, Bool.true_and]
    · skip
      go_simp
      refine hK.out _ _ (hS.trans (Kp.of_below (below_alloc _))) (fun hSX8 => ?_)
      clear hK K
      try simp only [Act.put, List.setIfInBounds_toArray]
      have hRb := rs_two (HIr.out.kp hS) (HIs.out.kp hS) HLr.out HLs.out
      have gvb : ∃ G, G = (W0).heap.size := ⟨_, rfl⟩
      obtain ⟨Gb, hGb⟩ := gvb
      obtain ⟨X8, hX8⟩ : ∃ X, X = (W0).alloc (.cells #[.slice a3 r.length c3, .slice a4 s.length c4] 23) := ⟨_, rfl⟩
      have bbX8 : Below (W0).heap.size (W0) X8 := by rw [hX8]; exact below_alloc _
      rw [← hX8, ← hGb] at hRb
      rw [← hX8] at hSX8
      rw [← hX8, ← hGb]
      have HRb := hid hRb
      clear hX8 hGb hRb
      refine wpAnyH_ready (rs := [4]) (by kernel_rfl) (by simp) (AllReadyH.cons rfl (fun K hK => ?_) (AllReadyH.nil))
      go_simp
      refine hK.out _ _ (hSX8.trans (Kp.of_below (below_alloc _))) (fun hSX9 => ?_)
      clear hK K
      try simp only [Act.put, List.setIfInBounds_toArray]
      have hRa := rs_two (HIp.out.kp hSX8) (HIq.out.kp hSX8) HLp.out HLq.out
      have gva : ∃ G, G = (X8).heap.size := ⟨_, rfl⟩
      obtain ⟨Ga, hGa⟩ := gva
      obtain ⟨X9, hX9⟩ : ∃ X, X = (X8).alloc (.cells #[.slice a1 p.length c1, .slice a2 q.length c2] 23) := ⟨_, rfl⟩
      have bbX9 : Below (X8).heap.size (X8) X9 := by rw [hX9]; exact below_alloc _
      rw [← hX9, ← hGa] at hRa
      rw [← hX9] at hSX9
      rw [← hX9, ← hGa]
      have HRa := hid hRa
      clear hX9 hGa hRa
      refine wpAnyH_ready (rs := [5]) (by kernel_rfl) (by simp) (AllReadyH.cons rfl (fun K hK => ?_) (AllReadyH.nil))
      go_simp
      refine (canon_any _ [p, q] X9 (HRa.out) (by simp) (by have := HLp.out; have := HLq.out; simp; omega)).mono ?_
      rintro e X10 ⟨va, vsa, rfl, hoa, hwa, bbX10⟩
      have HCa : Hid (Rs X10 va (canL [p, q])) := rs_of_own (by rw [canL_len]; exact hoa) hwa (canL_small HLp.out HLq.out)
      clear hoa hwa
      refine hK.out _ _ (hSX9.trans (Kp.of_below bbX10)) (fun hSX10 => ?_)
      clear hK K
      try simp only [Act.put, List.setIfInBounds_toArray]
      refine wpAnyH_ready (rs := [11]) (by kernel_rfl) (by simp) (AllReadyH.cons rfl (fun K hK => ?_) (AllReadyH.nil))
      go_simp
      refine (canon_any _ [r, s] X10 (HRb.out.kp ((Kp.of_below bbX9).trans (Kp.of_below bbX10))) (by simp) (by have := HLr.out; have := HLs.out; simp; omega)).mono ?_
      rintro e X11 ⟨vb, vsb, rfl, hob, hwb, bbX11⟩
      have HCb : Hid (Rs X11 vb (canL [r, s])) := rs_of_own (by rw [canL_len]; exact hob) hwb (canL_small HLr.out HLs.out)
      clear hob hwb
      refine hK.out _ _ (hSX10.trans (Kp.of_below bbX11)) (fun hSX11 => ?_)
      clear hK K
      try simp only [Act.put, List.setIfInBounds_toArray]
      refine wpAnyH_ready (rs := [12]) (by kernel_rfl) (by simp) (AllReadyH.cons rfl (fun K hK => ?_) (AllReadyH.nil))
      go_simp
      refine (equalR_any va vb (canL [p, q]) (canL [r, s]) X11 (HCa.out.kp (Kp.of_below bbX11)) HCb.out).mono ?_
      rintro e X9 ⟨rfl, m9, hw9⟩
      have bb9 : Below X11.heap.size X11 X9 := by rw [hw9]; exact drawnN_below X11 m9
      clear hw9
      refine hK.out _ _ (hSX11.trans (Kp.of_below bb9)) (fun hS9 => ?_)
      clear hK K
      try simp only [Act.put, List.setIfInBounds_toArray]
      refine wpAnyH_take (i := 13) (v := .bool (decide (canL [p, q] = canL [r, s]))) rfl (by kernel_rfl) (by kernel_rfl) (by kernel_rfl) (fun _ _ _ h => h) (Or.inl ⟨by rfl, fun w' h => by go_simp⟩) hS9 ?_
      simp only [Act.put]
      refine wpAnyH_done (by kernel_rfl) ?_ _
      have HZ := hid (below_step (below_step (below_step (below_step (below_step (bW0) bbX8) bbX9) bbX10) bbX11) bb9)
      obtain ⟨D, hD⟩ : ∃ D, D = decide (canL [p, q] = canL [r, s]) := ⟨_, rfl⟩
      rw [← hD]
      have HD := hid hD
      clear hD
      try simp only [List.getElem_toArray, List.getElem_cons_succ, List.getElem_cons_zero, List.setIfInBounds_toArray, List.set_cons_succ, List.set_cons_zero]
      go_wp2
      go_ret
      refine ⟨?_, below_step HBw.out HZ.out⟩
      show Ending.returned (.bool D) = _
      rw [HD.out, HTb.out, Bool.true_and]
  | false =>
    have HTb := hid htb
    clear htb hx0 hx1 hx2 hx3
    go_wp2
    go_ret
    exact ⟨by have h9 := HTb.out; simp [h9], HBw.out⟩

end Go.Proofs.YtcijfaijjpkdoaaDoor

/- What the statements of layer 5 call of their own. -/
namespace Go.Proofs.YtcijfaijjpkdoaaDoor
open Go.RowKit Go.Maps Go.BigFrame

set_option maxRecDepth 100000 in
theorem three5_any (w : World) : Calls Tryd.prog 27 #[] w fun e w' => ∃ v', e = .returned v' ∧ Sg w' v' sumS ∧ Below w.heap.size w w' := by
  go_enter Tryd.func27, Tryd.ntmps27
  go_wp2
  go_ret
  refine ⟨_, rfl, sg_lit (p := sumS) (by simp) (by decide) ⟨⟨by decide, by decide, by decide, cell_new rfl, cell_new rfl⟩, ⟨by decide, by decide, by decide, cell_new rfl, cell_new rfl⟩, ⟨by decide, by decide, by decide, cell_new rfl, cell_new rfl⟩, trivial⟩, below_alloc _⟩

set_option maxHeartbeats 400000 in
theorem sameRow5_any (v u : Value) (xs ys : List Int) (w : World) (h : Is w v xs) (h' : Is w u ys) :
    Calls Tryd.prog 13 #[v, u] w fun e w' => e = .returned (.bool (decide (xs = ys))) ∧ ∃ n, w' = w.drewN n := by
  obtain ⟨ao, cap, rfl, hao, hca, hcl⟩ := h.flatI
  obtain ⟨bo, cap', rfl, hbo, hcb, hcl'⟩ := h'.flatI
  clear h h'
  by_cases hl : xs.length = ys.length
  · have hle : ((xs.length : Int) != ys.length) = false := by simp; omega
    go_enter Tryd.func13, Tryd.ntmps13
    go_wp2
    go_loopw [5] (fun i wr => ∃ k : Nat, k ≤ xs.length ∧ i = .int .i64 k ∧ xs.take k = ys.take k ∧ ∃ n, wr = w.drewN n) (fun i _ => xs.length - (intOf i).toNat)
    case atStart => exact ⟨0, Nat.zero_le _, rfl, rfl, 0, rfl⟩
    case round =>
      obtain ⟨k, hk, rfl, ht, n, rfl⟩ := hrel
      have HT : Hid (xs.take k = ys.take k) := ht
      clear ht
      by_cases hlt : k < xs.length
      · obtain ⟨g, off, x, rfl, hx1, hx3⟩ := hcl k hlt
        obtain ⟨g', off', y, rfl, hy1, hy3⟩ := hcl' k (by omega)
        have HX : Hid (xs[k]? = some x) := hx1
        have HY : Hid (ys[k]? = some y) := hy1
        have hlt' : k < ys.length := by omega
        clear hx1 hy1 hcl hcl'
        by_cases hxy : x = y
        · subst hxy
          have hxx : (x != x) = false := by simp
          go_wp2
          go_quiet (fail)
          go_wp2
          go_roundw
          case rel => exact ⟨k + 1, by omega, by go_num, by rw [take_get HX.out, take_get HY.out, HT.out], _, rfl⟩
          case measure => simp [intOf]; omega
        · have hne : (x != y) = true := by rw [bne_iff_ne]; exact hxy
          go_wp2
          go_quiet (fail)
          go_wp2
          go_ret
          exact ⟨ret1b (by rw [eq_comm, decide_eq_false_iff_not]; rintro rfl; have := HX.out.symm.trans HY.out; simp at this; exact hxy this), _, World.drewN_drewN _ _ _⟩
      · have hk' : k = xs.length := by omega
        go_wp2
        go_ret
        refine ⟨ret1b ?_, n, rfl⟩
        have := HT.out
        rw [List.take_of_length_le (by omega), List.take_of_length_le (by omega)] at this
        simp [this]
  · have hle : ((xs.length : Int) != ys.length) = true := by rw [bne_iff_ne]; omega
    go_enter Tryd.func13, Tryd.ntmps13
    go_wp2
    go_ret
    exact ⟨ret1b (by rw [eq_comm, decide_eq_false_iff_not]; rintro rfl; exact hl rfl), 0, rfl⟩

set_option maxHeartbeats 400000 in
theorem sameRowD_any (v u : Value) (xs ys : List Int) (w : World) (h : Is w v xs) (h' : Is w u ys) :
    Calls Tryd.prog 62 #[v, u] w fun e w' => e = .returned (.bool (decide (xs = ys))) ∧ ∃ n, w' = w.drewN n := by
  obtain ⟨ao, cap, rfl, hao, hca, hcl⟩ := h.flatI
  obtain ⟨bo, cap', rfl, hbo, hcb, hcl'⟩ := h'.flatI
  clear h h'
  by_cases hl : xs.length = ys.length
  · have hle : ((xs.length : Int) != ys.length) = false := by simp; omega
    go_enter Tryd.func62, Tryd.ntmps62
    go_wp2
    go_loopw [5] (fun i wr => ∃ k : Nat, k ≤ xs.length ∧ i = .int .i64 k ∧ xs.take k = ys.take k ∧ ∃ n, wr = w.drewN n) (fun i _ => xs.length - (intOf i).toNat)
    case atStart => exact ⟨0, Nat.zero_le _, rfl, rfl, 0, rfl⟩
    case round =>
      obtain ⟨k, hk, rfl, ht, n, rfl⟩ := hrel
      have HT : Hid (xs.take k = ys.take k) := ht
      clear ht
      by_cases hlt : k < xs.length
      · obtain ⟨g, off, x, rfl, hx1, hx3⟩ := hcl k hlt
        obtain ⟨g', off', y, rfl, hy1, hy3⟩ := hcl' k (by omega)
        have HX : Hid (xs[k]? = some x) := hx1
        have HY : Hid (ys[k]? = some y) := hy1
        have hlt' : k < ys.length := by omega
        clear hx1 hy1 hcl hcl'
        by_cases hxy : x = y
        · subst hxy
          have hxx : (x != x) = false := by simp
          go_wp2
          go_quiet (fail)
          go_wp2
          go_roundw
          case rel => exact ⟨k + 1, by omega, by go_num, by rw [take_get HX.out, take_get HY.out, HT.out], _, rfl⟩
          case measure => simp [intOf]; omega
        · have hne : (x != y) = true := by rw [bne_iff_ne]; exact hxy
          go_wp2
          go_quiet (fail)
          go_wp2
          go_ret
          exact ⟨ret1b (by rw [eq_comm, decide_eq_false_iff_not]; rintro rfl; have := HX.out.symm.trans HY.out; simp at this; exact hxy this), _, World.drewN_drewN _ _ _⟩
      · have hk' : k = xs.length := by omega
        go_wp2
        go_ret
        refine ⟨ret1b ?_, n, rfl⟩
        have := HT.out
        rw [List.take_of_length_le (by omega), List.take_of_length_le (by omega)] at this
        simp [this]
  · have hle : ((xs.length : Int) != ys.length) = true := by rw [bne_iff_ne]; omega
    go_enter Tryd.func62, Tryd.ntmps62
    go_wp2
    go_ret
    exact ⟨ret1b (by rw [eq_comm, decide_eq_false_iff_not]; rintro rfl; exact hl rfl), 0, rfl⟩

set_option maxRecDepth 100000 in
set_option maxHeartbeats 1600000 in
theorem same5_any (v u : Value) (a : List Bd) (w : World) (h : Bs w v a) (h' : Bs w u a) :
    Calls Tryd.prog 12 #[v, u] w fun e w' => e = .returned (.bool true) ∧ Below w.heap.size w w' := by
  obtain ⟨ao, cap, rfl, hao, hca, _⟩ := Row.flat h
  obtain ⟨bo, cap', rfl, hbo, hcb, _⟩ := Row.flat h'
  unfold maxLen at hca hcb
  have HA := hid h
  have HB := hid h'
  clear h h'
  have hle : ((a.length : Int) != a.length) = false := by simp
  go_enter Tryd.func12, Tryd.ntmps12
  go_wp2
  go_loopw [5] (fun i wr => ∃ k : Nat, k ≤ a.length ∧ i = .int .i64 k ∧ Below w.heap.size w wr) (fun i _ => a.length - (intOf i).toNat)
  case atStart => exact ⟨0, Nat.zero_le _, rfl, Below.refl _ _⟩
  case round =>
    obtain ⟨k, hk, rfl, hbl⟩ := hrel
    have HBl := hid hbl
    by_cases hlt : k < a.length
    · obtain ⟨g, off, x, xa, t, xc, rfl, hm, hc0, hc1, hit, hx1, hx2, hx3⟩ := (HA.out.kp (Kp.of_below hbl)).at hlt
      obtain ⟨g', off', y, ya, t', yc, rfl, hm', hd0, hd1, hjt, hy1, hy2, hy3⟩ := (HB.out.kp (Kp.of_below hbl)).at hlt
      obtain ⟨rfl, rfl⟩ : x = y ∧ t = t' := by rw [hm] at hm'; simpa using hm'
      have hxx : (x != x) = false := by simp
      have HC : Hid (∀ W, Below wr.heap.size wr W → Calls Tryd.prog 13 #[.slice xa t.length xc, .slice ya t.length yc] W fun e w' => e = .returned (.bool true) ∧ Below W.heap.size W w') := fun W hW => by
        refine (sameRow5_any _ _ t t W (hit.kp (Kp.of_below hW)) (hjt.kp (Kp.of_below hW))).mono ?_
        rintro e w' ⟨rfl, n, hw⟩
        exact ⟨by rw [decide_eq_true rfl], drawn_below hw⟩
      clear hm hm' hit hjt hbl
      go_wp2_with fail
      refine region_below (by kernel_rfl) (by kernel_rfl) ?_
      (go_big_quiet_want; go_big_quiet_op; go_big_quiet_on)
      (go_big_quiet_want; go_big_quiet_op; go_big_quiet_on)
      go_big_quiet_want
      refine ⟨.pointer (some ⟨g, off + k * 2, none⟩), fun w' hw' => ?_, ?_⟩
      · unfold Oper.quietAt; go_simp
      simp only [Act.put, List.setIfInBounds_toArray, List.set_cons_zero, List.set_cons_succ]
      go_big_quiet_on
      go_big_quiet_want
      refine ⟨.pointer (some ⟨g, off + k * 2 + 1, none⟩), fun w' hw' => ?_, ?_⟩
      · unfold Oper.quietAt; go_simp
      simp only [Act.put, List.setIfInBounds_toArray, List.set_cons_zero, List.set_cons_succ]
      go_big_quiet_on
      go_big_quiet_want
      refine ⟨.slice xa t.length xc, fun w' hw' => ?_, ?_⟩
      · have hh0 := (Kp.of_below hw').cell _ _ hc1; unfold Oper.quietAt; go_simp
      simp only [Act.put, List.setIfInBounds_toArray, List.set_cons_zero, List.set_cons_succ]
      go_big_quiet_on
      (go_big_quiet_want; go_big_quiet_op; go_big_quiet_on)
      (go_big_quiet_want; go_big_quiet_op; go_big_quiet_on)
      go_big_quiet_want
      refine ⟨.pointer (some ⟨g', off' + k * 2, none⟩), fun w' hw' => ?_, ?_⟩
      · unfold Oper.quietAt; go_simp
      simp only [Act.put, List.setIfInBounds_toArray, List.set_cons_zero, List.set_cons_succ]
      go_big_quiet_on
      go_big_quiet_want
      refine ⟨.pointer (some ⟨g', off' + k * 2 + 1, none⟩), fun w' hw' => ?_, ?_⟩
      · unfold Oper.quietAt; go_simp
      simp only [Act.put, List.setIfInBounds_toArray, List.set_cons_zero, List.set_cons_succ]
      go_big_quiet_on
      go_big_quiet_want
      refine ⟨.slice ya t.length yc, fun w' hw' => ?_, ?_⟩
      · have hh0 := (Kp.of_below hw').cell _ _ hd1; unfold Oper.quietAt; go_simp
      simp only [Act.put, List.setIfInBounds_toArray, List.set_cons_zero, List.set_cons_succ]
      go_big_quiet_on
      go_big_quiet_want
      refine ⟨.bool true, fun w' hw' => ?_, ?_⟩
      · unfold Oper.quietAt; go_simp; exact (HC.out w' hw').mono (fun e w2 ⟨he, hb⟩ => ⟨he, below_step hw' hb⟩)
      simp only [Act.put, List.setIfInBounds_toArray, List.set_cons_zero, List.set_cons_succ]
      go_big_quiet_on
      (go_big_quiet_want; go_big_quiet_op; go_big_quiet_on)
      refine wpQuiet_nil ?_
      intro w2 hb2
      have HB2 := hid (below_step HBl.out hb2)
      have he0 := (Kp.of_below hb2).cell _ _ hc0
      have he1 := (Kp.of_below hb2).cell _ _ hd0
      clear hb2 HC hc0 hc1 hd0 hd1
      go_wp2_with fail
      refine region_below (by kernel_rfl) (by kernel_rfl) ?_
      (go_big_quiet_want; go_big_quiet_op; go_big_quiet_on)
      go_big_quiet_want
      refine ⟨.bool false, fun w' hw' => ?_, ?_⟩
      · unfold Oper.quietAt; go_simp
      simp only [Act.put, List.setIfInBounds_toArray, List.set_cons_zero, List.set_cons_succ]
      go_big_quiet_on
      (go_big_quiet_want; go_big_quiet_op; go_big_quiet_on)
      (go_big_quiet_want; go_big_quiet_op; go_big_quiet_on)
      (go_big_quiet_want; go_big_quiet_op; go_big_quiet_on)
      go_big_quiet_want
      refine ⟨.pointer (some ⟨g, off + k * 2, none⟩), fun w' hw' => ?_, ?_⟩
      · unfold Oper.quietAt; go_simp
      simp only [Act.put, List.setIfInBounds_toArray, List.set_cons_zero, List.set_cons_succ]
      go_big_quiet_on
      go_big_quiet_want
      refine ⟨.pointer (some ⟨g, off + k * 2, none⟩), fun w' hw' => ?_, ?_⟩
      · unfold Oper.quietAt; go_simp
      simp only [Act.put, List.setIfInBounds_toArray, List.set_cons_zero, List.set_cons_succ]
      go_big_quiet_on
      go_big_quiet_want
      refine ⟨.int .i64 x, fun w' hw' => ?_, ?_⟩
      · have hh0 := (Kp.of_below hw').cell _ _ he0; unfold Oper.quietAt; go_simp
      simp only [Act.put, List.setIfInBounds_toArray, List.set_cons_zero, List.set_cons_succ]
      go_big_quiet_on
      (go_big_quiet_want; go_big_quiet_op; go_big_quiet_on)
      (go_big_quiet_want; go_big_quiet_op; go_big_quiet_on)
      go_big_quiet_want
      refine ⟨.pointer (some ⟨g', off' + k * 2, none⟩), fun w' hw' => ?_, ?_⟩
      · unfold Oper.quietAt; go_simp
      simp only [Act.put, List.setIfInBounds_toArray, List.set_cons_zero, List.set_cons_succ]
      go_big_quiet_on
      go_big_quiet_want
      refine ⟨.pointer (some ⟨g', off' + k * 2, none⟩), fun w' hw' => ?_, ?_⟩
      · unfold Oper.quietAt; go_simp
      simp only [Act.put, List.setIfInBounds_toArray, List.set_cons_zero, List.set_cons_succ]
      go_big_quiet_on
      go_big_quiet_want
      refine ⟨.int .i64 x, fun w' hw' => ?_, ?_⟩
      · have hh0 := (Kp.of_below hw').cell _ _ he1; unfold Oper.quietAt; go_simp
      simp only [Act.put, List.setIfInBounds_toArray, List.set_cons_zero, List.set_cons_succ]
      go_big_quiet_on
      go_big_quiet_want
      refine ⟨.bool false, fun w' hw' => ?_, ?_⟩
      · unfold Oper.quietAt; go_simp
      simp only [Act.put, List.setIfInBounds_toArray, List.set_cons_zero, List.set_cons_succ]
      go_big_quiet_on
      go_big_quiet_want
      refine ⟨.bool false, fun w' hw' => ?_, ?_⟩
      · unfold Oper.quietAt; go_simp
      simp only [Act.put, List.setIfInBounds_toArray, List.set_cons_zero, List.set_cons_succ]
      go_big_quiet_on
      refine wpQuiet_nil ?_
      intro w3 hb3
      have HB3 := hid (below_step HB2.out hb3)
      clear hb3 he0 he1
      go_wp2
      go_roundw
      case rel => exact ⟨k + 1, by omega, by go_num, HB3.out⟩
      case measure => simp [intOf]; omega
    · go_wp2
      go_ret
      exact ⟨rfl, HBl.out⟩

end Go.Proofs.YtcijfaijjpkdoaaDoor

/- What makes a pattern a term is one. -/
namespace Go.Proofs.YtcijfaijjpkdoaaDoor
open Go.RowKit Go.Maps

theorem laid_unique {sig : List Sy} {f g : Int → Option (List Int)} (hf : Rt sig f) (hg : Rt sig g) : ∀ p : List Int, (∀ c ∈ p, c < 0 → f (-1 - c) ≠ none) → (∀ c ∈ p, c < 0 → g (-1 - c) ≠ none) → laidL f p = laidL g p → ∀ c ∈ p, c < 0 → f (-1 - c) = g (-1 - c)
  | [], _, _, _, c, hc, _ => by simp at hc
  | d :: p, h1, h2, h, c, hc, h0 => by
    rw [laidL_cons, laidL_cons] at h
    by_cases hd : d < 0
    · obtain ⟨u, hu⟩ := Option.ne_none_iff_exists'.1 (h1 d (by simp) hd)
      obtain ⟨v, hv⟩ := Option.ne_none_iff_exists'.1 (h2 d (by simp) hd)
      have e1 : piece f d = u := by unfold piece; rw [if_pos hd, hu]; rfl
      have e2 : piece g d = v := by unfold piece; rw [if_pos hd, hv]; rfl
      rw [e1, e2] at h
      have k1 := first_right (hf _ _ hu) (laidL f p)
      rw [h, first_right (hg _ _ hv)] at k1
      have k2 : u.length = v.length := by
        have := congrArg Prod.fst k1
        simp only at this
        omega
      obtain ⟨k3, k4⟩ := List.append_inj h k2
      rcases List.mem_cons.1 hc with rfl | hc
      · rw [hu, hv, k3]
      · exact laid_unique hf hg p (fun x hx => h1 x (by simp [hx])) (fun x hx => h2 x (by simp [hx])) k4 c hc h0
    · have e1 : piece f d = [d] := by unfold piece; rw [if_neg hd]
      have e2 : piece g d = [d] := by unfold piece; rw [if_neg hd]
      rw [e1, e2] at h
      have k4 : laidL f p = laidL g p := by simpa using h
      rcases List.mem_cons.1 hc with rfl | hc
      · exact absurd h0 hd
      · exact laid_unique hf hg p (fun x hx => h1 x (by simp [hx])) (fun x hx => h2 x (by simp [hx])) k4 c hc h0

theorem sm_unique {sig : List Sy} {f g : Int → Option (List Int)} {p t : List Int} (hf : Rt sig f) (hg : Rt sig g) (h1 : Sm f p t) (h2 : Sm g p t) : ∀ c ∈ p, c < 0 → f (-1 - c) = g (-1 - c) := laid_unique hf hg p h1.1 h2.1 (by rw [h1.2, h2.2])

theorem binds_unique {sig : List Sy} {f g : Int → Option (List Int)} {p t : List Int} (hf : Rt sig f) (hg : Rt sig g) (h1 : Sm f p t) (h2 : Sm g p t) : bindsL f p = bindsL g p := by
  unfold bindsL
  refine List.map_congr_left fun n hn => ?_
  obtain ⟨c, hc, h0, rfl⟩ := mem_varsL.1 ((sortI_mem _ _).1 hn)
  rw [sm_unique hf hg h1 h2 c hc h0]

end Go.Proofs.YtcijfaijjpkdoaaDoor

/- The examples of layer 5 come out true. -/
namespace Go.Proofs.YtcijfaijjpkdoaaDoor
open Go.RowKit Go.Maps Go.BigFrame

theorem small_ints5 (xs : List Int) (h : (xs.all fun x => decide (-100 ≤ x ∧ x ≤ 100)) = true) : ∀ x ∈ xs, -9223372036854775808 ≤ x ∧ x ≤ 9223372036854775807 := fun x hx => by
  have := List.all_eq_true.1 h x hx
  simp at this
  omega

theorem sh5_p : termE sumS [2, -1, -2] = 0 := by kernel_rfl
theorem sh5_t : termE sumS [2, 1, 0, 0] = 0 := by kernel_rfl
theorem sh5_q : termE sumS [2, -1, -1] = 0 := by kernel_rfl
theorem sh5_u : termE sumS [2, 0, 1, 0] = 0 := by kernel_rfl
theorem sh5_a : (termsB sumS [[2, -1, -2], [-1], [2, -7, -3], [-7]] && decide (canL [[2, -1, -2], [-1]] = canL [[2, -7, -3], [-7]])) = true := by kernel_rfl
theorem sh5_b : (termsB sumS [[2, -1, -2], [-1], [2, -7, -3], [-3]] && decide (canL [[2, -1, -2], [-1]] = canL [[2, -7, -3], [-3]])) = false := by kernel_rfl

/-- The example's binds. -/
def shF (n : Int) : Option (List Int) := if n = 0 then some [1, 0] else if n = 1 then some [0] else none

theorem shF_rt : Rt sumS shF := fun n u hu => by
  unfold shF at hu
  split at hu
  · cases hu; kernel_rfl
  · split at hu
    · cases hu; kernel_rfl
    · cases hu

theorem shF_sm : Sm shF [2, -1, -2] [2, 1, 0, 0] := ⟨fun c hc h0 => by
  simp at hc
  rcases hc with rfl | rfl | rfl
  · omega
  · decide
  · decide, by decide⟩

theorem shF_vars : varsL [2, -1, -2] = [0, 1] := by kernel_rfl

theorem shF_sort : sortI [0, 1] = [0, 1] := by
  unfold sortI
  first
    | exact List.mergeSort_of_pairwise (by simp)
    | exact List.mergeSort_of_sorted (by simp)

theorem shF_binds : bindsL shF [2, -1, -2] = [(0, [1, 0]), (1, [0])] := by
  unfold bindsL
  rw [shF_vars, shF_sort]
  rfl

theorem sh_no (f : Int → Option (List Int)) (_hf : Rt sumS f) : ¬ Sm f [2, -1, -1] [2, 0, 1, 0] := fun h => by
  have h1 := h.2
  rw [laidL_cons, laidL_cons, laidL_cons] at h1
  have e1 : piece f 2 = [2] := by unfold piece; rw [if_neg (by omega)]
  have h2 := congrArg List.length h1
  rw [e1] at h2
  simp [laidL] at h2
  omega

set_option maxRecDepth 100000 in
theorem call_m1 (w : World) (sv : Value) (hs : Sg w sv sumS) (hT : Tabs w) : Calls Tryd.prog 10 #[sv, .slice (some ⟨w.heap.size, 0, none⟩) 3 3, .slice (some ⟨w.heap.size + 1, 0, none⟩) 4 4] ((w.alloc (Obj.cells #[Value.int IntKind.i64 2, Value.int IntKind.i64 (-1), Value.int IntKind.i64 (-2)] 3)).alloc (Obj.cells #[Value.int IntKind.i64 2, Value.int IntKind.i64 1, Value.int IntKind.i64 0, Value.int IntKind.i64 0] 3))
    fun e w' => ∃ v, e = .returned (.tuple #[v, .bool true]) ∧ Bs w' v [(0, [1, 0]), (1, [0])] ∧ Below w.heap.size w w' := by
  have hB : Below w.heap.size w ((w.alloc (Obj.cells #[Value.int IntKind.i64 2, Value.int IntKind.i64 (-1), Value.int IntKind.i64 (-2)] 3)).alloc (Obj.cells #[Value.int IntKind.i64 2, Value.int IntKind.i64 1, Value.int IntKind.i64 0, Value.int IntKind.i64 0] 3)) := (below_step (below_alloc _) (below_alloc _))
  obtain ⟨W, hW⟩ : ∃ W, W = ((w.alloc (Obj.cells #[Value.int IntKind.i64 2, Value.int IntKind.i64 (-1), Value.int IntKind.i64 (-2)] 3)).alloc (Obj.cells #[Value.int IntKind.i64 2, Value.int IntKind.i64 1, Value.int IntKind.i64 0, Value.int IntKind.i64 0] 3)) := ⟨_, rfl⟩
  have hsz : W.heap.size = w.heap.size + 2 := by rw [hW]; simp
  have i1 : Is W (.slice (some ⟨w.heap.size, 0, none⟩) 3 3) [2, -1, -2] := by
    refine is_lit (p := [2, -1, -2]) (by omega) (by decide) ⟨ei (by omega) (by omega) ?_, ei (by omega) (by omega) ?_, ei (by omega) (by omega) ?_, trivial⟩ <;> (rw [hW]; repeat (first | (refine cell_newg ?_ rfl; simp; done) | refine cell_old ?_))
  have i2 : Is W (.slice (some ⟨w.heap.size + 1, 0, none⟩) 4 4) [2, 1, 0, 0] := by
    refine is_lit (p := [2, 1, 0, 0]) (by omega) (by decide) ⟨ei (by omega) (by omega) ?_, ei (by omega) (by omega) ?_, ei (by omega) (by omega) ?_, ei (by omega) (by omega) ?_, trivial⟩ <;> (rw [hW]; repeat (first | (refine cell_newg ?_ rfl; simp; done) | refine cell_old ?_))
  rw [← hW] at hB ⊢
  refine (match_any sv _ _ sumS [2, -1, -2] [2, 1, 0, 0] W (hs.kp (Kp.of_below hB)) i1 i2 (hT.below hB) (by decide) (by decide)).mono ?_
  rintro e w' ⟨hb, ⟨rfl, h⟩ | ⟨v, f, rfl, _, _, hf, hsm, ho⟩⟩
  · exact absurd shF_sm (by
      rcases h with h | h | h
      · exact absurd sh5_p h
      · exact absurd sh5_t h
      · exact h shF shF_rt)
  · rw [binds_unique hf shF_rt hsm shF_sm, shF_binds] at ho
    exact ⟨v, rfl, ho.bs, below_step hB hb⟩

set_option maxRecDepth 100000 in
theorem call_m2 (w : World) (sv : Value) (hs : Sg w sv sumS) (hT : Tabs w) : Calls Tryd.prog 10 #[sv, .slice (some ⟨w.heap.size, 0, none⟩) 3 3, .slice (some ⟨w.heap.size + 1, 0, none⟩) 4 4] ((w.alloc (Obj.cells #[Value.int IntKind.i64 2, Value.int IntKind.i64 (-1), Value.int IntKind.i64 (-1)] 3)).alloc (Obj.cells #[Value.int IntKind.i64 2, Value.int IntKind.i64 0, Value.int IntKind.i64 1, Value.int IntKind.i64 0] 3))
    fun e w' => e = .returned (.tuple #[.slice none 0 0, .bool false]) ∧ Below w.heap.size w w' := by
  have hB : Below w.heap.size w ((w.alloc (Obj.cells #[Value.int IntKind.i64 2, Value.int IntKind.i64 (-1), Value.int IntKind.i64 (-1)] 3)).alloc (Obj.cells #[Value.int IntKind.i64 2, Value.int IntKind.i64 0, Value.int IntKind.i64 1, Value.int IntKind.i64 0] 3)) := (below_step (below_alloc _) (below_alloc _))
  obtain ⟨W, hW⟩ : ∃ W, W = ((w.alloc (Obj.cells #[Value.int IntKind.i64 2, Value.int IntKind.i64 (-1), Value.int IntKind.i64 (-1)] 3)).alloc (Obj.cells #[Value.int IntKind.i64 2, Value.int IntKind.i64 0, Value.int IntKind.i64 1, Value.int IntKind.i64 0] 3)) := ⟨_, rfl⟩
  have hsz : W.heap.size = w.heap.size + 2 := by rw [hW]; simp
  have i1 : Is W (.slice (some ⟨w.heap.size, 0, none⟩) 3 3) [2, -1, -1] := by
    refine is_lit (p := [2, -1, -1]) (by omega) (by decide) ⟨ei (by omega) (by omega) ?_, ei (by omega) (by omega) ?_, ei (by omega) (by omega) ?_, trivial⟩ <;> (rw [hW]; repeat (first | (refine cell_newg ?_ rfl; simp; done) | refine cell_old ?_))
  have i2 : Is W (.slice (some ⟨w.heap.size + 1, 0, none⟩) 4 4) [2, 0, 1, 0] := by
    refine is_lit (p := [2, 0, 1, 0]) (by omega) (by decide) ⟨ei (by omega) (by omega) ?_, ei (by omega) (by omega) ?_, ei (by omega) (by omega) ?_, ei (by omega) (by omega) ?_, trivial⟩ <;> (rw [hW]; repeat (first | (refine cell_newg ?_ rfl; simp; done) | refine cell_old ?_))
  rw [← hW] at hB ⊢
  refine (match_any sv _ _ sumS [2, -1, -1] [2, 0, 1, 0] W (hs.kp (Kp.of_below hB)) i1 i2 (hT.below hB) (by decide) (by decide)).mono ?_
  rintro e w' ⟨hb, ⟨rfl, _⟩ | ⟨v, f, rfl, _, _, hf, hsm, ho⟩⟩
  · exact ⟨rfl, below_step hB hb⟩
  · exact absurd hsm (sh_no f hf)

set_option maxRecDepth 100000 in
theorem call_v1 (w : World) (sv : Value) (hs : Sg w sv sumS) (hT : Tabs w) : Calls Tryd.prog 14 #[sv, .agg #[.slice (some ⟨w.heap.size, 0, none⟩) 3 3, .slice (some ⟨w.heap.size + 1, 0, none⟩) 1 1], .agg #[.slice (some ⟨w.heap.size + 1 + 1, 0, none⟩) 3 3, .slice (some ⟨w.heap.size + 1 + 1 + 1, 0, none⟩) 1 1]] ((((w.alloc (Obj.cells #[Value.int IntKind.i64 2, Value.int IntKind.i64 (-1), Value.int IntKind.i64 (-2)] 3)).alloc (Obj.cells #[Value.int IntKind.i64 (-1)] 3)).alloc (Obj.cells #[Value.int IntKind.i64 2, Value.int IntKind.i64 (-7), Value.int IntKind.i64 (-3)] 3)).alloc (Obj.cells #[Value.int IntKind.i64 (-7)] 3))
    fun e w' => e = .returned (.bool true) ∧ Below w.heap.size w w' := by
  have hB : Below w.heap.size w ((((w.alloc (Obj.cells #[Value.int IntKind.i64 2, Value.int IntKind.i64 (-1), Value.int IntKind.i64 (-2)] 3)).alloc (Obj.cells #[Value.int IntKind.i64 (-1)] 3)).alloc (Obj.cells #[Value.int IntKind.i64 2, Value.int IntKind.i64 (-7), Value.int IntKind.i64 (-3)] 3)).alloc (Obj.cells #[Value.int IntKind.i64 (-7)] 3)) := (below_step (below_step (below_step (below_alloc _) (below_alloc _)) (below_alloc _)) (below_alloc _))
  obtain ⟨W, hW⟩ : ∃ W, W = ((((w.alloc (Obj.cells #[Value.int IntKind.i64 2, Value.int IntKind.i64 (-1), Value.int IntKind.i64 (-2)] 3)).alloc (Obj.cells #[Value.int IntKind.i64 (-1)] 3)).alloc (Obj.cells #[Value.int IntKind.i64 2, Value.int IntKind.i64 (-7), Value.int IntKind.i64 (-3)] 3)).alloc (Obj.cells #[Value.int IntKind.i64 (-7)] 3)) := ⟨_, rfl⟩
  have hsz : W.heap.size = w.heap.size + 4 := by rw [hW]; simp
  have i1 : Is W (.slice (some ⟨w.heap.size, 0, none⟩) 3 3) [2, -1, -2] := by
    refine is_lit (p := [2, -1, -2]) (by omega) (by decide) ⟨ei (by omega) (by omega) ?_, ei (by omega) (by omega) ?_, ei (by omega) (by omega) ?_, trivial⟩ <;> (rw [hW]; repeat (first | (refine cell_newg ?_ rfl; simp; done) | refine cell_old ?_))
  have i2 : Is W (.slice (some ⟨w.heap.size + 1, 0, none⟩) 1 1) [-1] := by
    refine is_lit (p := [-1]) (by omega) (by decide) ⟨ei (by omega) (by omega) ?_, trivial⟩ <;> (rw [hW]; repeat (first | (refine cell_newg ?_ rfl; simp; done) | refine cell_old ?_))
  have i3 : Is W (.slice (some ⟨w.heap.size + 1 + 1, 0, none⟩) 3 3) [2, -7, -3] := by
    refine is_lit (p := [2, -7, -3]) (by omega) (by decide) ⟨ei (by omega) (by omega) ?_, ei (by omega) (by omega) ?_, ei (by omega) (by omega) ?_, trivial⟩ <;> (rw [hW]; repeat (first | (refine cell_newg ?_ rfl; simp; done) | refine cell_old ?_))
  have i4 : Is W (.slice (some ⟨w.heap.size + 1 + 1 + 1, 0, none⟩) 1 1) [-7] := by
    refine is_lit (p := [-7]) (by omega) (by decide) ⟨ei (by omega) (by omega) ?_, trivial⟩ <;> (rw [hW]; repeat (first | (refine cell_newg ?_ rfl; simp; done) | refine cell_old ?_))
  rw [← hW] at hB ⊢
  refine (variant_any sv _ _ _ _ sumS [2, -1, -2] [-1] [2, -7, -3] [-7] W (hs.kp (Kp.of_below hB)) i1 i2 i3 i4 (hT.below hB) (by decide) (by decide) (by decide) (by decide)).mono ?_
  rintro e w' ⟨rfl, hb⟩
  rw [sh5_a]
  exact ⟨rfl, below_step hB hb⟩

set_option maxRecDepth 100000 in
theorem call_v2 (w : World) (sv : Value) (hs : Sg w sv sumS) (hT : Tabs w) : Calls Tryd.prog 14 #[sv, .agg #[.slice (some ⟨w.heap.size, 0, none⟩) 3 3, .slice (some ⟨w.heap.size + 1, 0, none⟩) 1 1], .agg #[.slice (some ⟨w.heap.size + 1 + 1, 0, none⟩) 3 3, .slice (some ⟨w.heap.size + 1 + 1 + 1, 0, none⟩) 1 1]] ((((w.alloc (Obj.cells #[Value.int IntKind.i64 2, Value.int IntKind.i64 (-1), Value.int IntKind.i64 (-2)] 3)).alloc (Obj.cells #[Value.int IntKind.i64 (-1)] 3)).alloc (Obj.cells #[Value.int IntKind.i64 2, Value.int IntKind.i64 (-7), Value.int IntKind.i64 (-3)] 3)).alloc (Obj.cells #[Value.int IntKind.i64 (-3)] 3))
    fun e w' => e = .returned (.bool false) ∧ Below w.heap.size w w' := by
  have hB : Below w.heap.size w ((((w.alloc (Obj.cells #[Value.int IntKind.i64 2, Value.int IntKind.i64 (-1), Value.int IntKind.i64 (-2)] 3)).alloc (Obj.cells #[Value.int IntKind.i64 (-1)] 3)).alloc (Obj.cells #[Value.int IntKind.i64 2, Value.int IntKind.i64 (-7), Value.int IntKind.i64 (-3)] 3)).alloc (Obj.cells #[Value.int IntKind.i64 (-3)] 3)) := (below_step (below_step (below_step (below_alloc _) (below_alloc _)) (below_alloc _)) (below_alloc _))
  obtain ⟨W, hW⟩ : ∃ W, W = ((((w.alloc (Obj.cells #[Value.int IntKind.i64 2, Value.int IntKind.i64 (-1), Value.int IntKind.i64 (-2)] 3)).alloc (Obj.cells #[Value.int IntKind.i64 (-1)] 3)).alloc (Obj.cells #[Value.int IntKind.i64 2, Value.int IntKind.i64 (-7), Value.int IntKind.i64 (-3)] 3)).alloc (Obj.cells #[Value.int IntKind.i64 (-3)] 3)) := ⟨_, rfl⟩
  have hsz : W.heap.size = w.heap.size + 4 := by rw [hW]; simp
  have i1 : Is W (.slice (some ⟨w.heap.size, 0, none⟩) 3 3) [2, -1, -2] := by
    refine is_lit (p := [2, -1, -2]) (by omega) (by decide) ⟨ei (by omega) (by omega) ?_, ei (by omega) (by omega) ?_, ei (by omega) (by omega) ?_, trivial⟩ <;> (rw [hW]; repeat (first | (refine cell_newg ?_ rfl; simp; done) | refine cell_old ?_))
  have i2 : Is W (.slice (some ⟨w.heap.size + 1, 0, none⟩) 1 1) [-1] := by
    refine is_lit (p := [-1]) (by omega) (by decide) ⟨ei (by omega) (by omega) ?_, trivial⟩ <;> (rw [hW]; repeat (first | (refine cell_newg ?_ rfl; simp; done) | refine cell_old ?_))
  have i3 : Is W (.slice (some ⟨w.heap.size + 1 + 1, 0, none⟩) 3 3) [2, -7, -3] := by
    refine is_lit (p := [2, -7, -3]) (by omega) (by decide) ⟨ei (by omega) (by omega) ?_, ei (by omega) (by omega) ?_, ei (by omega) (by omega) ?_, trivial⟩ <;> (rw [hW]; repeat (first | (refine cell_newg ?_ rfl; simp; done) | refine cell_old ?_))
  have i4 : Is W (.slice (some ⟨w.heap.size + 1 + 1 + 1, 0, none⟩) 1 1) [-3] := by
    refine is_lit (p := [-3]) (by omega) (by decide) ⟨ei (by omega) (by omega) ?_, trivial⟩ <;> (rw [hW]; repeat (first | (refine cell_newg ?_ rfl; simp; done) | refine cell_old ?_))
  rw [← hW] at hB ⊢
  refine (variant_any sv _ _ _ _ sumS [2, -1, -2] [-1] [2, -7, -3] [-3] W (hs.kp (Kp.of_below hB)) i1 i2 i3 i4 (hT.below hB) (by decide) (by decide) (by decide) (by decide)).mono ?_
  rintro e w' ⟨rfl, hb⟩
  rw [sh5_b]
  exact ⟨rfl, below_step hB hb⟩

set_option maxRecDepth 100000 in
theorem call_s5 (w : World) (v : Value) (h : Bs w v [(0, [1, 0]), (1, [0])]) : Calls Tryd.prog 12 #[v, .slice (some ⟨w.heap.size + 1 + 1, 0, none⟩) 2 2] (((w.alloc (Obj.cells #[Value.int IntKind.i64 1, Value.int IntKind.i64 0] 3)).alloc (Obj.cells #[Value.int IntKind.i64 0] 3)).alloc (Obj.cells #[Value.int IntKind.i64 0, .slice (some ⟨w.heap.size, 0, none⟩) 2 2, Value.int IntKind.i64 1, .slice (some ⟨w.heap.size + 1, 0, none⟩) 1 1] 30))
    fun e w' => e = .returned (.bool true) ∧ Below w.heap.size w w' := by
  have hB : Below w.heap.size w (((w.alloc (Obj.cells #[Value.int IntKind.i64 1, Value.int IntKind.i64 0] 3)).alloc (Obj.cells #[Value.int IntKind.i64 0] 3)).alloc (Obj.cells #[Value.int IntKind.i64 0, .slice (some ⟨w.heap.size, 0, none⟩) 2 2, Value.int IntKind.i64 1, .slice (some ⟨w.heap.size + 1, 0, none⟩) 1 1] 30)) := (below_step (below_step (below_alloc _) (below_alloc _)) (below_alloc _))
  obtain ⟨W, hW⟩ : ∃ W, W = (((w.alloc (Obj.cells #[Value.int IntKind.i64 1, Value.int IntKind.i64 0] 3)).alloc (Obj.cells #[Value.int IntKind.i64 0] 3)).alloc (Obj.cells #[Value.int IntKind.i64 0, .slice (some ⟨w.heap.size, 0, none⟩) 2 2, Value.int IntKind.i64 1, .slice (some ⟨w.heap.size + 1, 0, none⟩) 1 1] 30)) := ⟨_, rfl⟩
  have hsz : W.heap.size = w.heap.size + 3 := by rw [hW]; simp
  have i1 : Is W (.slice (some ⟨w.heap.size, 0, none⟩) 2 2) [1, 0] := by
    refine is_lit (p := [1, 0]) (by omega) (by decide) ⟨ei (by omega) (by omega) ?_, ei (by omega) (by omega) ?_, trivial⟩ <;> (rw [hW]; repeat (first | (refine cell_newg ?_ rfl; simp; done) | refine cell_old ?_))
  have i2 : Is W (.slice (some ⟨w.heap.size + 1, 0, none⟩) 1 1) [0] := by
    refine is_lit (p := [0]) (by omega) (by decide) ⟨ei (by omega) (by omega) ?_, trivial⟩ <;> (rw [hW]; repeat (first | (refine cell_newg ?_ rfl; simp; done) | refine cell_old ?_))
  have i3 : Bs W (.slice (some ⟨w.heap.size + 1 + 1, 0, none⟩) 2 2) [(0, [1, 0]), (1, [0])] := by
    refine bs_lit (p := [(0, [1, 0]), (1, [0])]) (by omega) (by decide) ⟨⟨by decide, by decide, by decide, ?_, _, ?_, i1⟩, ⟨by decide, by decide, by decide, ?_, _, ?_, i2⟩, trivial⟩ <;> (rw [hW]; repeat (first | (refine cell_newg ?_ rfl; simp; done) | refine cell_old ?_))
  rw [← hW] at hB ⊢
  refine (same5_any v _ _ W (h.kp (Kp.of_below hB)) i3).mono ?_
  rintro e w' ⟨rfl, hb⟩
  exact ⟨rfl, below_step hB hb⟩

set_option maxRecDepth 100000 in
set_option maxHeartbeats 2000000 in
theorem shown5_any (w : World) (hT : Tabs w) : Calls Tryd.prog 9 #[] w fun e w' => e = .returned (.bool true) ∧ Below w.heap.size w w' := by
  have HT := hid hT
  clear hT
  go_enter Tryd.func9, Tryd.ntmps9
  go_wp2_with fail
  refine (three5_any w).mono ?_
  rintro e w1 ⟨v1, rfl, hs1, hb1⟩
  obtain ⟨so, sc, rfl, _, hsc, _⟩ := Row.flat hs1
  have HS1 := hid hs1
  have HB1 := hid hb1
  clear hs1 hb1
  go_wp2_with fail
  refine (call_m1 w1 _ HS1.out (HT.out.below HB1.out)).mono ?_
  rintro e w2 ⟨va, rfl, ha, hb2⟩
  have HA := hid ha
  have C2 := hid hb2
  have HB2 := hid (below_step HB1.out hb2)
  clear ha hb2
  go_wp2_with fail
  refine (call_m2 w2 _ (HS1.out.kp (Kp.of_below C2.out)) (HT.out.below HB2.out)).mono ?_
  rintro e w3 ⟨rfl, hb3⟩
  have C3 := hid hb3
  have HB3 := hid (below_step HB2.out hb3)
  clear hb3
  go_wp2_with fail
  refine (call_s5 w3 _ (HA.out.kp (Kp.of_below C3.out))).mono ?_
  rintro e w4 ⟨rfl, hb4⟩
  have C4 := hid (below_step C3.out hb4)
  have HB4 := hid (below_step HB3.out hb4)
  clear hb4
  go_wp2_with fail
  refine (call_v1 w4 _ (HS1.out.kp (Kp.of_below (below_step C2.out C4.out))) (HT.out.below HB4.out)).mono ?_
  rintro e w5 ⟨rfl, hb5⟩
  have C5 := hid (below_step C4.out hb5)
  have HB5 := hid (below_step HB4.out hb5)
  clear hb5
  go_wp2_with fail
  refine (call_v2 w5 _ (HS1.out.kp (Kp.of_below (below_step C2.out C5.out))) (HT.out.below HB5.out)).mono ?_
  rintro e w6 ⟨rfl, hb6⟩
  have HB6 := hid (below_step HB5.out hb6)
  clear hb6
  go_wp2
  go_ret
  exact ⟨rfl, HB6.out⟩

end Go.Proofs.YtcijfaijjpkdoaaDoor

/- The document's bound of layer 5. -/
namespace Go.Proofs.YtcijfaijjpkdoaaDoor
open Go.RowKit Go.Maps

set_option maxRecDepth 100000 in
set_option maxHeartbeats 800000 in
theorem refBound5_any (bv : Value) (s : List Bd) (n : Int) (w : World) (h : Bs w bv s) :
    Calls Tryd.prog 61 #[bv, .int .i64 n] w fun e w' => w' = w ∧ ((s.lookup n = none ∧ e = .returned (.int .i64 (-1))) ∨ ∃ (k : Nat) (t : List Int), s[k]? = some (n, t) ∧ s.lookup n = some t ∧ e = .returned (.int .i64 k)) := by
  obtain ⟨so, sc, rfl, hso, hsc, _⟩ := Row.flat h
  unfold maxLen at hsc
  have HI := hid h
  clear h
  go_enter Tryd.func61, Tryd.ntmps61
  go_wp2
  go_loopw [5] (fun i wr => ∃ k : Nat, k ≤ s.length ∧ i = .int .i64 k ∧ s.lookup n = (s.drop k).lookup n ∧ wr = w) (fun i _ => s.length - (intOf i).toNat)
  case atStart => exact ⟨0, Nat.zero_le _, rfl, rfl, rfl⟩
  case round =>
    obtain ⟨k, hk, rfl, hlk, hw⟩ := hrel
    have hw8 := hw.symm
    subst hw8
    have HL := hid hlk
    clear hlk hw
    by_cases hlt : k < s.length
    · obtain ⟨g, off, x, ba, t, bc, rfl, hm, hc0, hc1, hit, hx1, hx2, hx3⟩ := HI.out.at hlt
      have HM := hid hm
      have HL2 : Hid (s.lookup n = List.lookup n ((x, t) :: s.drop (k + 1))) := by show _ = _; rw [HL.out, drop_get hm]
      clear hm hit HL
      by_cases hxn : x = n
      · have hb : (x == n) = true := by rw [beq_iff_eq]; exact hxn
        have HE : Hid (s.lookup n = some t) := by show _ = _; rw [HL2.out, List.lookup_cons, show (n == x) = true by rw [beq_iff_eq]; exact hxn.symm]
        have HX := hid hxn
        clear hxn
        go_wp2
        go_ret
        exact ⟨rfl, .inr ⟨k, t, by rw [HM.out, HX.out], HE.out, rfl⟩⟩
      · have hb : (x == n) = false := by rw [beq_eq_false_iff_ne]; exact hxn
        have HE : Hid (s.lookup n = (s.drop (k + 1)).lookup n) := by show _ = _; rw [HL2.out, List.lookup_cons, show (n == x) = false by rw [beq_eq_false_iff_ne]; exact fun e => hxn e.symm]
        go_wp2
        go_roundw
        case rel => exact ⟨k + 1, by omega, by go_num, HE.out, trivial⟩
        case measure => simp [intOf]; omega
    · have HE : Hid (s.lookup n = none) := by show _ = _; rw [HL.out, List.drop_of_length_le (by omega)]; rfl
      go_wp2
      go_ret
      exact ⟨rfl, .inl ⟨HE.out, rfl⟩⟩

end Go.Proofs.YtcijfaijjpkdoaaDoor
