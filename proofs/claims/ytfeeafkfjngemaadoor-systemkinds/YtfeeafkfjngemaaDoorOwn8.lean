/- Texts of the proof, one behind the other. -/
import Derived.Test.YtfeeafkfjngemaaDoorOwn6
import Derived.Test.YtfeeafkfjngemaaDoorOwn7
import Derived.Test.YtfeeafkfjngemaaDoorOwn5
import Derived.Laws.OwnMore
import Derived.Lib.SliceRun
/- Variant of package match walked. -/
namespace Go.Proofs.YtfeeafkfjngemaaDoor
open Go.RowKit Go.Maps

theorem drawnN_below (w : World) (n : Nat) : Below w.heap.size w (w.drewN n) := drawn_below rfl

theorem canL_len (l : List (List Int)) : (canL l).length = l.length := canL_length l

theorem canL_small {p q : List Int} (h1 : p.length * 8 ≤ 140737488351232) (h2 : q.length * 8 ≤ 140737488351232) : ∀ t ∈ canL [p, q], t.length * 8 ≤ 140737488351232 := by
  refine lens_small (l := [p, q]) (canG_lens _ _) fun t ht => ?_
  simp only [List.mem_cons, List.not_mem_nil, or_false] at ht
  rcases ht with rfl | rfl
  · exact h1
  · exact h2

theorem rs_four {w : World} {v1 v2 v3 v4 : Value} {p q r s : List Int} (i1 : Is w v1 p) (i2 : Is w v2 q) (i3 : Is w v3 r) (i4 : Is w v4 s) (h1 : p.length * 8 ≤ 140737488351232) (h2 : q.length * 8 ≤ 140737488351232) (h3 : r.length * 8 ≤ 140737488351232) (h4 : s.length * 8 ≤ 140737488351232) : Rs (w.alloc (.cells #[v1, v2, v3, v4] 30)) (.slice (some ⟨w.heap.size, 0, none⟩) 4 4) [p, q, r, s] := by
  have hk := Kp.of_below (below_alloc (w := w) (.cells #[v1, v2, v3, v4] 30))
  refine ⟨_, 4, rfl, Nat.le_refl _, by simp [maxLen], fun _ => ⟨w.heap.size, 0, rfl, by simp, fun k x hx => ?_⟩⟩
  match k, hx with
  | 0, hx => simp at hx; subst hx; exact ⟨h1, v1, cell_new rfl, i1.kp hk⟩
  | 1, hx => simp at hx; subst hx; exact ⟨h2, v2, cell_new rfl, i2.kp hk⟩
  | 2, hx => simp at hx; subst hx; exact ⟨h3, v3, cell_new rfl, i3.kp hk⟩
  | 3, hx => simp at hx; subst hx; exact ⟨h4, v4, cell_new rfl, i4.kp hk⟩
  | k + 4, hx => simp at hx

set_option maxRecDepth 100000 in
set_option maxHeartbeats 3200000 in
theorem variant_any (sv v1 v2 v3 v4 : Value) (sig : List Sy) (p q r s : List Int) (w : World) (hs : Sg w sv sig) (h1 : Is w v1 p) (h2 : Is w v2 q) (h3 : Is w v3 r) (h4 : Is w v4 s) (hT : Tabs w) (l1 : p.length * 8 ≤ 140737488351232) (l2 : q.length * 8 ≤ 140737488351232) (l3 : r.length * 8 ≤ 140737488351232) (l4 : s.length * 8 ≤ 140737488351232) :
    Calls Tryd.prog 40 #[sv, .agg #[v1, v2], .agg #[v3, v4]] w fun e w' => e = .returned (.bool (termsB sig [p, q, r, s] && decide (canL [p, q] = canL [r, s]))) ∧ Below w.heap.size w w' := by
  obtain ⟨a1, c1, e1, _⟩ := h1.flatI
  obtain ⟨a2, c2, e2, _⟩ := h2.flatI
  obtain ⟨a3, c3, e3, _⟩ := h3.flatI
  obtain ⟨a4, c4, e4, _⟩ := h4.flatI
  subst e1
  subst e2
  subst e3
  subst e4
  have HS := hid hs
  have HTa := hid hT
  have HI1 := hid h1
  have HI2 := hid h2
  have HI3 := hid h3
  have HI4 := hid h4
  have HLp := hid l1
  have HLq := hid l2
  have HLr := hid l3
  have HLs := hid l4
  clear hs hT h1 h2 h3 h4 l1 l2 l3 l4
  obtain ⟨w0, hw0⟩ : ∃ X, X = (w.alloc (.cells #[.slice a1 p.length c1, .slice a2 q.length c2] 37)).alloc (.cells #[.slice a3 r.length c3, .slice a4 s.length c4] 37) := ⟨_, rfl⟩
  have hB0 : Below w.heap.size w w0 := by rw [hw0]; exact below_step (below_alloc _) (below_alloc _)
  have hy0 : w0.cell? ⟨w.heap.size, 0, none⟩ = some (.slice a1 p.length c1) := by rw [hw0]; exact cell_old (cell_new rfl)
  have hy1 : w0.cell? ⟨w.heap.size, 1, none⟩ = some (.slice a2 q.length c2) := by rw [hw0]; exact cell_old (cell_new rfl)
  have hy2 : w0.cell? ⟨w.heap.size + 1, 0, none⟩ = some (.slice a3 r.length c3) := by rw [hw0]; exact cell_newg (by simp) rfl
  have hy3 : w0.cell? ⟨w.heap.size + 1, 1, none⟩ = some (.slice a4 s.length c4) := by rw [hw0]; exact cell_newg (by simp) rfl
  have HB0 := hid hB0
  clear hB0
  go_enter Tryd.func40, Tryd.ntmps40
  go_upto_region 1 with fail
  rw [← hw0]
  clear hw0
  go_wp2_with fail
  have hk0 := Kp.of_below HB0.out
  refine (areTerms_any sv _ sig [p, q, r, s] _ (HS.out.kp (hk0.trans (Kp.of_below (below_alloc _)))) (rs_four (HI1.out.kp hk0) (HI2.out.kp hk0) (HI3.out.kp hk0) (HI4.out.kp hk0) HLp.out HLq.out HLr.out HLs.out) (HTa.out.below (below_step HB0.out (below_alloc _)))).mono ?_
  rintro e wA ⟨rfl, hbA⟩
  have hbA0 := below_step (below_alloc _) hbA
  have hkA := Kp.of_below hbA0
  have hx0 := hkA.cell _ _ hy0
  have hx1 := hkA.cell _ _ hy1
  have hx2 := hkA.cell _ _ hy2
  have hx3 := hkA.cell _ _ hy3
  have HBw := hid (below_step HB0.out hbA0)
  have HIp := hid (HI1.out.kp (hk0.trans hkA))
  have HIq := hid (HI2.out.kp (hk0.trans hkA))
  have HIr := hid (HI3.out.kp (hk0.trans hkA))
  have HIs := hid (HI4.out.kp (hk0.trans hkA))
  clear hbA hbA0 hkA hy0 hy1 hy2 hy3 hk0
  cases htb : termsB sig [p, q, r, s] with
  | true =>
    have HTb := hid htb
    clear htb
    go_upto_region 3 with fail
    have hS : Kp wA wA.drew := Kp.of_below (drawn_below1 wA)
    refine wp_region_held_drew (S := fun w' => Kp wA w') (by kernel_rfl) hS (fun _ => ?_)
    obtain ⟨W0, hW0⟩ : ∃ X, X = wA.drew := ⟨_, rfl⟩
    have bW0 : Below wA.heap.size wA W0 := by rw [hW0]; exact drawn_below1 wA
    rw [← hW0] at hS ⊢
    clear hW0
    refine wpAnyH_take (i := 0) (v := .pointer (some ⟨w.heap.size, 0, none⟩)) rfl (by kernel_rfl) (by kernel_rfl) (by kernel_rfl) (fun _ _ _ h => h) (Or.inl ⟨by rfl, fun w' h => by go_simp⟩) hS ?_
    simp only [Act.put, List.setIfInBounds_toArray]
    refine wpAnyH_take (i := 1) (v := .slice a1 p.length c1) rfl (by kernel_rfl) (by kernel_rfl) (by kernel_rfl) (fun _ _ _ h => h) (Or.inl ⟨by rfl, fun w' h => by have hh0 := h.cell _ _ hx0; go_simp⟩) hS ?_
    simp only [Act.put]
    refine wpAnyH_take (i := 2) (v := .pointer (some ⟨w.heap.size, 1, none⟩)) rfl (by kernel_rfl) (by kernel_rfl) (by kernel_rfl) (fun _ _ _ h => h) (Or.inl ⟨by rfl, fun w' h => by go_simp⟩) hS ?_
    simp only [Act.put]
    refine wpAnyH_take (i := 3) (v := .slice a2 q.length c2) rfl (by kernel_rfl) (by kernel_rfl) (by kernel_rfl) (fun _ _ _ h => h) (Or.inl ⟨by rfl, fun w' h => by have hh0 := h.cell _ _ hx1; go_simp⟩) hS ?_
    simp only [Act.put]
    refine wpAnyH_take (i := 6) (v := .pointer (some ⟨w.heap.size + 1, 0, none⟩)) rfl (by kernel_rfl) (by kernel_rfl) (by kernel_rfl) (fun _ _ _ h => h) (Or.inl ⟨by rfl, fun w' h => by go_simp⟩) hS ?_
    simp only [Act.put]
    refine wpAnyH_take (i := 7) (v := .slice a3 r.length c3) rfl (by kernel_rfl) (by kernel_rfl) (by kernel_rfl) (fun _ _ _ h => h) (Or.inl ⟨by rfl, fun w' h => by have hh0 := h.cell _ _ hx2; go_simp⟩) hS ?_
    simp only [Act.put]
    refine wpAnyH_take (i := 8) (v := .pointer (some ⟨w.heap.size + 1, 1, none⟩)) rfl (by kernel_rfl) (by kernel_rfl) (by kernel_rfl) (fun _ _ _ h => h) (Or.inl ⟨by rfl, fun w' h => by go_simp⟩) hS ?_
    simp only [Act.put]
    refine wpAnyH_take (i := 9) (v := .slice a4 s.length c4) rfl (by kernel_rfl) (by kernel_rfl) (by kernel_rfl) (fun _ _ _ h => h) (Or.inl ⟨by rfl, fun w' h => by have hh0 := h.cell _ _ hx3; go_simp⟩) hS ?_
    simp only [Act.put]
    skip
    refine wpAnyH_ready (rs := [4, 10]) (by kernel_rfl) (by simp) (AllReadyH.cons rfl (fun K hK => ?_) (AllReadyH.cons rfl (fun K hK => ?_) (AllReadyH.nil)))
    · skip
      go_simp
      refine hK.out _ _ (hS.trans (Kp.of_below (below_alloc _))) (fun hSX1 => ?_)
      clear hK K
      try simp only [Act.put, List.setIfInBounds_toArray]
      have hRa := rs_two (HIp.out.kp hS) (HIq.out.kp hS) HLp.out HLq.out
      have gva : ∃ G, G = (W0).heap.size := ⟨_, rfl⟩
      obtain ⟨Ga, hGa⟩ := gva
      obtain ⟨X1, hX1⟩ : ∃ X, X = (W0).alloc (.cells #[.slice a1 p.length c1, .slice a2 q.length c2] 30) := ⟨_, rfl⟩
      have bbX1 : Below (W0).heap.size (W0) X1 := by rw [hX1]; exact below_alloc _
      rw [← hX1, ← hGa] at hRa
      rw [← hX1] at hSX1
      rw [← hX1, ← hGa]
      have HRa := hid hRa
      clear hX1 hGa hRa
      refine wpAnyH_ready (rs := [5, 10]) (by kernel_rfl) (by simp) (AllReadyH.cons rfl (fun K hK => ?_) (AllReadyH.cons rfl (fun K hK => ?_) (AllReadyH.nil)))
      · skip
        go_simp
        refine (canon_any _ [p, q] X1 (HRa.out) (by simp) (by have := HLp.out; have := HLq.out; simp; omega)).mono ?_
        rintro e X2 ⟨va, vsa, rfl, hoa, hwa, bbX2⟩
        have HCa : Hid (Rs X2 va (canL [p, q])) := rs_of_own (by rw [canL_len]; exact hoa) hwa (canL_small HLp.out HLq.out)
        clear hoa hwa
        refine hK.out _ _ (hSX1.trans (Kp.of_below bbX2)) (fun hSX2 => ?_)
        clear hK K
        try simp only [Act.put, List.setIfInBounds_toArray]
        refine wpAnyH_ready (rs := [10]) (by kernel_rfl) (by simp) (AllReadyH.cons rfl (fun K hK => ?_) (AllReadyH.nil))
        go_simp
        refine hK.out _ _ (hSX2.trans (Kp.of_below (below_alloc _))) (fun hSX3 => ?_)
        clear hK K
        try simp only [Act.put, List.setIfInBounds_toArray]
        have hRb := rs_two (HIr.out.kp hSX2) (HIs.out.kp hSX2) HLr.out HLs.out
        have gvb : ∃ G, G = (X2).heap.size := ⟨_, rfl⟩
        obtain ⟨Gb, hGb⟩ := gvb
        obtain ⟨X3, hX3⟩ : ∃ X, X = (X2).alloc (.cells #[.slice a3 r.length c3, .slice a4 s.length c4] 30) := ⟨_, rfl⟩
        have bbX3 : Below (X2).heap.size (X2) X3 := by rw [hX3]; exact below_alloc _
        rw [← hX3, ← hGb] at hRb
        rw [← hX3] at hSX3
        rw [← hX3, ← hGb]
        have HRb := hid hRb
        clear hX3 hGb hRb
        refine wpAnyH_ready (rs := [11]) (by kernel_rfl) (by simp) (AllReadyH.cons rfl (fun K hK => ?_) (AllReadyH.nil))
        go_simp
        refine (canon_any _ [r, s] X3 (HRb.out) (by simp) (by have := HLr.out; have := HLs.out; simp; omega)).mono ?_
        rintro e X4 ⟨vb, vsb, rfl, hob, hwb, bbX4⟩
        have HCb : Hid (Rs X4 vb (canL [r, s])) := rs_of_own (by rw [canL_len]; exact hob) hwb (canL_small HLr.out HLs.out)
        clear hob hwb
        refine hK.out _ _ (hSX3.trans (Kp.of_below bbX4)) (fun hSX4 => ?_)
        clear hK K
        try simp only [Act.put, List.setIfInBounds_toArray]
        refine wpAnyH_ready (rs := [12]) (by kernel_rfl) (by simp) (AllReadyH.cons rfl (fun K hK => ?_) (AllReadyH.nil))
        go_simp
        refine (equalR_any va vb (canL [p, q]) (canL [r, s]) X4 (HCa.out.kp ((Kp.of_below bbX3).trans (Kp.of_below bbX4))) HCb.out).mono ?_
        rintro e X9 ⟨rfl, m9, hw9⟩
        have bb9 : Below X4.heap.size X4 X9 := by rw [hw9]; exact drawnN_below X4 m9
        clear hw9
        refine hK.out _ _ (hSX4.trans (Kp.of_below bb9)) (fun hS9 => ?_)
        clear hK K
        try simp only [Act.put, List.setIfInBounds_toArray]
        refine wpAnyH_take (i := 13) (v := .bool (decide (canL [p, q] = canL [r, s]))) rfl (by kernel_rfl) (by kernel_rfl) (by kernel_rfl) (fun _ _ _ h => h) (Or.inl ⟨by rfl, fun w' h => by go_simp⟩) hS9 ?_
        simp only [Act.put]
        refine wpAnyH_done (by kernel_rfl) ?_ _
        have HZ := hid (below_step (below_step (below_step (below_step (below_step (bW0) bbX1) bbX2) bbX3) bbX4) bb9)
        obtain ⟨D, hD⟩ : ∃ D, D = decide (canL [p, q] = canL [r, s]) := ⟨_, rfl⟩
        rw [← hD]
        have HD := hid hD
        clear hD
        try simp only [List.getElem_toArray, List.getElem_cons_succ, List.getElem_cons_zero, List.setIfInBounds_toArray, List.set_cons_succ, List.set_cons_zero]
        go_wp2
        go_ret
        refine ⟨?_, below_step HBw.out HZ.out⟩
        show Ending.returned (.bool D) = _
        rw [HD.out, HTb.out, Bool.true_and]
      · skip
        go_simp
        refine hK.out _ _ (hSX1.trans (Kp.of_below (below_alloc _))) (fun hSX5 => ?_)
        clear hK K
        try simp only [Act.put, List.setIfInBounds_toArray]
        have hRb := rs_two (HIr.out.kp hSX1) (HIs.out.kp hSX1) HLr.out HLs.out
        have gvb : ∃ G, G = (X1).heap.size := ⟨_, rfl⟩
        obtain ⟨Gb, hGb⟩ := gvb
        obtain ⟨X5, hX5⟩ : ∃ X, X = (X1).alloc (.cells #[.slice a3 r.length c3, .slice a4 s.length c4] 30) := ⟨_, rfl⟩
        have bbX5 : Below (X1).heap.size (X1) X5 := by rw [hX5]; exact below_alloc _
        rw [← hX5, ← hGb] at hRb
        rw [← hX5] at hSX5
        rw [← hX5, ← hGb]
        have HRb := hid hRb
        clear hX5 hGb hRb
        refine wpAnyH_ready (rs := [5]) (by kernel_rfl) (by simp) (AllReadyH.cons rfl (fun K hK => ?_) (AllReadyH.nil))
        go_simp
        refine (canon_any _ [p, q] X5 (HRa.out.kp (Kp.of_below bbX5)) (by simp) (by have := HLp.out; have := HLq.out; simp; omega)).mono ?_
        rintro e X6 ⟨va, vsa, rfl, hoa, hwa, bbX6⟩
        have HCa : Hid (Rs X6 va (canL [p, q])) := rs_of_own (by rw [canL_len]; exact hoa) hwa (canL_small HLp.out HLq.out)
        clear hoa hwa
        refine hK.out _ _ (hSX5.trans (Kp.of_below bbX6)) (fun hSX6 => ?_)
        clear hK K
        try simp only [Act.put, List.setIfInBounds_toArray]
        refine wpAnyH_ready (rs := [11]) (by kernel_rfl) (by simp) (AllReadyH.cons rfl (fun K hK => ?_) (AllReadyH.nil))
        go_simp
        refine (canon_any _ [r, s] X6 (HRb.out.kp (Kp.of_below bbX6)) (by simp) (by have := HLr.out; have := HLs.out; simp; omega)).mono ?_
        rintro e X7 ⟨vb, vsb, rfl, hob, hwb, bbX7⟩
        have HCb : Hid (Rs X7 vb (canL [r, s])) := rs_of_own (by rw [canL_len]; exact hob) hwb (canL_small HLr.out HLs.out)
        clear hob hwb
        refine hK.out _ _ (hSX6.trans (Kp.of_below bbX7)) (fun hSX7 => ?_)
        clear hK K
        try simp only [Act.put, List.setIfInBounds_toArray]
        refine wpAnyH_ready (rs := [12]) (by kernel_rfl) (by simp) (AllReadyH.cons rfl (fun K hK => ?_) (AllReadyH.nil))
        go_simp
        refine (equalR_any va vb (canL [p, q]) (canL [r, s]) X7 (HCa.out.kp (Kp.of_below bbX7)) HCb.out).mono ?_
        rintro e X9 ⟨rfl, m9, hw9⟩
        have bb9 : Below X7.heap.size X7 X9 := by rw [hw9]; exact drawnN_below X7 m9
        clear hw9
        refine hK.out _ _ (hSX7.trans (Kp.of_below bb9)) (fun hS9 => ?_)
        clear hK K
        try simp only [Act.put, List.setIfInBounds_toArray]
        refine wpAnyH_take (i := 13) (v := .bool (decide (canL [p, q] = canL [r, s]))) rfl (by kernel_rfl) (by kernel_rfl) (by kernel_rfl) (fun _ _ _ h => h) (Or.inl ⟨by rfl, fun w' h => by go_simp⟩) hS9 ?_
        simp only [Act.put]
        refine wpAnyH_done (by kernel_rfl) ?_ _
        have HZ := hid (below_step (below_step (below_step (below_step (below_step (bW0) bbX1) bbX5) bbX6) bbX7) bb9)
        obtain ⟨D, hD⟩ : ∃ D, D = decide (canL [p, q] = canL [r, s]) := ⟨_, rfl⟩
        rw [← hD]
        have HD := hid hD
        clear hD
        try simp only [List.getElem_toArray, List.getElem_cons_succ, List.getElem_cons_zero, List.setIfInBounds_toArray, List.set_cons_succ, List.set_cons_zero]
        go_wp2
        go_ret
        refine ⟨?_, below_step HBw.out HZ.out⟩
        show Ending.returned (.bool D) = _
        rw [HD.out, HTb.out, Bool.true_and]
    · skip
      go_simp
      refine hK.out _ _ (hS.trans (Kp.of_below (below_alloc _))) (fun hSX8 => ?_)
      clear hK K
      try simp only [Act.put, List.setIfInBounds_toArray]
      have hRb := rs_two (HIr.out.kp hS) (HIs.out.kp hS) HLr.out HLs.out
      have gvb : ∃ G, G = (W0).heap.size := ⟨_, rfl⟩
      obtain ⟨Gb, hGb⟩ := gvb
      obtain ⟨X8, hX8⟩ : ∃ X, X = (W0).alloc (.cells #[.slice a3 r.length c3, .slice a4 s.length c4] 30) := ⟨_, rfl⟩
      have bbX8 : Below (W0).heap.size (W0) X8 := by rw [hX8]; exact below_alloc _
      rw [← hX8, ← hGb] at hRb
      rw [← hX8] at hSX8
      rw [← hX8, ← hGb]
      have HRb := hid hRb
      clear hX8 hGb hRb
      refine wpAnyH_ready (rs := [4]) (by kernel_rfl) (by simp) (AllReadyH.cons rfl (fun K hK => ?_) (AllReadyH.nil))
      go_simp
      refine hK.out _ _ (hSX8.trans (Kp.of_below (below_alloc _))) (fun hSX9 => ?_)
      clear hK K
      try simp only [Act.put, List.setIfInBounds_toArray]
      have hRa := rs_two (HIp.out.kp hSX8) (HIq.out.kp hSX8) HLp.out HLq.out
      have gva : ∃ G, G = (X8).heap.size := ⟨_, rfl⟩
      obtain ⟨Ga, hGa⟩ := gva
      obtain ⟨X9, hX9⟩ : ∃ X, X = (X8).alloc (.cells #[.slice a1 p.length c1, .slice a2 q.length c2] 30) := ⟨_, rfl⟩
      have bbX9 : Below (X8).heap.size (X8) X9 := by rw [hX9]; exact below_alloc _
      rw [← hX9, ← hGa] at hRa
      rw [← hX9] at hSX9
      rw [← hX9, ← hGa]
      have HRa := hid hRa
      clear hX9 hGa hRa
      refine wpAnyH_ready (rs := [5]) (by kernel_rfl) (by simp) (AllReadyH.cons rfl (fun K hK => ?_) (AllReadyH.nil))
      go_simp
      refine (canon_any _ [p, q] X9 (HRa.out) (by simp) (by have := HLp.out; have := HLq.out; simp; omega)).mono ?_
      rintro e X10 ⟨va, vsa, rfl, hoa, hwa, bbX10⟩
      have HCa : Hid (Rs X10 va (canL [p, q])) := rs_of_own (by rw [canL_len]; exact hoa) hwa (canL_small HLp.out HLq.out)
      clear hoa hwa
      refine hK.out _ _ (hSX9.trans (Kp.of_below bbX10)) (fun hSX10 => ?_)
      clear hK K
      try simp only [Act.put, List.setIfInBounds_toArray]
      refine wpAnyH_ready (rs := [11]) (by kernel_rfl) (by simp) (AllReadyH.cons rfl (fun K hK => ?_) (AllReadyH.nil))
      go_simp
      refine (canon_any _ [r, s] X10 (HRb.out.kp ((Kp.of_below bbX9).trans (Kp.of_below bbX10))) (by simp) (by have := HLr.out; have := HLs.out; simp; omega)).mono ?_
      rintro e X11 ⟨vb, vsb, rfl, hob, hwb, bbX11⟩
      have HCb : Hid (Rs X11 vb (canL [r, s])) := rs_of_own (by rw [canL_len]; exact hob) hwb (canL_small HLr.out HLs.out)
      clear hob hwb
      refine hK.out _ _ (hSX10.trans (Kp.of_below bbX11)) (fun hSX11 => ?_)
      clear hK K
      try simp only [Act.put, List.setIfInBounds_toArray]
      refine wpAnyH_ready (rs := [12]) (by kernel_rfl) (by simp) (AllReadyH.cons rfl (fun K hK => ?_) (AllReadyH.nil))
      go_simp
      refine (equalR_any va vb (canL [p, q]) (canL [r, s]) X11 (HCa.out.kp (Kp.of_below bbX11)) HCb.out).mono ?_
      rintro e X9 ⟨rfl, m9, hw9⟩
      have bb9 : Below X11.heap.size X11 X9 := by rw [hw9]; exact drawnN_below X11 m9
      clear hw9
      refine hK.out _ _ (hSX11.trans (Kp.of_below bb9)) (fun hS9 => ?_)
      clear hK K
      try simp only [Act.put, List.setIfInBounds_toArray]
      refine wpAnyH_take (i := 13) (v := .bool (decide (canL [p, q] = canL [r, s]))) rfl (by kernel_rfl) (by kernel_rfl) (by kernel_rfl) (fun _ _ _ h => h) (Or.inl ⟨by rfl, fun w' h => by go_simp⟩) hS9 ?_
      simp only [Act.put]
      refine wpAnyH_done (by kernel_rfl) ?_ _
      have HZ := hid (below_step (below_step (below_step (below_step (below_step (bW0) bbX8) bbX9) bbX10) bbX11) bb9)
      obtain ⟨D, hD⟩ : ∃ D, D = decide (canL [p, q] = canL [r, s]) := ⟨_, rfl⟩
      rw [← hD]
      have HD := hid hD
      clear hD
      try simp only [List.getElem_toArray, List.getElem_cons_succ, List.getElem_cons_zero, List.setIfInBounds_toArray, List.set_cons_succ, List.set_cons_zero]
      go_wp2
      go_ret
      refine ⟨?_, below_step HBw.out HZ.out⟩
      show Ending.returned (.bool D) = _
      rw [HD.out, HTb.out, Bool.true_and]
  | false =>
    have HTb := hid htb
    clear htb hx0 hx1 hx2 hx3
    go_wp2
    go_ret
    exact ⟨by have h9 := HTb.out; simp [h9], HBw.out⟩

end Go.Proofs.YtfeeafkfjngemaaDoor

/- shapeOf of package system walked. -/
namespace Go.Proofs.YtfeeafkfjngemaaDoor
open Go.RowKit Go.Maps Go.BigFrame

/-- A rule's shape. -/
def shOf (r : Rl) : Sh := ((r.1[0]?).getD 0, (r.1.length : Int), (r.2.length : Int))

theorem results_one {P : Program} {fn : Func} {w : World} {tmps : Array Value} {t : Tmp} {ty : TypeId} {ad : Addr} {v : Value} (h : fn.results = #[.cell t ty]) (ht : tmps.getD t undef = .pointer (some ad)) (hl : (loadVar ty ad).run P w = .ok v w) : (results fn tmps).run P w = .ok v w := by
  have ht2 : tmps[t]?.getD undef = .pointer (some ad) := by simpa using ht
  simp [results, h, ht2, hl, asAddr]

set_option maxRecDepth 100000 in
set_option maxHeartbeats 800000 in
theorem shapeOf_any (lv rv : Value) (l r : List Int) (w : World) (hl : Is w lv l) (hr : Is w rv r) (hp : 0 < l.length) :
    Calls Tryd.prog 37 #[.agg #[lv, rv]] w fun e w' => e = .returned (shV (shOf (l, r))) ∧ Below w.heap.size w w' := by
  obtain ⟨a2, c2, e2, hc21, hc22, _⟩ := hr.flatI
  subst e2
  obtain ⟨a1, c1, e1, hc11, hc12, _⟩ := hl.flatI
  subst e1
  obtain ⟨gl, ol, c, rfl, hc, hcx, _, _⟩ := hl.at hp
  rw [Nat.add_zero] at hcx
  have HF : Hid (shOf (l, r) = (c, (l.length : Int), (r.length : Int))) := by show _ = _; unfold shOf; rw [hc]; rfl
  have hgw : gl < w.heap.size := World.block_lt_of_cell? _ _ hcx
  clear hl hr hc
  go_enter Tryd.func37, Tryd.ntmps37
  have y0 : ((w.alloc (.cells #[.slice (some ⟨gl, ol, none⟩) l.length c1, .slice a2 r.length c2] 37)).alloc (.cells #[.int .i64 0, .int .i64 0, .int .i64 0] 62)).cell? ⟨gl, ol, none⟩ = some (.int .i64 c) := cell_old (cell_old hcx)
  clear hcx
  go_wp2_with fail
  go_region
  go_wp2
  refine bodyPost_ret (results_one (t := 2) (ty := 62) (ad := ⟨w.heap.size + 1, 0, none⟩) (v := .agg #[.int .i64 c, .int .i64 (l.length : Int), .int .i64 (r.length : Int)]) rfl rfl (by go_simp)) rfl ?_
  exact ⟨by rw [HF.out]; rfl, (below_step (below_alloc _) (below_alloc _)).drew⟩

theorem info_rule : (Tryd.prog.info? 37).map (fun i => (i.zero, i.size, i.bytes)) = some (some (.agg #[.slice none 0 0, .slice none 0 0]), 2, 48) := by kernel_rfl
theorem under_rulesU : Tryd.prog.underlying 23 = some (.slice 37) := by kernel_rfl

/-- A rule's two rows, older than the call. -/
def UE (w0 : World) (p : Value × Value) (r : Rl) : Prop := Is w0 p.1 r.1 ∧ Is w0 p.2 r.2 ∧ r.1.length * 8 ≤ 140737488351232 ∧ r.2.length * 8 ≤ 140737488351232

/-- The slice value v is the call's own and holds the rules rs, whose rows are older. -/
def OU (w0 w : World) (v : Value) (rs : List Rl) : Prop :=
  ∃ us : List (Value × Value), us.length = rs.length ∧ (∀ (i : Nat) (p : Value × Value) (r : Rl), us[i]? = some p → rs[i]? = some r → UE w0 p r) ∧ w.ownsRow w0.heap.size 37 2 v rs.length (prC us)

theorem OU.nil (w0 w : World) : OU w0 w (.slice none 0 0) [] := ⟨[], rfl, fun i c m h => (by simp at h), World.ownsRow_nil _ _ _ _⟩

theorem OU.shape {w0 w : World} {v : Value} {rs : List Rl} (h : OU w0 w v rs) : ∃ ao cap, v = .slice ao rs.length cap ∧ rs.length ≤ cap ∧ cap ≤ maxLen := by
  obtain ⟨us, hl, hc, ho⟩ := h
  rcases ho.2 with ⟨rfl, hn⟩ | ⟨g, cap, cur, rfl, hb, hg, hc, hm, hs, ht⟩
  · exact ⟨none, 0, by rw [hn], by omega, by simp [maxLen]⟩
  · exact ⟨_, cap, rfl, hc, hm⟩

theorem OU.kept {w0 w w' : World} {v : Value} {rs : List Rl} {row : Option Nat} (h : OU w0 w v rs) (hg : w.grownBy w' row) (hr : v.ownBlock = none ∨ v.ownBlock ≠ row) : OU w0 w' v rs := by
  obtain ⟨us, hl, hc, ho⟩ := h
  refine ⟨us, hl, hc, ho.1, ?_⟩
  rcases ho.2 with h | ⟨g, cap, cur, rfl, hb, hgg, r⟩
  · exact .inl h
  · refine .inr ⟨g, cap, cur, rfl, hb, (hg.block g (Array.getElem?_eq_some_iff.1 hgg).1 ?_).trans hgg, r⟩
    rcases hr with hr | hr
    · cases hr
    · exact hr

theorem OU.later {w0 w w' : World} {v : Value} {rs : List Rl} (h : OU w0 w v rs) (hb : Below w.heap.size w w') : OU w0 w' v rs :=
  h.kept (grown_of_below hb none) (by cases hv : v.ownBlock <;> simp)

theorem OU.notMap {w0 w : World} {b : Nat} {v : Value} {rs : List Rl} {es : Array MapEntry} {clock : Nat} (h : OU w0 w v rs) (hb : w.heap[b]? = some (.map es clock)) : v.ownBlock = none ∨ v.ownBlock ≠ some b := by
  obtain ⟨us, hl, hc, ho⟩ := h
  exact own_notMap ho hb

theorem OU.ru {w0 w : World} {v : Value} {rs : List Rl} (h : OU w0 w v rs) (hb : Below w0.heap.size w0 w) : RU w v rs := by
  obtain ⟨us, hl, hc, ho⟩ := h
  have ho2 := ho
  rcases ho2.2 with ⟨rfl, hn⟩ | ⟨g, cap, cur, rfl, hbg, hg, hcap, hm, hs, ht⟩
  · obtain rfl := List.eq_nil_of_length_eq_zero hn
    exact Row.nil (by simp [maxLen])
  · refine ⟨_, cap, rfl, hcap, hm, fun _ => ⟨g, 0, rfl, (Array.getElem?_eq_some_iff.1 hg).1, ?_⟩⟩
    intro k r hk
    have hlt : k < rs.length := (List.getElem?_eq_some_iff.1 hk).1
    have hck : us[k]? = some us[k] := List.getElem?_eq_getElem (by omega)
    obtain ⟨h1, h2⟩ := prC_at us k _ hck
    obtain ⟨o1, o2, o3, o4⟩ := hc k _ r hck hk
    refine ⟨o3, o4, us[k].1, us[k].2, ?_, ?_, o1.kp (Kp.of_below hb), o2.kp (Kp.of_below hb)⟩
    · rw [Nat.zero_add, World.ownsRow.cellAt ho2 (k * 2) (by omega)]
      exact h1
    · rw [Nat.zero_add, World.ownsRow.cellAt ho2 (k * 2 + 1) (by omega)]
      exact h2

theorem is_one {w : World} {v : Value} {xs : List Int} (h : Is w v xs) : v.oneCell' = true := by
  obtain ⟨_, _, rfl, _⟩ := h
  rfl

/-- One rule joined. -/
theorem OU.join (ty : TypeId) {w0 w : World} {v : Value} {rs : List Rl} {p : Value × Value} {r : Rl} {g off c : Nat} (h : OU w0 w v rs) (hb : w0.heap.size ≤ w.heap.size) (hE : UE w0 p r) (h0 : w.cell? ⟨g, off, none⟩ = some p.1) (h1 : w.cell? ⟨g, off + 1, none⟩ = some p.2) (hlen : (rs.length + 1) * 48 ≤ 140737488355328) :
    ∃ v' w', (Builtin.append_ #[23, 23] ty #[v, .slice (some ⟨g, off, none⟩) 1 c]).run Tryd.prog w = .ok v' w' ∧ OU w0 w' v' (rs ++ [r]) ∧ w.grownBy w' v.ownBlock ∧ (v'.ownBlock = v.ownBlock ∨ v'.ownBlock = some w.heap.size) := by
  obtain ⟨i1, hi1, hy0, hy1, hy2⟩ := info_parts info_rule
  obtain ⟨us, hl, hc, ho⟩ := h
  obtain ⟨v', w', hrun, h2, h3, _, h5⟩ := run_append_own_at (P := Tryd.prog) w w0.heap.size 23 ty 37 i1 _ 2 48 under_rulesU hi1 hy0 hy1 hy2 rfl (by decide) v rs.length (prC us) ho ⟨g, off, none⟩ 1 c [p.1, p.2] rfl
    (fun j u hj => by
      rw [Addr.add_lit]
      match j, hj with
      | 0, hj => simp at hj; subst hj; exact h0
      | 1, hj => simp at hj; subst hj; exact h1
      | j + 2, hj => simp at hj)
    (fun u hu => by
      simp only [List.mem_cons, List.not_mem_nil, or_false] at hu
      rcases hu with rfl | rfl
      · exact is_one hE.1
      · exact is_one hE.2.1) (by unfold maxLen; omega) (by omega) hb
  refine ⟨v', w', hrun, ⟨us ++ [p], by rw [List.length_append, List.length_append, hl]; rfl, fun i q x h7 h8 => ?_, ?_⟩, h3, h5⟩
  · by_cases hi : i < us.length
    · rw [List.getElem?_append_left hi] at h7
      rw [List.getElem?_append_left (by omega)] at h8
      exact hc i q x h7 h8
    · rw [List.getElem?_append_right (by omega)] at h7
      rw [List.getElem?_append_right (by omega), ← hl] at h8
      have hi : i - us.length = 0 := by
        have := (List.getElem?_eq_some_iff.1 h7).1
        simp at this
        omega
      rw [hi] at h7 h8
      simp at h7 h8
      subst h7
      subst h8
      exact hE
  · rw [List.length_append, prC_app]
    exact h2

/-- The groups: the map f from shapes to slices of one's own, which lie apart. -/
structure GS (w0 w : World) (b n : Nat) (G : Sh → List Rl) (f : Sh → Option Value) : Prop where
  map : MapF w b n f
  low : w0.heap.size ≤ b
  none : ∀ k, ShOk k → f k = .none → G k = []
  own : ∀ k v, ShOk k → f k = some v → OU w0 w v (G k)
  apart : ∀ k k' v v', ShOk k → ShOk k' → k ≠ k' → f k = some v → f k' = some v' → Dis v v'

def setG (G : Sh → List Rl) (k : Sh) (L : List Rl) : Sh → List Rl := fun x => if x = k then L else G x

theorem OU.blk_lt {w0 w : World} {v : Value} {rs : List Rl} (h : OU w0 w v rs) {j : Nat} (hj : v.ownBlock = some j) : j < w.heap.size ∧ w0.heap.size ≤ j ∧ ∀ es clock, w.heap[j]? ≠ some (.map es clock) := by
  obtain ⟨us, hl, hc, ho⟩ := h
  rcases ho.2 with ⟨rfl, _⟩ | ⟨g, cap, cur, rfl, hb, hg, _⟩
  · cases hj
  · cases hj
    exact ⟨(Array.getElem?_eq_some_iff.1 hg).1, hb, fun es clock he => by rw [hg] at he; cases he⟩

theorem OU.block {w0 w w' : World} {v : Value} {rs : List Rl} (h : OU w0 w v rs) (hb : ∀ g, v.ownBlock = some g → w'.heap[g]? = w.heap[g]?) : OU w0 w' v rs := by
  obtain ⟨us, hl, hc, ho⟩ := h
  refine ⟨us, hl, hc, ho.1, ?_⟩
  rcases ho.2 with h | ⟨g, cap, cur, rfl, hbg, hgg, r⟩
  · exact .inl h
  · exact .inr ⟨g, cap, cur, rfl, hbg, (hb g rfl).trans hgg, r⟩

/-- A group changed: what is appended or cut lies in the group's own block or a new one. -/
theorem GS.put {w0 w wc : World} {b n : Nat} {G : Sh → List Rl} {f : Sh → Option Value} (h : GS w0 w b n G f) {k : Sh} (hk : ShOk k) {v' : Value} {L : List Rl}
    (hkp : ∀ g, g < w.heap.size → g ≠ b → some g ≠ ((f k).getD (.slice .none 0 0)).ownBlock → wc.heap[g]? = w.heap[g]?) (hO : OU w0 wc v' L) (hv : v'.ownBlock = ((f k).getD (.slice .none 0 0)).ownBlock ∨ ∃ j, v'.ownBlock = some j ∧ w.heap.size ≤ j)
    (hm : MapF wc b (n + 1) (setF f k v')) : GS w0 wc b (n + 1) (setG G k L) (setF f k v') := by
  obtain ⟨es, clock, hbm⟩ := h.map.isMap
  have hdis : ∀ k' v'', ShOk k' → k' ≠ k → f k' = some v'' → Dis v' v'' := fun k' v'' hk' hne hf' g h1 h2 => by
    have hlt := (h.own k' v'' hk' hf').blk_lt h2
    rcases hv with hv | ⟨j, hj, hjl⟩
    · rw [hv] at h1
      cases hfk : f k with
      | none => rw [hfk] at h1; cases h1
      | some old =>
        rw [hfk] at h1
        exact h.apart k k' old v'' hk hk' (fun e => hne e.symm) hfk hf' g h1 h2
    · rw [hj] at h1
      cases h1
      omega
  refine ⟨hm, h.low, fun x hx hn => ?_, fun x v hx hf => ?_, fun x y u v hx hy hne hu hv2 => ?_⟩
  · unfold setF at hn
    unfold setG
    by_cases e : x = k
    · rw [if_pos e] at hn; cases hn
    · rw [if_neg e] at hn ⊢
      exact h.none x hx hn
  · unfold setF at hf
    unfold setG
    by_cases e : x = k
    · rw [if_pos e] at hf ⊢
      cases hf
      exact hO
    · rw [if_neg e] at hf ⊢
      have ho := h.own x v hx hf
      refine ho.block fun g hg => ?_
      obtain ⟨h1, _, h3⟩ := ho.blk_lt hg
      refine hkp g h1 (fun e2 => h3 es clock (by rw [e2]; exact hbm)) (fun e2 => ?_)
      cases hfk : f k with
      | none => rw [hfk] at e2; cases e2
      | some old =>
        rw [hfk] at e2
        exact h.apart x k v old hx hk e hf hfk g hg e2.symm
  · unfold setF at hu hv2
    by_cases e1 : x = k
    · rw [if_pos e1] at hu
      cases hu
      by_cases e2 : y = k
      · exact absurd (e1.trans e2.symm) hne
      · rw [if_neg e2] at hv2
        exact hdis y v hy e2 hv2
    · rw [if_neg e1] at hu
      by_cases e2 : y = k
      · rw [if_pos e2] at hv2
        cases hv2
        exact (hdis x u hx e1 hu).symm
      · rw [if_neg e2] at hv2
        exact h.apart x y u v hx hy hne hu hv2

theorem GS.later {w0 w w' : World} {b n : Nat} {G : Sh → List Rl} {f : Sh → Option Value} (h : GS w0 w b n G f) (hb : Below w.heap.size w w') : GS w0 w' b n G f :=
  ⟨h.map.later hb, h.low, h.none, fun k v hk hf => (h.own k v hk hf).later hb, h.apart⟩

theorem GS.of {w0 w : World} {b n : Nat} {G : Sh → List Rl} {f : Sh → Option Value} (h : GS w0 w b n G f) {k : Sh} (hk : ShOk k) : OU w0 w ((f k).getD (.slice .none 0 0)) (G k) := by
  cases hf : f k with
  | none => rw [h.none k hk hf]; exact OU.nil _ _
  | some v => exact h.own k v hk hf

end Go.Proofs.YtfeeafkfjngemaaDoor

/- byShape of package system walked. -/
namespace Go.Proofs.YtfeeafkfjngemaaDoor
open Go.RowKit Go.Maps Go.BigFrame

/-- The rules of a shape, in their order. -/
def groupF (rs : List Rl) (k : Sh) : List Rl := rs.filter fun r => decide (shOf r = k)

theorem group_next {rs : List Rl} {k : Nat} {r : Rl} (h : rs[k]? = some r) : groupF (rs.take (k + 1)) = setG (groupF (rs.take k)) (shOf r) (groupF (rs.take k) (shOf r) ++ [r]) := by
  funext x
  unfold groupF setG
  rw [take_get h, List.filter_append]
  by_cases e : x = shOf r
  · subst e
    rw [if_pos rfl]
    simp
  · rw [if_neg e, List.filter_cons_of_neg (by simpa using fun h9 => e h9.symm)]
    simp

theorem shOk_of {l r : List Int} (h1 : l.length * 8 ≤ 140737488351232) (h2 : r.length * 8 ≤ 140737488351232) (hb : ∀ c, l[0]? = some c → In64 c) : ShOk (shOf (l, r)) := by
  refine ⟨?_, ⟨?_, ?_⟩, ?_, ?_⟩
  · unfold shOf
    simp only
    cases hc : l[0]? with
    | none => exact ⟨by decide, by decide⟩
    | some c => exact hb c hc
  · unfold shOf; simp only; omega
  · unfold shOf; simp only; omega
  · unfold shOf; simp only; omega
  · unfold shOf; simp only; omega

set_option maxRecDepth 100000 in
set_option maxHeartbeats 1600000 in
theorem byShape_any (rv : Value) (rs : List Rl) (w : World) (hr : RU w rv rs) (hp : ∀ r ∈ rs, 0 < r.1.length) (hlen : rs.length ≤ 64) :
    Calls Tryd.prog 36 #[rv] w fun e w' => ∃ b n f, e = .returned (.map (some b)) ∧ GS w w' b n (groupF rs) f ∧ n ≤ rs.length ∧ Below w.heap.size w w' := by
  obtain ⟨ro, rc, rfl, hro, hrc, _⟩ := Row.flat hr
  unfold maxLen at hrc
  have HR := hid hr
  have HP := hid hp
  clear hr hp
  have hmm := @run_makeMap Tryd.prog
  go_enter Tryd.func36, Tryd.ntmps36
  go_wp2
  clear hmm
  go_loopw [10] (fun iv wr => ∃ (k n : Nat) (f : Sh → Option Value), k ≤ rs.length ∧ n ≤ k ∧ iv = .int .i64 k ∧ GS w wr w.heap.size n (groupF (rs.take k)) f ∧ Below w.heap.size w wr) (fun iv _ => rs.length - (intOf iv).toNat)
  case atStart =>
    refine ⟨0, 0, fun _ => none, Nat.zero_le _, Nat.le_refl _, rfl, ⟨MapF.made w, Nat.le_refl _, fun k _ _ => ?_, fun k v _ hv => (by cases hv), fun k k' v v' _ _ _ hv => (by cases hv)⟩, below_alloc _⟩
    simp [groupF]
  case round =>
    obtain ⟨k, n, f, hk, hnk, rfl, hgs, hbl⟩ := hrel
    have HG := hid hgs
    have HB := hid hbl
    clear hgs
    by_cases hlt : k < rs.length
    · obtain ⟨g, off, l, r, a1, c1, a2, c2, rfl, hm, hd0, hd1, hi1, hi2, hl1, hl2⟩ := HR.out.at hlt
      have hc0 := (Kp.of_below hbl).cell _ _ hd0
      have hc1 := (Kp.of_below hbl).cell _ _ hd1
      have hlp := HP.out _ (List.mem_of_getElem? hm)
      have HI1 := hid hi1
      have HI2 := hid hi2
      have HN := hid (group_next hm)
      have hgw : g < wr.heap.size := World.block_lt_of_cell? _ _ hc0
      have HOk : Hid (ShOk (shOf (l, r))) := shOk_of hl1 hl2 fun c hc => by
        obtain ⟨_, _, x, _, hx, _, h1, h2⟩ := hi1.at hlp
        rw [hx] at hc
        cases hc
        exact ⟨h1, h2⟩
      have HUE : Hid (UE w (.slice a1 l.length c1, .slice a2 r.length c2) (l, r)) := ⟨hi1, hi2, hl1, hl2⟩
      obtain ⟨W1, hW1⟩ : ∃ X, X = wr.alloc (.cells #[.slice a1 l.length c1, .slice a2 r.length c2] 37) := ⟨_, rfl⟩
      have B1 : Hid (Below wr.heap.size wr W1) := by rw [hW1]; exact below_alloc _
      have q0 : W1.cell? ⟨wr.heap.size, 0, none⟩ = some (.slice a1 l.length c1) := by rw [hW1]; exact cell_new rfl
      have q1 : W1.cell? ⟨wr.heap.size, 1, none⟩ = some (.slice a2 r.length c2) := by rw [hW1]; exact cell_new rfl
      clear hm hd0 hd1 hi1 hi2 hbl
      go_wp2_with fail
      rw [← hW1]
      clear hW1
      refine (shapeOf_any _ _ l r W1 (HI1.out.kp (Kp.of_below (below_step HB.out B1.out))) (HI2.out.kp (Kp.of_below (below_step HB.out B1.out))) hlp).mono ?_
      rintro e w2 ⟨rfl, hb2⟩
      have B2 := hid (below_step B1.out hb2)
      have p0 := (Kp.of_below hb2).cell _ _ q0
      have p1 := (Kp.of_below hb2).cell _ _ q1
      generalize shOf (l, r) = K at HN HOk ⊢
      obtain ⟨x0, x1, x2⟩ := K
      rw [show shV (x0, x1, x2) = .agg #[.int .i64 x0, .int .i64 x1, .int .i64 x2] from rfl]
      obtain ⟨W3, hW3⟩ : ∃ X, X = w2.alloc (.cells #[.int .i64 x0, .int .i64 x1, .int .i64 x2] 62) := ⟨_, rfl⟩
      have hb3 : Below w2.heap.size w2 W3 := by rw [hW3]; exact below_alloc _
      obtain ⟨W4, hW4⟩ : ∃ X, X = W3.alloc (.cells #[.slice a1 l.length c1, .slice a2 r.length c2] 37) := ⟨_, rfl⟩
      have hb4 : Below W3.heap.size W3 W4 := by rw [hW4]; exact below_alloc _
      have B4 := hid (below_step B2.out (below_step hb3 hb4))
      have hG4 := HG.out.later B4.out
      obtain ⟨st, W5, hme, hg5, hm5, hes⟩ := hG4.map.entry HOk.out (by unfold maxLen; omega)
      have s0 : W5.cell? ⟨W3.heap.size, 0, none⟩ = some (.slice a1 l.length c1) := by
        obtain ⟨es, clock, hb⟩ := hG4.map.isMap
        exact (Kp.of_map hg5 hb).cell _ _ (by rw [hW4]; exact cell_new rfl)
      have s1 : W5.cell? ⟨W3.heap.size, 0 + 1, none⟩ = some (.slice a2 r.length c2) := by
        obtain ⟨es, clock, hb⟩ := hG4.map.isMap
        exact (Kp.of_map hg5 hb).cell _ _ (by rw [hW4]; exact cell_new rfl)
      have hO4 := hG4.of HOk.out
      have hO5 : OU w W5 ((f (x0, x1, x2)).getD (.slice none 0 0)) (groupF (rs.take k) (x0, x1, x2)) := by
        obtain ⟨es, clock, hb⟩ := hG4.map.isMap
        exact hO4.kept hg5 (hO4.notMap hb)
      have hgl : (groupF (rs.take k) (x0, x1, x2)).length ≤ 64 := by
        unfold groupF
        have h9 := List.length_filter_le (fun r => decide (shOf r = (x0, x1, x2))) (rs.take k)
        rw [List.length_take] at h9
        omega
      obtain ⟨v6, W6, hre, hO6, hg6, hv6⟩ := hO5.join 23 (p := (.slice a1 l.length c1, .slice a2 r.length c2)) (r := (l, r)) (c := 1) (Nat.le_trans HB.out.size (Nat.le_trans B4.out.size hg5.size)) HUE.out s0 s1 (by omega)
      have hbk : W6.heap[w.heap.size]? = W5.heap[w.heap.size]? := by
        obtain ⟨es, clock, hb⟩ := hG4.map.isMap
        have hlt9 : w.heap.size < W5.heap.size := Nat.lt_of_lt_of_le (Array.getElem?_eq_some_iff.1 hb).1 hg5.size
        refine hg6.block _ hlt9 ?_
        have h9 := hO4.notMap hb
        intro e9
        rcases h9 with h9 | h9
        · rw [h9] at e9; cases e9
        · exact h9 e9.symm
      obtain ⟨W7, hrs, hM7, hg7⟩ := hes W6 v6 hbk
      have hmap6 : ∃ es clock, W6.heap[w.heap.size]? = some (.map es clock) := by
        obtain ⟨es3, clock3, hb3⟩ := hm5
        exact ⟨es3, clock3, hbk.trans hb3⟩
      have HG7 : Hid (GS w W7 w.heap.size (n + 1) (setG (groupF (rs.take k)) (x0, x1, x2) (groupF (rs.take k) (x0, x1, x2) ++ [(l, r)])) (setF f (x0, x1, x2) v6)) := by
        obtain ⟨es, clock, hb⟩ := hmap6
        refine hG4.put HOk.out (fun g h1 h2 h3 => ?_) (hO6.kept hg7 (hO6.notMap hb)) ?_ hM7
        · rw [hg7.block g (Nat.lt_of_lt_of_le h1 (Nat.le_trans hg5.size hg6.size)) (by simpa using h2), hg6.block g (Nat.lt_of_lt_of_le h1 hg5.size) h3, hg5.block g h1 (by simpa using h2)]
        · rcases hv6 with hv6 | hv6
          · exact .inl hv6
          · exact .inr ⟨_, hv6, hg5.size⟩
      have hBW4 := below_step HB.out B4.out
      have hBW5 : Below w.heap.size w W5 := hBW4.grown hg5 hBW4.size (fun j hj => by cases hj; exact Nat.le_refl _)
      have hBW6 : Below w.heap.size w W6 := hBW5.grown hg6 hBW5.size (fun j hj => (hO5.blk_lt hj).2.1)
      have HB7 : Hid (Below w.heap.size w W7) := hBW6.grown hg7 hBW6.size (fun j hj => by cases hj; exact Nat.le_refl _)
      rw [← HN.out] at HG7
      have t0 := cell_old (o := .cells #[.int .i64 x0, .int .i64 x1, .int .i64 x2] 62) p0
      have t1 := cell_old (o := .cells #[.int .i64 x0, .int .i64 x1, .int .i64 x2] 62) p1
      rw [hW4, hW3] at hme
      rw [hW3, World.size_alloc] at hre
      have hgw2 : wr.heap.size < w2.heap.size := World.block_lt_of_cell? _ _ p0
      have HRe := hid hre
      simp only [goInt] at hrs
      change (Instr.mapEntry _ _ (.agg #[.int .i64 x0, .int .i64 x1, .int .i64 x2])).run _ _ = _ at hme
      clear hm5 hre hb2 hb3 hb4 hG4 hg5 hes s0 s1 hO4 hO5 hO6 hg6 hv6 hbk hM7 hg7 hBW4 hBW5 hBW6 hW4 hW3 q0 q1 p0 p1 B2 B4 B1 hc0 hc1 hmap6 HG HB HI1 HI2 HUE HN
      go_wp2_with (first
        | (at_builtin; refine wpList_append_run rfl _ _ _ rfl _ _ rfl rfl HRe.out ?_))
      go_roundw
      case rel => exact ⟨k + 1, n + 1, _, hlt, by omega, by go_num, HG7.out, HB7.out⟩
      case measure => simp only [intOf]; omega
    · have hke : rs.take k = rs := List.take_of_length_le (by omega)
      have HG2 := HG
      rw [hke] at HG2
      clear hbl hke
      go_wp2
      go_ret
      exact ⟨_, n, f, rfl, HG2.out, by omega, HB.out⟩

end Go.Proofs.YtfeeafkfjngemaaDoor

/- The look for a partner: IndexFunc at rules, with arePaired's closure, walked. -/
namespace Go.Proofs.YtfeeafkfjngemaaDoor
open Go.RowKit Go.Maps Go.BigFrame

/-- Whether two rules are variants, of a signature. -/
def vrP (sig : List Sy) (x y : Rl) : Bool := termsB sig [x.1, x.2, y.1, y.2] && decide (canL [x.1, x.2] = canL [y.1, y.2])

set_option maxRecDepth 100000 in
set_option maxHeartbeats 800000 in
theorem pairClosure_any (sv v1 v2 u1 u2 : Value) (bs br : Nat) (sig : List Sy) (x y : Rl) (w : World) (hs : Sg w sv sig) (h1 : Is w v1 x.1) (h2 : Is w v2 x.2) (g1 : Is w u1 y.1) (g2 : Is w u2 y.2) (hT : Tabs w)
    (hbs : w.cell? ⟨bs, 0, none⟩ = some sv) (hr0 : w.cell? ⟨br, 0, none⟩ = some v1) (hr1 : w.cell? ⟨br, 1, none⟩ = some v2) (l1 : x.1.length * 8 ≤ 140737488351232) (l2 : x.2.length * 8 ≤ 140737488351232) (l3 : y.1.length * 8 ≤ 140737488351232) (l4 : y.2.length * 8 ≤ 140737488351232) :
    Calls Tryd.prog 39 #[.agg #[u1, u2], .pointer (some ⟨bs, 0, none⟩), .pointer (some ⟨br, 0, none⟩)] w fun e w' => e = .returned (.bool (vrP sig x y)) ∧ Below w.heap.size w w' := by
  obtain ⟨so, sc, rfl, _, _, _⟩ := Row.flat hs
  obtain ⟨a1, c1, rfl, _⟩ := h1.flatI
  obtain ⟨a2, c2, rfl, _⟩ := h2.flatI
  obtain ⟨a3, c3, rfl, _⟩ := g1.flatI
  obtain ⟨a4, c4, rfl, _⟩ := g2.flatI
  have HS := hid hs
  have H1 := hid h1
  have H2 := hid h2
  have G1 := hid g1
  have G2 := hid g2
  have HT := hid hT
  have hbw : bs < w.heap.size := World.block_lt_of_cell? _ _ hbs
  have hrw : br < w.heap.size := World.block_lt_of_cell? _ _ hr0
  clear hs h1 h2 g1 g2 hT
  obtain ⟨w0, hw0⟩ : ∃ X, X = w.alloc (.cells #[.slice a3 y.1.length c3, .slice a4 y.2.length c4] 37) := ⟨_, rfl⟩
  have C0 : Hid (Below w.heap.size w w0) := by rw [hw0]; exact below_alloc _
  have k0 := cell_old (o := .cells #[.slice a3 y.1.length c3, .slice a4 y.2.length c4] 37) hbs
  have k1 := cell_old (o := .cells #[.slice a3 y.1.length c3, .slice a4 y.2.length c4] 37) hr0
  have k2 := cell_old (o := .cells #[.slice a3 y.1.length c3, .slice a4 y.2.length c4] 37) hr1
  clear hbs hr0 hr1
  go_enter Tryd.func39, Tryd.ntmps39
  go_wp2_with fail
  rw [← hw0]
  clear hw0 k0 k1 k2
  refine (variant_any _ _ _ _ _ sig x.1 x.2 y.1 y.2 w0 (HS.out.kp (Kp.of_below C0.out)) (H1.out.kp (Kp.of_below C0.out)) (H2.out.kp (Kp.of_below C0.out)) (G1.out.kp (Kp.of_below C0.out)) (G2.out.kp (Kp.of_below C0.out)) (HT.out.below C0.out) l1 l2 l3 l4).mono ?_
  rintro e w1 ⟨rfl, hb1⟩
  have C1 := hid (below_step C0.out hb1)
  clear hb1
  obtain ⟨B, hB⟩ : ∃ B, B = vrP sig x y := ⟨_, rfl⟩
  have HBq := hid hB
  unfold vrP at hB
  rw [← hB]
  clear hB
  go_wp2
  go_ret
  exact ⟨ret1b HBq.out, C1.out⟩

set_option maxRecDepth 100000 in
set_option maxHeartbeats 800000 in
theorem indexPair_any (sv v1 v2 gv : Value) (bs br : Nat) (sig : List Sy) (x : Rl) (L : List Rl) (w : World) (hs : Sg w sv sig) (h1 : Is w v1 x.1) (h2 : Is w v2 x.2) (hL : RU w gv L) (hT : Tabs w)
    (hbs : w.cell? ⟨bs, 0, none⟩ = some sv) (hr0 : w.cell? ⟨br, 0, none⟩ = some v1) (hr1 : w.cell? ⟨br, 1, none⟩ = some v2) (l1 : x.1.length * 8 ≤ 140737488351232) (l2 : x.2.length * 8 ≤ 140737488351232) :
    Calls Tryd.prog 38 #[gv, .func (.func 39) #[] #[.pointer (some ⟨bs, 0, none⟩), .pointer (some ⟨br, 0, none⟩)]] w fun e w' => Below w.heap.size w w' ∧
      ((e = .returned (.int .i64 (-1)) ∧ ∀ y ∈ L, vrP sig x y = false) ∨ ∃ (i : Nat) (y : Rl), e = .returned (.int .i64 i) ∧ L[i]? = some y ∧ vrP sig x y = true ∧ ∀ z ∈ L.take i, vrP sig x z = false) := by
  obtain ⟨ao, cap, rfl, hao, hca, _⟩ := Row.flat hL
  unfold maxLen at hca
  have HS := hid hs
  have H1 := hid h1
  have H2 := hid h2
  have HL := hid hL
  have HT := hid hT
  have Hb := hid hbs
  have Hr0 := hid hr0
  have Hr1 := hid hr1
  clear hs h1 h2 hL hT hbs hr0 hr1
  go_enter Tryd.func38, Tryd.ntmps38
  go_wp2
  go_loopw [8] (fun i wr => ∃ k : Nat, k ≤ L.length ∧ i = .int .i64 k ∧ (∀ z ∈ L.take k, vrP sig x z = false) ∧ Below w.heap.size w wr) (fun i _ => L.length - (intOf i).toNat)
  case atStart => exact ⟨0, Nat.zero_le _, rfl, by simp, Below.refl _ _⟩
  case round =>
    obtain ⟨k, hk, rfl, hno, hbl⟩ := hrel
    have HNo := hid hno
    have HB := hid hbl
    clear hno
    by_cases hlt : k < L.length
    · obtain ⟨g, off, l, r, a1, c1, a2, c2, rfl, hm, hc0, hc1, hi1, hi2, hl1, hl2⟩ := (HL.out.kp (Kp.of_below hbl)).at hlt
      have HM := hid hm
      have HI1 := hid hi1
      have HI2 := hid hi2
      clear hm hi1 hi2 hbl
      go_wp2_with fail
      refine (pairClosure_any sv v1 v2 _ _ bs br sig x (l, r) wr (HS.out.kp (Kp.of_below HB.out)) (H1.out.kp (Kp.of_below HB.out)) (H2.out.kp (Kp.of_below HB.out)) HI1.out HI2.out (HT.out.below HB.out) ((Kp.of_below HB.out).cell _ _ Hb.out) ((Kp.of_below HB.out).cell _ _ Hr0.out) ((Kp.of_below HB.out).cell _ _ Hr1.out) l1 l2 hl1 hl2).mono ?_
      rintro e w2 ⟨rfl, hb2⟩
      have HB2 := hid (below_step HB.out hb2)
      clear hb2 hc0 hc1
      cases hv : vrP sig x (l, r) with
      | true =>
        have HV := hid hv
        clear hv
        go_wp2
        go_ret
        exact ⟨HB2.out, .inr ⟨k, (l, r), rfl, HM.out, HV.out, HNo.out⟩⟩
      | false =>
        have HF : Hid (∀ z ∈ L.take (k + 1), vrP sig x z = false) := fun z hz => by
          rw [take_get HM.out] at hz
          rcases List.mem_append.1 hz with hz | hz
          · exact HNo.out z hz
          · simp at hz
            subst hz
            exact hv
        clear hv
        go_wp2
        go_roundw
        case rel => exact ⟨k + 1, by omega, by go_num, HF.out, HB2.out⟩
        case measure => simp only [intOf]; omega
    · have HF : Hid (∀ z ∈ L, vrP sig x z = false) := fun z hz => HNo.out z (by rw [List.take_of_length_le (by omega)]; exact hz)
      go_wp2
      go_ret
      exact ⟨HB.out, .inl ⟨rfl, HF.out⟩⟩

end Go.Proofs.YtfeeafkfjngemaaDoor

/- slices.Delete at rules walked. -/
namespace Go.Proofs.YtfeeafkfjngemaaDoor
open Go.RowKit Go.Maps Go.BigFrame

theorem run_clear_rule (w : World) (ty : TypeId) (b o c : Nat) (h0 : (w.cell? ⟨b, o, none⟩).isSome = true) (h1 : (w.cell? ⟨b, o + 1, none⟩).isSome = true) (f0 : w.frozen? ⟨b, o, none⟩ = false) (f1 : w.frozen? ⟨b, o + 1, none⟩ = false) :
    (Builtin.clear_ #[23] ty #[.slice (some ⟨b, o, none⟩) 1 c]).run Tryd.prog w = .ok (.tuple #[]) (w.setCells b o [.slice none 0 0, .slice none 0 0]) := by
  have hv : ∀ w, (zeroValue 37).run Tryd.prog w = .ok (.agg #[.slice none 0 0, .slice none 0 0]) w := fun w => by kernel_rfl
  have hzc : (Builtin.zeroCells (Value.agg #[.slice none 0 0, .slice none 0 0]).cells 1).toList = [.slice none 0 0, .slice none 0 0] := by kernel_rfl
  have hst := run_storeCells_cells (P := Tryd.prog) b o [.slice none 0 0, .slice none 0 0] 0 w (fun j hj => by
      match j, hj with
      | 0, _ => exact h0
      | 1, _ => exact h1
      | j + 2, hj => simp at hj; omega) (fun j hj => by
      match j, hj with
      | 0, _ => exact f0
      | 1, _ => exact f1
      | j + 2, hj => simp at hj; omega) (by intro v hv'; simp at hv'; subst hv'; rfl)
  simp only [Nat.add_zero] at hst
  simp [Builtin.clear_, run_underlying under_rulesU, hv, hzc, hst]

theorem prC_drop (us : List (Value × Value)) (j : Nat) : prC (us.drop j) = (prC us).drop (j * 2) := by
  by_cases hj : j ≤ us.length
  · have e : us = us.take j ++ us.drop j := (List.take_append_drop j us).symm
    have hl : (prC (us.take j)).length = j * 2 := by rw [prC_len, List.length_take]; omega
    conv => rhs; rw [e, prC_app, ← hl, List.drop_left]
  · rw [List.drop_of_length_le (by omega), List.drop_of_length_le (by rw [prC_len]; omega)]
    rfl

theorem prC_take (us : List (Value × Value)) (j : Nat) (hj : j ≤ us.length) : prC (us.take j) = (prC us).take (j * 2) := by
  have e : us = us.take j ++ us.drop j := (List.take_append_drop j us).symm
  have hl : (prC (us.take j)).length = j * 2 := by rw [prC_len, List.length_take]; omega
  conv => rhs; rw [e, prC_app, ← hl, List.take_left]

/-- The beginning of a row of rules of one's own. -/
theorem own_cutU {w : World} {base g n cap i : Nat} {us : List (Value × Value)} (h : w.ownsRow base 37 2 (.slice (some ⟨g, 0, none⟩) n cap) n (prC us)) (hn : us.length = n) (hi : i ≤ n) : w.ownsRow base 37 2 (.slice (some ⟨g, 0, none⟩) i cap) i (prC (us.take i)) := by
  refine ⟨by rw [prC_len, List.length_take]; omega, ?_⟩
  rcases h.2 with ⟨h', _⟩ | ⟨g', cap', cur, h', hb, hg, hnc, hcm, hcs, htake⟩
  · simp at h'
  · simp only [Value.slice.injEq, Option.some.injEq, Addr.mk.injEq, and_true, true_and] at h'
    obtain ⟨rfl, rfl⟩ := h'
    refine .inr ⟨g, cap, cur, rfl, hb, hg, by omega, hcm, hcs, ?_⟩
    rw [prC_take us i (by omega), ← htake, List.take_take, Nat.min_eq_left (by omega)]

set_option maxRecDepth 100000 in
set_option maxHeartbeats 1600000 in
theorem delete_any (v : Value) (L : List Rl) (w0 w : World) (i j : Nat) (hO : OU w0 w v L) (hj : j = i + 1) (hi : i < L.length) (hlen : L.length ≤ 64) :
    Calls Tryd.prog 41 #[v, .int .i64 i, .int .i64 j] w fun e w' => ∃ v', e = .returned v' ∧ OU w0 w' v' (L.eraseIdx i) ∧ w.grownBy w' v.ownBlock ∧ v'.ownBlock = v.ownBlock := by
  obtain ⟨i1, hi1, hy0, hy1, hy2⟩ := info_parts info_rule
  obtain ⟨us, hl, hc, ho⟩ := hO
  obtain ⟨g, cap, hv⟩ : ∃ g cap, v = .slice (some ⟨g, 0, none⟩) L.length cap := by
    rcases ho.2 with ⟨_, hn⟩ | ⟨g, cap, cur, hv, _⟩
    · omega
    · exact ⟨g, cap, hv⟩
  subst hv
  have hcap : L.length ≤ cap ∧ cap ≤ 9223372036854775807 := by
    rcases ho.2 with ⟨h', _⟩ | ⟨g', cap', cur, h', _, _, hnc, hcm, _⟩
    · simp at h'
    · simp only [Value.slice.injEq, true_and] at h'
      obtain ⟨_, rfl⟩ := h'
      exact ⟨hnc, by unfold maxLen at hcm; omega⟩
  have hod : w.drew.ownsRow w0.heap.size 37 2 (.slice (some ⟨g, 0, none⟩) L.length cap) L.length (prC us) := ho
  have hcut := own_cutU hod hl (i := i) (by omega)
  obtain ⟨A, hA, hsrc⟩ : ∃ A : Addr, (if cap = j then some (⟨g, 0, none⟩ : Addr) else some ⟨g, j * 2, none⟩) = some A ∧ Hid (∀ t u, (prC (us.drop j))[t]? = some u → w.drew.cell? (A.add t) = some u) := by
    by_cases h : cap = j
    · refine ⟨⟨g, 0, none⟩, by simp [h], fun t u hu => ?_⟩
      rw [List.drop_of_length_le (by omega)] at hu
      simp [prC] at hu
    · refine ⟨⟨g, j * 2, none⟩, by simp [h], fun t u hu => ?_⟩
      rw [prC_drop, List.getElem?_drop] at hu
      rw [Addr.add_lit]
      have hlt := (List.getElem?_eq_some_iff.1 hu).1
      rw [prC_len] at hlt
      rw [World.ownsRow.cellAt hod (j * 2 + t) (by omega)]
      exact hu
  obtain ⟨w1, hr1, ho1, hg1⟩ := run_append_fits (P := Tryd.prog) w.drew w0.heap.size 23 23 37 i1 2 under_rulesU hi1 hy1 g i cap (prC (us.take i)) hcut A (L.length - j) (cap - j) (prC (us.drop j)) (by rw [prC_len, List.length_drop, hl]) hsrc.out
    (fun u hu => by
      obtain ⟨t, ht⟩ := List.getElem?_of_mem hu
      unfold prC at hu
      obtain ⟨p, hp, hq⟩ := List.mem_flatMap.1 hu
      obtain ⟨q, hq2⟩ := List.getElem?_of_mem (List.mem_of_mem_drop hp)
      obtain ⟨x, hx⟩ : ∃ x, L[q]? = some x := ⟨_, List.getElem?_eq_getElem (by have := (List.getElem?_eq_some_iff.1 hq2).1; omega)⟩
      obtain ⟨e1, e2, _⟩ := hc q p x hq2 hx
      simp only [List.mem_cons, List.not_mem_nil, or_false] at hq
      rcases hq with rfl | rfl
      · exact is_one e1
      · exact is_one e2) (by omega)
  obtain ⟨N, hN⟩ : ∃ N, N = i + (L.length - j) := ⟨_, rfl⟩
  have hN1 : N + 1 = L.length := by omega
  rw [← hN] at hr1 ho1
  have hsh : Shp w1 g 37 (cap * 2) := by
    rcases ho1.2 with ⟨h', _⟩ | ⟨g', cap', cur, h', _, hg', _, _, hs', _⟩
    · simp at h'
    · simp only [Value.slice.injEq, Option.some.injEq, Addr.mk.injEq, and_true, true_and] at h'
      obtain ⟨rfl, rfl⟩ := h'
      exact ⟨cur, hg', hs'⟩
  obtain ⟨⟨z0, hz0⟩, f0⟩ := hsh.cell (k := N * 2) (by omega)
  obtain ⟨⟨z1, hz1⟩, f1⟩ := hsh.cell (k := N * 2 + 1) (by omega)
  have hcl : ∀ ty, (Builtin.clear_ #[23] ty #[.slice (some ⟨g, N * 2, none⟩) (L.length - N) (cap - N)]).run Tryd.prog w1 = .ok (.tuple #[]) (w1.setCells g (N * 2) [.slice none 0 0, .slice none 0 0]) := fun ty => by
    rw [show L.length - N = 1 by omega]
    exact run_clear_rule w1 ty g (N * 2) _ (by rw [hz0]; rfl) (by rw [hz1]; rfl) f0 f1
  obtain ⟨w2, hw2⟩ : ∃ X, X = w1.setCells g (N * 2) [.slice none 0 0, .slice none 0 0] := ⟨_, rfl⟩
  have hw2' : w2 = (w1.setCell ⟨g, N * 2, none⟩ (.slice none 0 0)).setCell ⟨g, N * 2 + 1, none⟩ (.slice none 0 0) := by rw [hw2]; rfl
  have hl1 := ho1.1
  have s1 := World.ownsRow.stored ho1 (N * 2) (.slice none 0 0)
  rw [List.set_eq_of_length_le (by omega)] at s1
  have s2 := World.ownsRow.stored s1.1 (N * 2 + 1) (.slice none 0 0)
  rw [List.set_eq_of_length_le (by omega), ← hw2'] at s2
  have HG : Hid (w.grownBy w2 (some g)) := by
    have k1 : w.grownBy w.drew (some g) := grown_of_below (Below.refl _ _).drew _
    exact grown_trans (grown_trans k1 hg1) (grown_trans s1.2 s2.2)
  have HO : Hid (OU w0 w2 (.slice (some ⟨g, 0, none⟩) N cap) (L.eraseIdx i)) := by
    have e1 : L.eraseIdx i = L.take i ++ L.drop j := by rw [hj]; exact List.eraseIdx_eq_take_drop_succ L i
    have e2 : us.eraseIdx i = us.take i ++ us.drop j := by rw [hj]; exact List.eraseIdx_eq_take_drop_succ us i
    have e3 : (L.eraseIdx i).length = N := by rw [e1, List.length_append, List.length_take, List.length_drop]; omega
    refine ⟨us.eraseIdx i, by rw [e3, e2, List.length_append, List.length_take, List.length_drop]; omega, fun t p x hp hx => ?_, ?_⟩
    · rw [List.getElem?_eraseIdx] at hp hx
      by_cases ht : t < i
      · rw [if_pos ht] at hp hx
        exact hc t p x hp hx
      · rw [if_neg ht] at hp hx
        exact hc (t + 1) p x hp hx
    · rw [e3, e2, prC_app]
      exact s2.1
  rw [← hw2] at hcl
  have hjl : j ≤ L.length := by omega
  have hij : i ≤ j := by omega
  have hne : ((i : Int) == (j : Int)) = false := by rw [beq_eq_false_iff_ne]; omega
  have hjc : j ≤ cap := by omega
  have hic : i ≤ cap := by omega
  have hNc : cap ≠ N := by omega
  have hNl : N ≤ L.length := by omega
  have hLc := hcap.1
  have hcm := hcap.2
  have HR1 := hid hr1
  clear hr1 ho1 hg1 hsh hz0 hz1 f0 f1 hw2 hw2' hl1 s1 s2 hsrc hcut hod ho hc hl hcap hj hN hN1 hy0 hy1 hy2 hi1
  go_enter Tryd.func41, Tryd.ntmps41
  go_wp2_with fail
  have hS : True := trivial
  refine wp_region_held_drew (S := fun _ => True) (by kernel_rfl) hS (fun _ => ?_)
  refine wpAnyH_take (i := 0) (v := .slice (some ⟨g, 0, none⟩) L.length cap) rfl (by kernel_rfl) (by kernel_rfl) (by kernel_rfl) (fun _ _ _ h => h) (Or.inl ⟨by rfl, fun w' h => by go_simp⟩) hS ?_
  simp only [Act.put, List.setIfInBounds_toArray]
  refine wpAnyH_take (i := 1) (v := .int .i64 (i : Int)) rfl (by kernel_rfl) (by kernel_rfl) (by kernel_rfl) (fun _ _ _ h => h) (Or.inl ⟨by rfl, fun w' h => by go_simp⟩) hS ?_
  simp only [Act.put]
  refine wpAnyH_take (i := 2) (v := .slice (some ⟨g, 0, none⟩) i cap) rfl (by kernel_rfl) (by kernel_rfl) (by kernel_rfl) (fun _ _ _ h => h) (Or.inl ⟨by rfl, fun w' h => by go_simp⟩) hS ?_
  simp only [Act.put]
  refine wpAnyH_take (i := 3) (v := .slice (some ⟨g, 0, none⟩) L.length cap) rfl (by kernel_rfl) (by kernel_rfl) (by kernel_rfl) (fun _ _ _ h => h) (Or.inl ⟨by rfl, fun w' h => by go_simp⟩) hS ?_
  simp only [Act.put]
  refine wpAnyH_take (i := 4) (v := .int .i64 (j : Int)) rfl (by kernel_rfl) (by kernel_rfl) (by kernel_rfl) (fun _ _ _ h => h) (Or.inl ⟨by rfl, fun w' h => by go_simp⟩) hS ?_
  simp only [Act.put]
  refine wpAnyH_take (i := 5) (v := .slice (some A) (L.length - j) (cap - j)) rfl (by kernel_rfl) (by kernel_rfl) (by kernel_rfl) (fun _ _ _ h => h) (Or.inl ⟨by rfl, fun w' h => by go_simp⟩) hS ?_
  simp only [Act.put]
  refine wpAnyH_ready (rs := [6]) (by kernel_rfl) (by simp) (AllReadyH.cons rfl (fun K hK => ?_) AllReadyH.nil)
  refine step_append_run rfl _ _ 23 rfl _ _ rfl rfl HR1.out ?_
  refine hK.out _ _ trivial (fun hS9 => ?_)
  clear hK K hS9
  simp only [Act.put]
  refine wpAnyH_take (i := 7) (v := .slice (some ⟨g, 0, none⟩) N cap) rfl (by kernel_rfl) (by kernel_rfl) (by kernel_rfl) (fun _ _ _ h => h) (Or.inl ⟨by rfl, fun w' h => by go_simp⟩) hS ?_
  simp only [Act.put]
  refine wpAnyH_done (by kernel_rfl) ?_ _
  clear hS HR1 hA
  go_wp2
  go_ret
  exact ⟨_, rfl, HO.out, HG.out, rfl⟩

end Go.Proofs.YtfeeafkfjngemaaDoor
