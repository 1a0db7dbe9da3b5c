/- More pairs in the precedence take nothing away. -/
import Derived.Test.YthjghdpiokpnfaaDoorOwn13
import Derived.Test.YthjghdpiokpnfaaDoorOwn14
import Derived.Test.YthjghdpiokpnfaaDoorOwn11
import Derived.BigRegion
namespace Go.Proofs.YthjghdpiokpnfaaDoor
open Go.RowKit Go.Maps Go.BigFrame

theorem step_append_runL {P : Program} {ops : Array Oper} {o : Oper} {a : Act} {w w' : World} {v' : Value} {K : Act → World → Prop} {Q : Exit → Act → World → Prop} {E : Prop} (hgd : o.guard = none) (s x : Operand) (t : TypeId)
    (ho : o.op = .call { callee := .builtin .append, args := #[s, x], argTypes := #[t, t] }) (v u : Value) (hs : a.eval s = v) (hx : a.eval x = u)
    (hr : (Builtin.append_ #[t, t] o.type #[v, u]).run P w = .ok v' w') (hK : K (a.put o.dst v') w') :
    if Region.wanted o (yielded ops a.tmps) = true then Oper.wp P o a w K Q else E := by
  have hw : Region.wanted o (yielded ops a.tmps) = true := by simp [Region.wanted, hgd]
  rw [if_pos hw]
  unfold Oper.wp execOp
  simp only [ho, resolve, invoke, builtin, Sem.run_bind, Sem.run_pure, Result.andThen_ok, List.map_toArray, List.map_cons, List.map_nil, hs, hx, hr]
  exact hK

set_option maxRecDepth 100000 in
set_option maxHeartbeats 6400000 in
theorem lpoMore_any (sv p0 p1 v0 v1 : Value) (sig : List Sy) (ps qs : List (Int × Int)) (a b : List Int) (w : World) (hs : Sg w sv sig) (hp : Prs w p0 ps) (hq : Prs w p1 qs) (h0 : Is w v0 a) (h1 : Is w v1 b) (hT : Tabs w) (lp : ps.length + qs.length ≤ 1048576) :
    Calls Tryd.prog 7 #[sv, .agg #[p0, p1], .agg #[v0, v1]] w fun e w' => e = .returned (.bool true) ∧ Below w.heap.size w w' := by
  obtain ⟨a0, c0, rfl, ha0, hc0, _⟩ := h0.flatI
  obtain ⟨a1, c1, rfl, ha1, hc1, _⟩ := h1.flatI
  obtain ⟨ap, cp, rfl, hap, hcp, _⟩ := Row.flat hp
  obtain ⟨aq, cq, rfl, haq, hcq, _⟩ := Row.flat hq
  unfold maxLen at hcp hcq
  have HS := hid hs
  have HP := hid hp
  have HQ := hid hq
  have H0 := hid h0
  have H1 := hid h1
  have HT := hid hT
  have HB := hid (below_step (below_alloc (w := w) (.cells #[.slice ap ps.length cp, .slice aq qs.length cq] 51)) (below_alloc (w := w.alloc (.cells #[.slice ap ps.length cp, .slice aq qs.length cq] 51)) (.cells #[.slice a0 a.length c0, .slice a1 b.length c1] 25)))
  have k0 : ((w.alloc (.cells #[.slice ap ps.length cp, .slice aq qs.length cq] 51)).alloc (.cells #[.slice a0 a.length c0, .slice a1 b.length c1] 25)).cell? ⟨w.heap.size, 0, none⟩ = some (.slice ap ps.length cp) := cell_old (by rw [cell_of_row _ _ _ _ _ _ (heap_alloc_new _ _)]; rfl)
  have k1 : ((w.alloc (.cells #[.slice ap ps.length cp, .slice aq qs.length cq] 51)).alloc (.cells #[.slice a0 a.length c0, .slice a1 b.length c1] 25)).cell? ⟨w.heap.size, 1, none⟩ = some (.slice aq qs.length cq) := cell_old (by rw [cell_of_row _ _ _ _ _ _ (heap_alloc_new _ _)]; rfl)
  have k2 : ((w.alloc (.cells #[.slice ap ps.length cp, .slice aq qs.length cq] 51)).alloc (.cells #[.slice a0 a.length c0, .slice a1 b.length c1] 25)).cell? ⟨w.heap.size + 1, 0, none⟩ = some (.slice a0 a.length c0) := cell_newg (by simp) rfl
  have k3 : ((w.alloc (.cells #[.slice ap ps.length cp, .slice aq qs.length cq] 51)).alloc (.cells #[.slice a0 a.length c0, .slice a1 b.length c1] 25)).cell? ⟨w.heap.size + 1, 1, none⟩ = some (.slice a1 b.length c1) := cell_newg (by simp) rfl
  clear hs hp hq h0 h1 hT
  go_enter Tryd.func7, Tryd.ntmps7
  go_wp2_with fail
  generalize (w.alloc (.cells #[.slice ap ps.length cp, .slice aq qs.length cq] 51)).alloc (.cells #[.slice a0 a.length c0, .slice a1 b.length c1] 25) = W1 at HB k0 k1 k2 k3 ⊢
  refine (shown11_any W1 (HT.out.below HB.out)).mono ?_
  rintro e w1 ⟨rfl, hb⟩
  have HBn := hid (below_step HB.out hb)
  have k0n := (Kp.of_below hb).cell _ _ k0
  have k1n := (Kp.of_below hb).cell _ _ k1
  have k2n := (Kp.of_below hb).cell _ _ k2
  have k3n := (Kp.of_below hb).cell _ _ k3
  clear hb HB k0 k1 k2 k3
  have HB := HBn
  have k0 := k0n
  have k1 := k1n
  have k2 := k2n
  have k3 := k3n
  clear HBn k0n k1n k2n k3n
  go_wp2_with fail
  refine (both11_any sv _ sig ps w1 (HS.out.kp (Kp.of_below HB.out)) (HP.out.kp (Kp.of_below HB.out))).mono ?_
  intro e w2 hO
  obtain ⟨hb, hor⟩ := hO
  have HBn := hid (below_step HB.out hb)
  have k0n := (Kp.of_below hb).cell _ _ k0
  have k1n := (Kp.of_below hb).cell _ _ k1
  have k2n := (Kp.of_below hb).cell _ _ k2
  have k3n := (Kp.of_below hb).cell _ _ k3
  clear hb HB k0 k1 k2 k3
  have HB := HBn
  have k0 := k0n
  have k1 := k1n
  have k2 := k2n
  have k3 := k3n
  clear HBn k0n k1n k2n k3n
  rcases hor with ⟨h0, gp, gq, rfl, hpc, hrc⟩ | ⟨h0, rfl⟩
  · have HPc := hid hpc
    have HRc := hid hrc
    have HC := hid (closeE_zero h0).2.2.2
    clear hpc hrc h0
    clear HRc
    go_wp2_with fail
    go_upto_region 3 with fail
    have hS : Kp w2 w2.drew := Kp.of_below (drawn_below1 w2)
    refine wp_region_held_drew (S := fun w' => Kp w2 w') (by kernel_rfl) hS (fun _ => ?_)
    obtain ⟨W0, hW0⟩ : ∃ X, X = w2.drew := ⟨_, rfl⟩
    have bW0 : Below w2.heap.size w2 W0 := by rw [hW0]; exact drawn_below1 w2
    rw [← hW0] at hS ⊢
    clear hW0
    refine wpAnyH_take (i := 1) (v := .pointer (some ⟨w.heap.size, 0, none⟩)) rfl (by kernel_rfl) (by kernel_rfl) (by kernel_rfl) (fun _ _ _ h => h) (Or.inl ⟨by rfl, fun w' h => by go_simp⟩) hS ?_
    simp only [Act.put, List.setIfInBounds_toArray]
    refine wpAnyH_take (i := 2) (v := .slice ap ps.length cp) rfl (by kernel_rfl) (by kernel_rfl) (by kernel_rfl) (fun _ _ _ h => h) (Or.inl ⟨by rfl, fun w' h => by have hh0 := h.cell _ _ k0; go_simp⟩) hS ?_
    simp only [Act.put]
    refine wpAnyH_take (i := 4) (v := .pointer (some ⟨w.heap.size, 1, none⟩)) rfl (by kernel_rfl) (by kernel_rfl) (by kernel_rfl) (fun _ _ _ h => h) (Or.inl ⟨by rfl, fun w' h => by go_simp⟩) hS ?_
    simp only [Act.put]
    refine wpAnyH_take (i := 5) (v := .slice aq qs.length cq) rfl (by kernel_rfl) (by kernel_rfl) (by kernel_rfl) (fun _ _ _ h => h) (Or.inl ⟨by rfl, fun w' h => by have hh0 := h.cell _ _ k1; go_simp⟩) hS ?_
    simp only [Act.put]
    have HE0 := hid (empty_prs (w := W0) (base := W0.heap.size) (Nat.le_refl _))
    have hbW := below_alloc (w := W0) (.cells #[] 54)
    have HBw := hid (below_step HB.out bW0)
    obtain ⟨v2, X2, hr2, hO2, hg2, _⟩ := join_prs 23 HE0.out ((HP.out.kp (Kp.of_below HBw.out)).kp (Kp.of_below hbW)) hbW.size (by simp; omega)
    rw [List.nil_append] at hO2
    have hb2 : Below W0.heap.size W0 X2 := HE0.out.grown hbW hg2
    obtain ⟨v3, X3, hr3, hO3, hg3, _⟩ := join_prs 23 hO2 ((HQ.out.kp (Kp.of_below HBw.out)).kp (Kp.of_below hb2)) hb2.size (by omega)
    have hb3 : Below W0.heap.size W0 X3 := hO2.grown hb2 hg3
    have HR2 := hid hr2
    have HR3 := hid hr3
    have HO3 := hid hO3.prs
    have HK2 := hid (Kp.of_below hb2)
    have HK3 := hid (Kp.of_below hb3)
    have HB3 := hid hb3
    clear hr2 hr3 hO2 hO3 hg2 hg3 hb2 hb3 HE0 hbW
    refine wpAnyH_ready (rs := [0]) (by kernel_rfl) (by simp) (AllReadyH.cons rfl (fun K hK => ?_) (AllReadyH.nil))
    go_simp
    refine hK.out _ _ (hS.trans (Kp.of_below (below_alloc _))) (fun hS1 => ?_)
    clear hK K
    try simp only [Act.put, List.setIfInBounds_toArray]
    refine wpAnyH_ready (rs := [3]) (by kernel_rfl) (by simp) (AllReadyH.cons rfl (fun K hK => ?_) (AllReadyH.nil))
    refine step_append_runL rfl _ _ _ rfl _ _ rfl rfl HR2.out ?_
    refine hK.out _ _ (hS.trans (HK2.out)) (fun hS2 => ?_)
    clear hK K
    try simp only [Act.put, List.setIfInBounds_toArray]
    refine wpAnyH_ready (rs := [6]) (by kernel_rfl) (by simp) (AllReadyH.cons rfl (fun K hK => ?_) (AllReadyH.nil))
    refine step_append_runL rfl _ _ _ rfl _ _ rfl rfl HR3.out ?_
    refine hK.out _ _ (hS.trans (HK3.out)) (fun hS3 => ?_)
    clear hK K
    try simp only [Act.put]
    refine wpAnyH_take (i := 7) (v := v3) rfl (by kernel_rfl) (by kernel_rfl) (by kernel_rfl) (fun _ _ _ h => h) (Or.inl ⟨by rfl, fun w' h => by go_simp⟩) hS3 ?_
    simp only [Act.put]
    refine wpAnyH_done (by kernel_rfl) ?_ _
    try simp only [List.getElem_toArray, List.getElem_cons_succ, List.getElem_cons_zero, List.setIfInBounds_toArray, List.set_cons_succ, List.set_cons_zero]
    have hb := below_step bW0 HB3.out
    have HBn := hid (below_step HB.out hb)
    have k0n := (Kp.of_below hb).cell _ _ k0
    have k1n := (Kp.of_below hb).cell _ _ k1
    have k2n := (Kp.of_below hb).cell _ _ k2
    have k3n := (Kp.of_below hb).cell _ _ k3
    have HPcn := hid (HPc.out.later hb)
    clear hb HB k0 k1 k2 k3 HPc
    have HB := HBn
    have k0 := k0n
    have k1 := k1n
    have k2 := k2n
    have k3 := k3n
    have HPc := HPcn
    clear HBn k0n k1n k2n k3n HPcn
    clear hS hS1 hS2 hS3 bW0 HR2 HR3 HK2 HK3 HB3 HBw
    go_wp2_with fail
    refine (both11_any sv v3 sig (ps ++ qs) X3 (HS.out.kp (Kp.of_below HB.out)) HO3.out).mono ?_
    intro e w5 hO
    obtain ⟨hb, hor⟩ := hO
    have HBn := hid (below_step HB.out hb)
    have k0n := (Kp.of_below hb).cell _ _ k0
    have k1n := (Kp.of_below hb).cell _ _ k1
    have k2n := (Kp.of_below hb).cell _ _ k2
    have k3n := (Kp.of_below hb).cell _ _ k3
    have HPcn := hid (HPc.out.later hb)
    clear hb HB k0 k1 k2 k3 HPc
    have HB := HBn
    have k0 := k0n
    have k1 := k1n
    have k2 := k2n
    have k3 := k3n
    have HPc := HPcn
    clear HBn k0n k1n k2n k3n HPcn
    rcases hor with ⟨h0, gr, gs, rfl, hpc2, _⟩ | ⟨h0, rfl⟩
    · have HPd := hid hpc2
      have HCd := hid (closeE_zero h0).2.2.2
      clear hpc2 h0
      go_wp2_with fail
      refine (lpoGreater_any sv _ _ _ sig ps a b w5 (HS.out.kp (Kp.of_below HB.out)) HPc.out (H0.out.kp (Kp.of_below HB.out)) (H1.out.kp (Kp.of_below HB.out)) (HT.out.below HB.out) HC.out).mono ?_
      rintro e w6 ⟨rfl, hb⟩
      have HBn := hid (below_step HB.out hb)
      have k0n := (Kp.of_below hb).cell _ _ k0
      have k1n := (Kp.of_below hb).cell _ _ k1
      have k2n := (Kp.of_below hb).cell _ _ k2
      have k3n := (Kp.of_below hb).cell _ _ k3
      have HPcn := hid (HPc.out.later hb)
      have HPdn := hid (HPd.out.later hb)
      clear hb HB k0 k1 k2 k3 HPc HPd
      have HB := HBn
      have k0 := k0n
      have k1 := k1n
      have k2 := k2n
      have k3 := k3n
      have HPc := HPcn
      have HPd := HPdn
      clear HBn k0n k1n k2n k3n HPcn HPdn
      go_wp2_with fail
      refine (lpoGreater_any sv _ _ _ sig (ps ++ qs) a b w6 (HS.out.kp (Kp.of_below HB.out)) HPd.out (H0.out.kp (Kp.of_below HB.out)) (H1.out.kp (Kp.of_below HB.out)) (HT.out.below HB.out) HCd.out).mono ?_
      rintro e w7 ⟨rfl, hb⟩
      have HBn := hid (below_step HB.out hb)
      have k0n := (Kp.of_below hb).cell _ _ k0
      have k1n := (Kp.of_below hb).cell _ _ k1
      have k2n := (Kp.of_below hb).cell _ _ k2
      have k3n := (Kp.of_below hb).cell _ _ k3
      have HPcn := hid (HPc.out.later hb)
      have HPdn := hid (HPd.out.later hb)
      clear hb HB k0 k1 k2 k3 HPc HPd
      have HB := HBn
      have k0 := k0n
      have k1 := k1n
      have k2 := k2n
      have k3 := k3n
      have HPc := HPcn
      have HPd := HPdn
      clear HBn k0n k1n k2n k3n HPcn HPdn
      cases hx : grB sig ps a b with
      | false =>
        generalize grB sig (ps ++ qs) a b = Y
        clear hx
        go_wp2
        go_ret
        exact ⟨rfl, HB.out⟩
      | true =>
        rw [gr_more (fun x hx => List.mem_append_left qs hx) hx]
        clear hx
        go_wp2
        go_ret
        exact ⟨rfl, HB.out⟩
    · clear h0
      go_wp2
      go_ret
      exact ⟨rfl, HB.out⟩
  · clear h0
    go_wp2_with fail
    go_upto_region 3 with fail
    have hS : Kp w2 w2.drew := Kp.of_below (drawn_below1 w2)
    refine wp_region_held_drew (S := fun w' => Kp w2 w') (by kernel_rfl) hS (fun _ => ?_)
    obtain ⟨W0, hW0⟩ : ∃ X, X = w2.drew := ⟨_, rfl⟩
    have bW0 : Below w2.heap.size w2 W0 := by rw [hW0]; exact drawn_below1 w2
    rw [← hW0] at hS ⊢
    clear hW0
    refine wpAnyH_take (i := 1) (v := .pointer (some ⟨w.heap.size, 0, none⟩)) rfl (by kernel_rfl) (by kernel_rfl) (by kernel_rfl) (fun _ _ _ h => h) (Or.inl ⟨by rfl, fun w' h => by go_simp⟩) hS ?_
    simp only [Act.put, List.setIfInBounds_toArray]
    refine wpAnyH_take (i := 2) (v := .slice ap ps.length cp) rfl (by kernel_rfl) (by kernel_rfl) (by kernel_rfl) (fun _ _ _ h => h) (Or.inl ⟨by rfl, fun w' h => by have hh0 := h.cell _ _ k0; go_simp⟩) hS ?_
    simp only [Act.put]
    refine wpAnyH_take (i := 4) (v := .pointer (some ⟨w.heap.size, 1, none⟩)) rfl (by kernel_rfl) (by kernel_rfl) (by kernel_rfl) (fun _ _ _ h => h) (Or.inl ⟨by rfl, fun w' h => by go_simp⟩) hS ?_
    simp only [Act.put]
    refine wpAnyH_take (i := 5) (v := .slice aq qs.length cq) rfl (by kernel_rfl) (by kernel_rfl) (by kernel_rfl) (fun _ _ _ h => h) (Or.inl ⟨by rfl, fun w' h => by have hh0 := h.cell _ _ k1; go_simp⟩) hS ?_
    simp only [Act.put]
    have HE0 := hid (empty_prs (w := W0) (base := W0.heap.size) (Nat.le_refl _))
    have hbW := below_alloc (w := W0) (.cells #[] 54)
    have HBw := hid (below_step HB.out bW0)
    obtain ⟨v2, X2, hr2, hO2, hg2, _⟩ := join_prs 23 HE0.out ((HP.out.kp (Kp.of_below HBw.out)).kp (Kp.of_below hbW)) hbW.size (by simp; omega)
    rw [List.nil_append] at hO2
    have hb2 : Below W0.heap.size W0 X2 := HE0.out.grown hbW hg2
    obtain ⟨v3, X3, hr3, hO3, hg3, _⟩ := join_prs 23 hO2 ((HQ.out.kp (Kp.of_below HBw.out)).kp (Kp.of_below hb2)) hb2.size (by omega)
    have hb3 : Below W0.heap.size W0 X3 := hO2.grown hb2 hg3
    have HR2 := hid hr2
    have HR3 := hid hr3
    have HO3 := hid hO3.prs
    have HK2 := hid (Kp.of_below hb2)
    have HK3 := hid (Kp.of_below hb3)
    have HB3 := hid hb3
    clear hr2 hr3 hO2 hO3 hg2 hg3 hb2 hb3 HE0 hbW
    refine wpAnyH_ready (rs := [0]) (by kernel_rfl) (by simp) (AllReadyH.cons rfl (fun K hK => ?_) (AllReadyH.nil))
    go_simp
    refine hK.out _ _ (hS.trans (Kp.of_below (below_alloc _))) (fun hS1 => ?_)
    clear hK K
    try simp only [Act.put, List.setIfInBounds_toArray]
    refine wpAnyH_ready (rs := [3]) (by kernel_rfl) (by simp) (AllReadyH.cons rfl (fun K hK => ?_) (AllReadyH.nil))
    refine step_append_runL rfl _ _ _ rfl _ _ rfl rfl HR2.out ?_
    refine hK.out _ _ (hS.trans (HK2.out)) (fun hS2 => ?_)
    clear hK K
    try simp only [Act.put, List.setIfInBounds_toArray]
    refine wpAnyH_ready (rs := [6]) (by kernel_rfl) (by simp) (AllReadyH.cons rfl (fun K hK => ?_) (AllReadyH.nil))
    refine step_append_runL rfl _ _ _ rfl _ _ rfl rfl HR3.out ?_
    refine hK.out _ _ (hS.trans (HK3.out)) (fun hS3 => ?_)
    clear hK K
    try simp only [Act.put]
    refine wpAnyH_take (i := 7) (v := v3) rfl (by kernel_rfl) (by kernel_rfl) (by kernel_rfl) (fun _ _ _ h => h) (Or.inl ⟨by rfl, fun w' h => by go_simp⟩) hS3 ?_
    simp only [Act.put]
    refine wpAnyH_done (by kernel_rfl) ?_ _
    try simp only [List.getElem_toArray, List.getElem_cons_succ, List.getElem_cons_zero, List.setIfInBounds_toArray, List.set_cons_succ, List.set_cons_zero]
    have hb := below_step bW0 HB3.out
    have HBn := hid (below_step HB.out hb)
    have k0n := (Kp.of_below hb).cell _ _ k0
    have k1n := (Kp.of_below hb).cell _ _ k1
    have k2n := (Kp.of_below hb).cell _ _ k2
    have k3n := (Kp.of_below hb).cell _ _ k3
    clear hb HB k0 k1 k2 k3
    have HB := HBn
    have k0 := k0n
    have k1 := k1n
    have k2 := k2n
    have k3 := k3n
    clear HBn k0n k1n k2n k3n
    clear hS hS1 hS2 hS3 bW0 HR2 HR3 HK2 HK3 HB3 HBw
    go_wp2_with fail
    refine (both11_any sv v3 sig (ps ++ qs) X3 (HS.out.kp (Kp.of_below HB.out)) HO3.out).mono ?_
    intro e w5 hO
    obtain ⟨hb, hor⟩ := hO
    have HBn := hid (below_step HB.out hb)
    have k0n := (Kp.of_below hb).cell _ _ k0
    have k1n := (Kp.of_below hb).cell _ _ k1
    have k2n := (Kp.of_below hb).cell _ _ k2
    have k3n := (Kp.of_below hb).cell _ _ k3
    clear hb HB k0 k1 k2 k3
    have HB := HBn
    have k0 := k0n
    have k1 := k1n
    have k2 := k2n
    have k3 := k3n
    clear HBn k0n k1n k2n k3n
    rcases hor with ⟨h0, gr, gs, rfl, hpc2, _⟩ | ⟨h0, rfl⟩
    · have HPd := hid hpc2
      have HCd := hid (closeE_zero h0).2.2.2
      clear hpc2 h0
      clear HPd HCd
      go_wp2
      go_ret
      exact ⟨rfl, HB.out⟩
    · clear h0
      go_wp2
      go_ret
      exact ⟨rfl, HB.out⟩

end Go.Proofs.YthjghdpiokpnfaaDoor
