/- Texts of the proof, one behind the other. -/
import Derived.Test.YtcoaabgaolblfaaDoorOwn15
import Derived.Test.YtcoaabgaolblfaaDoorOwn16
import Derived.Test.YtcoaabgaolblfaaDoorOwn12
/- The document's Orient of layer 11. -/
namespace Go.Proofs.YtcoaabgaolblfaaDoor
open Go.RowKit Go.Maps Go.BigFrame

set_option maxRecDepth 100000 in
set_option maxHeartbeats 1600000 in
theorem refOrient11_any (sv pv v1 v2 : Value) (sig : List Sy) (ps : List (Int × Int)) (s t : List Int) (w : World) (hs : Sg w sv sig) (hp : Rc w pv ps) (h1 : Is w v1 s) (h2 : Is w v2 t) (hc : ∀ i, ¬ Up ps i i) (hb1 : s.length * 8 ≤ 140737488351232) (hb2 : t.length * 8 ≤ 140737488351232) :
    Calls Tryd.prog 10 #[sv, pv, .agg #[v1, v2]] w fun e w' => e = .returned (.int .i64 (orI sig ps s t)) ∧ Below w.heap.size w w' := by
  obtain ⟨a1, c1, rfl, _, _, _⟩ := h1.flatI
  obtain ⟨a2, c2, rfl, _, _, _⟩ := h2.flatI
  have HB0 := hid (below_alloc (w := w) (.cells #[.slice a1 s.length c1, .slice a2 t.length c2] 35))
  have HS := hid hs
  have HP := hid hp
  have H1 := hid h1
  have H2 := hid h2
  have HC := hid hc
  have k0 : (w.alloc (.cells #[.slice a1 s.length c1, .slice a2 t.length c2] 35)).cell? ⟨w.heap.size, 0, none⟩ = some (.slice a1 s.length c1) := by rw [cell_of_row _ _ _ _ _ _ (heap_alloc_new _ _)]; rfl
  have k1 : (w.alloc (.cells #[.slice a1 s.length c1, .slice a2 t.length c2] 35)).cell? ⟨w.heap.size, 1, none⟩ = some (.slice a2 t.length c2) := by rw [cell_of_row _ _ _ _ _ _ (heap_alloc_new _ _)]; rfl
  have K0 := hid k0
  have K1 := hid k1
  clear hs hp h1 h2 hc k0 k1
  go_enter Tryd.func10, Tryd.ntmps10
  go_wp2_with fail
  generalize w.alloc (.cells #[.slice a1 s.length c1, .slice a2 t.length c2] 35) = W1 at HB0 K0 K1 ⊢
  refine (refGreater11_any sv pv _ _ sig ps s t W1 (HS.out.kp (Kp.of_below HB0.out)) (HP.out.later HB0.out) (H1.out.kp (Kp.of_below HB0.out)) (H2.out.kp (Kp.of_below HB0.out)) HC.out hb1 hb2).mono ?_
  rintro e w2 ⟨rfl, hb2⟩
  have HB2 := hid (below_step HB0.out hb2)
  have k2 := (Kp.of_below hb2).cell _ _ K0.out
  have k3 := (Kp.of_below hb2).cell _ _ K1.out
  clear hb2
  cases hg : grB sig ps s t with
  | true =>
    have HO : Hid (orI sig ps s t = 1) := by show _ = _; unfold orI; rw [if_pos hg]
    clear hg
    go_wp2
    go_ret
    exact ⟨by rw [HO.out]; rfl, HB2.out⟩
  | false =>
    go_wp2_with fail
    refine (refGreater11_any sv pv _ _ sig ps t s w2 (HS.out.kp (Kp.of_below HB2.out)) (HP.out.later HB2.out) (H2.out.kp (Kp.of_below HB2.out)) (H1.out.kp (Kp.of_below HB2.out)) HC.out hb2 hb1).mono ?_
    rintro e w3 ⟨rfl, hb3⟩
    have HB3 := hid (below_step HB2.out hb3)
    clear hb3
    cases hg2 : grB sig ps t s with
    | true =>
      have HO : Hid (orI sig ps s t = -1) := by show _ = _; unfold orI; rw [hg, if_neg (by decide), if_pos hg2]
      clear hg hg2
      go_wp2
      go_ret
      exact ⟨by rw [HO.out]; rfl, HB3.out⟩
    | false =>
      have HO : Hid (orI sig ps s t = 0) := by show _ = _; unfold orI; rw [hg, if_neg (by decide), if_neg (by rw [hg2]; decide)]
      clear hg hg2
      go_wp2
      go_ret
      exact ⟨by rw [HO.out]; rfl, HB3.out⟩

end Go.Proofs.YtcoaabgaolblfaaDoor

/- A rule is turned as the definition says. -/
namespace Go.Proofs.YtcoaabgaolblfaaDoor
open Go.RowKit Go.Maps Go.BigFrame

set_option maxRecDepth 100000 in
set_option maxHeartbeats 6400000 in
theorem lpoOrients_any (sv pv v0 v1 : Value) (sig : List Sy) (ps : List (Int × Int)) (a b : List Int) (w : World) (hs : Sg w sv sig) (hp : Prs w pv ps) (h0 : Is w v0 a) (h1 : Is w v1 b) (hT : Tabs w) (l0 : a.length * 8 ≤ 140737488351232) (l1 : b.length * 8 ≤ 140737488351232) :
    Calls Tryd.prog 4 #[sv, pv, .agg #[v0, v1]] w fun e w' => e = .returned (.bool true) ∧ Below w.heap.size w w' := by
  obtain ⟨a0, c0, rfl, ha0, hc0, _⟩ := h0.flatI
  obtain ⟨a1, c1, rfl, ha1, hc1, _⟩ := h1.flatI
  have HS := hid hs
  have HP := hid hp
  have H0 := hid h0
  have H1 := hid h1
  have HT := hid hT
  have HB := hid (below_alloc (w := w) (.cells #[.slice a0 a.length c0, .slice a1 b.length c1] 35))
  have k0 : (w.alloc (.cells #[.slice a0 a.length c0, .slice a1 b.length c1] 35)).cell? ⟨w.heap.size, 0, none⟩ = some (.slice a0 a.length c0) := by rw [cell_of_row _ _ _ _ _ _ (heap_alloc_new _ _)]; rfl
  have k1 : (w.alloc (.cells #[.slice a0 a.length c0, .slice a1 b.length c1] 35)).cell? ⟨w.heap.size, 1, none⟩ = some (.slice a1 b.length c1) := by rw [cell_of_row _ _ _ _ _ _ (heap_alloc_new _ _)]; rfl
  clear hs hp h0 h1 hT
  go_enter Tryd.func4, Tryd.ntmps4
  go_wp2_with fail
  generalize w.alloc (.cells #[.slice a0 a.length c0, .slice a1 b.length c1] 35) = W1 at HB k0 k1 ⊢
  refine (shown11_any W1 (HT.out.below HB.out)).mono ?_
  rintro e w1 ⟨rfl, hb⟩
  have HBn := hid (below_step HB.out hb)
  have k0n := (Kp.of_below hb).cell _ _ k0
  have k1n := (Kp.of_below hb).cell _ _ k1
  clear hb HB k0 k1
  have HB := HBn
  have k0 := k0n
  have k1 := k1n
  clear HBn k0n k1n
  go_wp2_with fail
  refine (both11_any sv pv sig ps w1 (HS.out.kp (Kp.of_below HB.out)) (HP.out.kp (Kp.of_below HB.out))).mono ?_
  intro e w2 hO
  obtain ⟨hb, hor⟩ := hO
  have HBn := hid (below_step HB.out hb)
  have k0n := (Kp.of_below hb).cell _ _ k0
  have k1n := (Kp.of_below hb).cell _ _ k1
  clear hb HB k0 k1
  have HB := HBn
  have k0 := k0n
  have k1 := k1n
  clear HBn k0n k1n
  rcases hor with ⟨h0, gp, gq, rfl, hpc, hrc⟩ | ⟨h0, rfl⟩
  · have HPc := hid hpc
    have HRc := hid hrc
    have HC := hid (closeE_zero h0).2.2.2
    clear hpc hrc h0
    go_wp2_with fail
    refine (lpoOrient_any sv _ _ _ sig ps a b w2 (HS.out.kp (Kp.of_below HB.out)) HPc.out (H0.out.kp (Kp.of_below HB.out)) (H1.out.kp (Kp.of_below HB.out)) (HT.out.below HB.out) HC.out).mono ?_
    rintro e w3 ⟨rfl, hb⟩
    have HBn := hid (below_step HB.out hb)
    have k0n := (Kp.of_below hb).cell _ _ k0
    have k1n := (Kp.of_below hb).cell _ _ k1
    have HPcn := hid (HPc.out.later hb)
    have HRcn := hid (HRc.out.later hb)
    clear hb HB k0 k1 HPc HRc
    have HB := HBn
    have k0 := k0n
    have k1 := k1n
    have HPc := HPcn
    have HRc := HRcn
    clear HBn k0n k1n HPcn HRcn
    go_wp2_with fail
    refine (refOrient11_any sv _ _ _ sig ps a b w3 (HS.out.kp (Kp.of_below HB.out)) HRc.out (H0.out.kp (Kp.of_below HB.out)) (H1.out.kp (Kp.of_below HB.out)) HC.out l0 l1).mono ?_
    rintro e w4 ⟨rfl, hb⟩
    have HBn := hid (below_step HB.out hb)
    have k0n := (Kp.of_below hb).cell _ _ k0
    have k1n := (Kp.of_below hb).cell _ _ k1
    have HPcn := hid (HPc.out.later hb)
    have HRcn := hid (HRc.out.later hb)
    clear hb HB k0 k1 HPc HRc
    have HB := HBn
    have k0 := k0n
    have k1 := k1n
    have HPc := HPcn
    have HRc := HRcn
    clear HBn k0n k1n HPcn HRcn
    generalize orI sig ps a b = Y
    go_wp2
    go_ret
    exact ⟨rfl, HB.out⟩
  · clear h0
    go_wp2
    go_ret
    exact ⟨rfl, HB.out⟩

end Go.Proofs.YtcoaabgaolblfaaDoor
