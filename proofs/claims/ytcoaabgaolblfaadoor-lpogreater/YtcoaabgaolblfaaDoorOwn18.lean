/- One term is greater than another one just if the definition says so. -/
import Derived.Test.YtcoaabgaolblfaaDoorOwn16
import Derived.Test.YtcoaabgaolblfaaDoorOwn12
import Derived.Test.YtcoaabgaolblfaaDoorOwn15
namespace Go.Proofs.YtcoaabgaolblfaaDoor
open Go.RowKit Go.Maps Go.BigFrame

set_option maxRecDepth 100000 in
set_option maxHeartbeats 6400000 in
theorem lpoGreaterLaw_any (sv pv v0 v1 : Value) (sig : List Sy) (ps : List (Int × Int)) (a b : List Int) (w : World) (hs : Sg w sv sig) (hp : Prs w pv ps) (h0 : Is w v0 a) (h1 : Is w v1 b) (hT : Tabs w) (l0 : a.length * 8 ≤ 140737488351232) (l1 : b.length * 8 ≤ 140737488351232) :
    Calls Tryd.prog 3 #[sv, pv, .agg #[v0, v1]] w fun e w' => e = .returned (.bool true) ∧ Below w.heap.size w w' := by
  obtain ⟨a0, c0, rfl, ha0, hc0, _⟩ := h0.flatI
  obtain ⟨a1, c1, rfl, ha1, hc1, _⟩ := h1.flatI
  have HS := hid hs
  have HP := hid hp
  have H0 := hid h0
  have H1 := hid h1
  have HT := hid hT
  have HB := hid (below_alloc (w := w) (.cells #[.slice a0 a.length c0, .slice a1 b.length c1] 25))
  have k0 : (w.alloc (.cells #[.slice a0 a.length c0, .slice a1 b.length c1] 25)).cell? ⟨w.heap.size, 0, none⟩ = some (.slice a0 a.length c0) := by rw [cell_of_row _ _ _ _ _ _ (heap_alloc_new _ _)]; rfl
  have k1 : (w.alloc (.cells #[.slice a0 a.length c0, .slice a1 b.length c1] 25)).cell? ⟨w.heap.size, 1, none⟩ = some (.slice a1 b.length c1) := by rw [cell_of_row _ _ _ _ _ _ (heap_alloc_new _ _)]; rfl
  clear hs hp h0 h1 hT
  go_enter Tryd.func3, Tryd.ntmps3
  go_wp2_with fail
  generalize w.alloc (.cells #[.slice a0 a.length c0, .slice a1 b.length c1] 25) = W1 at HB k0 k1 ⊢
  refine (shown11_any W1 (HT.out.below HB.out)).mono ?_
  rintro e w1 ⟨rfl, hb⟩
  have HBn := hid (below_step HB.out hb)
  have k0n := (Kp.of_below hb).cell _ _ k0
  have k1n := (Kp.of_below hb).cell _ _ k1
  clear hb HB k0 k1
  have HB := HBn
  have k0 := k0n
  have k1 := k1n
  clear HBn k0n k1n
  go_wp2_with fail
  refine (both11_any sv pv sig ps w1 (HS.out.kp (Kp.of_below HB.out)) (HP.out.kp (Kp.of_below HB.out))).mono ?_
  intro e w2 hO
  obtain ⟨hb, hor⟩ := hO
  have HBn := hid (below_step HB.out hb)
  have k0n := (Kp.of_below hb).cell _ _ k0
  have k1n := (Kp.of_below hb).cell _ _ k1
  clear hb HB k0 k1
  have HB := HBn
  have k0 := k0n
  have k1 := k1n
  clear HBn k0n k1n
  rcases hor with ⟨h0, gp, gq, rfl, hpc, hrc⟩ | ⟨h0, rfl⟩
  · have HPc := hid hpc
    have HRc := hid hrc
    have HC := hid (closeE_zero h0).2.2.2
    clear hpc hrc h0
    go_wp2_with fail
    refine (lpoGreater_any sv _ _ _ sig ps a b w2 (HS.out.kp (Kp.of_below HB.out)) HPc.out (H0.out.kp (Kp.of_below HB.out)) (H1.out.kp (Kp.of_below HB.out)) (HT.out.below HB.out) HC.out).mono ?_
    rintro e w3 ⟨rfl, hb⟩
    have HBn := hid (below_step HB.out hb)
    have k0n := (Kp.of_below hb).cell _ _ k0
    have k1n := (Kp.of_below hb).cell _ _ k1
    have HPcn := hid (HPc.out.later hb)
    have HRcn := hid (HRc.out.later hb)
    clear hb HB k0 k1 HPc HRc
    have HB := HBn
    have k0 := k0n
    have k1 := k1n
    have HPc := HPcn
    have HRc := HRcn
    clear HBn k0n k1n HPcn HRcn
    go_wp2_with fail
    refine (refGreater11_any sv _ _ _ sig ps a b w3 (HS.out.kp (Kp.of_below HB.out)) HRc.out (H0.out.kp (Kp.of_below HB.out)) (H1.out.kp (Kp.of_below HB.out)) HC.out l0 l1).mono ?_
    rintro e w4 ⟨rfl, hb⟩
    have HBn := hid (below_step HB.out hb)
    have k0n := (Kp.of_below hb).cell _ _ k0
    have k1n := (Kp.of_below hb).cell _ _ k1
    have HPcn := hid (HPc.out.later hb)
    have HRcn := hid (HRc.out.later hb)
    clear hb HB k0 k1 HPc HRc
    have HB := HBn
    have k0 := k0n
    have k1 := k1n
    have HPc := HPcn
    have HRc := HRcn
    clear HBn k0n k1n HPcn HRcn
    go_wp2_with fail
    refine (lpoGreater_any sv _ _ _ sig ps b a w4 (HS.out.kp (Kp.of_below HB.out)) HPc.out (H1.out.kp (Kp.of_below HB.out)) (H0.out.kp (Kp.of_below HB.out)) (HT.out.below HB.out) HC.out).mono ?_
    rintro e w5 ⟨rfl, hb⟩
    have HBn := hid (below_step HB.out hb)
    have k0n := (Kp.of_below hb).cell _ _ k0
    have k1n := (Kp.of_below hb).cell _ _ k1
    have HPcn := hid (HPc.out.later hb)
    have HRcn := hid (HRc.out.later hb)
    clear hb HB k0 k1 HPc HRc
    have HB := HBn
    have k0 := k0n
    have k1 := k1n
    have HPc := HPcn
    have HRc := HRcn
    clear HBn k0n k1n HPcn HRcn
    go_wp2_with fail
    refine (refGreater11_any sv _ _ _ sig ps b a w5 (HS.out.kp (Kp.of_below HB.out)) HRc.out (H1.out.kp (Kp.of_below HB.out)) (H0.out.kp (Kp.of_below HB.out)) HC.out l1 l0).mono ?_
    rintro e w6 ⟨rfl, hb⟩
    have HBn := hid (below_step HB.out hb)
    have k0n := (Kp.of_below hb).cell _ _ k0
    have k1n := (Kp.of_below hb).cell _ _ k1
    have HPcn := hid (HPc.out.later hb)
    have HRcn := hid (HRc.out.later hb)
    clear hb HB k0 k1 HPc HRc
    have HB := HBn
    have k0 := k0n
    have k1 := k1n
    have HPc := HPcn
    have HRc := HRcn
    clear HBn k0n k1n HPcn HRcn
    cases hx : grB sig ps a b with
    | false =>
      generalize grB sig ps b a = Y
      cases Y
      · clear hx
        go_wp2
        go_ret
        exact ⟨rfl, HB.out⟩
      · clear hx
        go_wp2
        go_ret
        exact ⟨rfl, HB.out⟩
    | true =>
      rw [gr_not2 HC.out hx]
      clear hx
      go_wp2
      go_ret
      exact ⟨rfl, HB.out⟩
  · clear h0
    go_wp2
    go_ret
    exact ⟨rfl, HB.out⟩

end Go.Proofs.YtcoaabgaolblfaaDoor
