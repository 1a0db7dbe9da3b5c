/- MatchVariants. -/
import Derived.Test.YtcijfaijjpkdoaaDoorOwn13
namespace Go.Proofs.YtcijfaijjpkdoaaDoor
open Go.RowKit Go.Maps Go.BigFrame

set_option maxRecDepth 100000 in
set_option maxHeartbeats 1600000 in
theorem matchVariants_any (sv v0 v1 v2 v3 : Value) (sig : List Sy) (p q r s : List Int) (w : World) (hs : Sg w sv sig) (i0 : Is w v0 p) (i1 : Is w v1 q) (i2 : Is w v2 r) (i3 : Is w v3 s) (hT : Tabs w) (l0 : (p.length + q.length) * 8 ≤ 140737488351232) (l2 : (r.length + s.length) * 8 ≤ 140737488351232) :
    Calls Tryd.prog 4 #[sv, .agg #[v0, v1], .agg #[v2, v3]] w fun e w' => e = .returned (.bool true) ∧ Below w.heap.size w w' := by
  obtain ⟨a0, c0, e0, _⟩ := i0.flatI
  subst e0
  obtain ⟨a1, c1, e1, _⟩ := i1.flatI
  subst e1
  obtain ⟨a2, c2, e2, _⟩ := i2.flatI
  subst e2
  obtain ⟨a3, c3, e3, _⟩ := i3.flatI
  subst e3
  have HS := hid hs
  have HT := hid hT
  have HI0 := hid i0
  have HI1 := hid i1
  have HI2 := hid i2
  have HI3 := hid i3
  clear hs hT i0 i1 i2 i3
  obtain ⟨w0, hw0⟩ : ∃ X, X = (w.alloc (.cells #[.slice a0 p.length c0, .slice a1 q.length c1] 34)).alloc (.cells #[.slice a2 r.length c2, .slice a3 s.length c3] 34) := ⟨_, rfl⟩
  have C0 : Hid (Below w.heap.size w w0) := by rw [hw0]; exact below_step (below_alloc _) (below_alloc _)
  have HC : Hid (∀ W, Below w0.heap.size w0 W → (W.cell? ⟨w.heap.size, 0, none⟩ = some (.slice a0 p.length c0) ∧ W.cell? ⟨w.heap.size, 1, none⟩ = some (.slice a1 q.length c1)) ∧ W.cell? ⟨w.heap.size + 1, 0, none⟩ = some (.slice a2 r.length c2) ∧ W.cell? ⟨w.heap.size + 1, 1, none⟩ = some (.slice a3 s.length c3)) := fun W hW => by
    have hk := Kp.of_below hW
    rw [hw0] at hk
    have hk1 := (Kp.of_below (below_alloc (w := w.alloc (.cells #[.slice a0 p.length c0, .slice a1 q.length c1] 34)) (.cells #[.slice a2 r.length c2, .slice a3 s.length c3] 34))).trans hk
    rw [← size_allocV w (.cells #[.slice a0 p.length c0, .slice a1 q.length c1] 34)]
    exact ⟨⟨hk1.cell _ _ (cell_new rfl), hk1.cell _ _ (cell_new rfl)⟩, hk.cell _ _ (cell_new rfl), hk.cell _ _ (cell_new rfl)⟩
  go_enter Tryd.func4, Tryd.ntmps4
  go_wp2_with fail
  rw [← hw0]
  clear hw0
  refine (shown5_any w0 (HT.out.below C0.out)).mono ?_
  rintro e w1 ⟨rfl, hb1⟩
  have D1 := hid hb1
  have C1 := hid (below_step C0.out hb1)
  clear hb1
  obtain ⟨⟨x0, x1⟩, x2, x3⟩ := HC.out w1 D1.out
  go_wp2_with fail
  refine (variant_any _ _ _ _ _ sig p q r s w1 (HS.out.kp (Kp.of_below C1.out)) (HI0.out.kp (Kp.of_below C1.out)) (HI1.out.kp (Kp.of_below C1.out)) (HI2.out.kp (Kp.of_below C1.out)) (HI3.out.kp (Kp.of_below C1.out)) (HT.out.below C1.out) (by omega) (by omega) (by omega) (by omega)).mono ?_
  rintro e w2 ⟨rfl, hb2⟩
  have C2 := hid (below_step C1.out hb2)
  have D2 := hid (below_step D1.out hb2)
  clear hb2 x0 x1 x2 x3
  obtain ⟨R, hR⟩ : ∃ R, R = vrB sig p q r s := ⟨_, rfl⟩
  have HR := hid hR
  unfold vrB at hR
  rw [← hR]
  clear hR
  obtain ⟨⟨x0, x1⟩, x2, x3⟩ := HC.out w2 D2.out
  go_wp2_with fail
  refine (refVariant_any _ _ _ _ _ sig p q r s w2 (HS.out.kp (Kp.of_below C2.out)) (HI0.out.kp (Kp.of_below C2.out)) (HI1.out.kp (Kp.of_below C2.out)) (HI2.out.kp (Kp.of_below C2.out)) (HI3.out.kp (Kp.of_below C2.out)) l0 l2).mono ?_
  rintro e w3 ⟨rfl, hb3⟩
  have C3 := hid (below_step C2.out hb3)
  clear hb3
  rw [← HR.out]
  clear HR
  have hRR : (R == R) = true := by simp
  clear x0 x1 x2 x3
  go_wp2
  go_ret
  exact ⟨rfl, C3.out⟩

end Go.Proofs.YtcijfaijjpkdoaaDoor
