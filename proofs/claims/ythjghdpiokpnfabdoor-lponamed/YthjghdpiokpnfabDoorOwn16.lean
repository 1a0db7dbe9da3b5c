/- Variables are nothing but names to the path order. -/
import Derived.Test.YthjghdpiokpnfabDoorOwn13
import Derived.Test.YthjghdpiokpnfabDoorOwn14
import Derived.BigRegion
namespace Go.Proofs.YthjghdpiokpnfabDoor
open Go.RowKit Go.Maps Go.BigFrame

theorem named_or {sig : List Sy} {ps : List (Int × Int)} (hc : ∀ i, ¬ Up ps i i) {d : Int} {s t : List Int} (hs : mayB sig s = true) (ht : mayB sig t = true) (o1 : okShift d s = true) (o2 : okShift d t = true) :
    (grB sig ps s t = true ∧ orI sig ps s t = 1 ∧ orI sig ps (movL d t) (movL d s) = -1) ∨ (grB sig ps s t = false ∧ ((orI sig ps s t = -1 ∧ orI sig ps (movL d t) (movL d s) = 1) ∨ (orI sig ps s t = 0 ∧ orI sig ps (movL d t) (movL d s) = 0))) := by
  have e1 := (gr_named (ps := ps) hs ht o1 o2).2.2
  have e2 := (gr_named (ps := ps) ht hs o2 o1).2.2
  unfold orI
  rw [e1, e2]
  cases h1 : grB sig ps s t with
  | true =>
    rw [gr_not2 hc h1]
    exact .inl ⟨rfl, by simp, by simp⟩
  | false =>
    cases h2 : grB sig ps t s with
    | true => exact .inr ⟨rfl, .inl ⟨by simp, by simp⟩⟩
    | false => exact .inr ⟨rfl, .inr ⟨by simp, by simp⟩⟩

set_option maxRecDepth 100000 in
set_option maxHeartbeats 6400000 in
theorem lpoNamed_any (sv pv v0 v1 : Value) (n : Int) (sig : List Sy) (ps : List (Int × Int)) (a b : List Int) (w : World) (hs : Sg w sv sig) (hp : Prs w pv ps) (h0 : Is w v0 a) (h1 : Is w v1 b) (hn1 : -9223372036854775808 ≤ n) (hn2 : n ≤ 9223372036854775807) (hT : Tabs w) (l0 : a.length * 8 ≤ 140737488351232) (l1 : b.length * 8 ≤ 140737488351232) :
    Calls Tryd.prog 3 #[sv, pv, .agg #[v0, v1, .int .i64 n]] w fun e w' => e = .returned (.bool true) ∧ Below w.heap.size w w' := by
  obtain ⟨a0, c0, rfl, ha0, hc0, _⟩ := h0.flatI
  obtain ⟨a1, c1, rfl, ha1, hc1, _⟩ := h1.flatI
  have HS := hid hs
  have HP := hid hp
  have H0 := hid h0
  have H1 := hid h1
  have HT := hid hT
  have HB := hid (below_alloc (w := w) (.cells #[.slice a0 a.length c0, .slice a1 b.length c1, .int .i64 n] 26))
  have k0 : (w.alloc (.cells #[.slice a0 a.length c0, .slice a1 b.length c1, .int .i64 n] 26)).cell? ⟨w.heap.size, 0, none⟩ = some (.slice a0 a.length c0) := by rw [cell_of_row _ _ _ _ _ _ (heap_alloc_new _ _)]; rfl
  have k1 : (w.alloc (.cells #[.slice a0 a.length c0, .slice a1 b.length c1, .int .i64 n] 26)).cell? ⟨w.heap.size, 1, none⟩ = some (.slice a1 b.length c1) := by rw [cell_of_row _ _ _ _ _ _ (heap_alloc_new _ _)]; rfl
  have k2 : (w.alloc (.cells #[.slice a0 a.length c0, .slice a1 b.length c1, .int .i64 n] 26)).cell? ⟨w.heap.size, 2, none⟩ = some (.int .i64 n) := by rw [cell_of_row _ _ _ _ _ _ (heap_alloc_new _ _)]; rfl
  clear hs hp h0 h1 hT
  go_enter Tryd.func3, Tryd.ntmps3
  go_wp2_with fail
  generalize w.alloc (.cells #[.slice a0 a.length c0, .slice a1 b.length c1, .int .i64 n] 26) = W1 at HB k0 k1 k2 ⊢
  refine (shown11_any W1 (HT.out.below HB.out)).mono ?_
  rintro e w1 ⟨rfl, hb⟩
  have HBn := hid (below_step HB.out hb)
  have k0n := (Kp.of_below hb).cell _ _ k0
  have k1n := (Kp.of_below hb).cell _ _ k1
  have k2n := (Kp.of_below hb).cell _ _ k2
  clear hb HB k0 k1 k2
  have HB := HBn
  have k0 := k0n
  have k1 := k1n
  have k2 := k2n
  clear HBn k0n k1n k2n
  go_wp2_with fail
  refine (both11_any sv pv sig ps w1 (HS.out.kp (Kp.of_below HB.out)) (HP.out.kp (Kp.of_below HB.out))).mono ?_
  intro e w2 hO
  obtain ⟨hb, hor⟩ := hO
  have HBn := hid (below_step HB.out hb)
  have k0n := (Kp.of_below hb).cell _ _ k0
  have k1n := (Kp.of_below hb).cell _ _ k1
  have k2n := (Kp.of_below hb).cell _ _ k2
  clear hb HB k0 k1 k2
  have HB := HBn
  have k0 := k0n
  have k1 := k1n
  have k2 := k2n
  clear HBn k0n k1n k2n
  rcases hor with ⟨h0, gp, gq, rfl, hpc, hrc⟩ | ⟨h0, rfl⟩
  · have HPc := hid hpc
    have HRc := hid hrc
    have HC := hid (closeE_zero h0).2.2.2
    clear hpc hrc h0
    clear HRc
    go_wp2_with fail
    refine (term11_any sv _ sig a w2 (HS.out.kp (Kp.of_below HB.out)) (H0.out.kp (Kp.of_below HB.out)) l0).mono ?_
    rintro e w3 ⟨rfl, hb⟩
    have HBn := hid (below_step HB.out hb)
    have k0n := (Kp.of_below hb).cell _ _ k0
    have k1n := (Kp.of_below hb).cell _ _ k1
    have k2n := (Kp.of_below hb).cell _ _ k2
    have HPcn := hid (HPc.out.later hb)
    clear hb HB k0 k1 k2 HPc
    have HB := HBn
    have k0 := k0n
    have k1 := k1n
    have k2 := k2n
    have HPc := HPcn
    clear HBn k0n k1n k2n HPcn
    go_wp2_with fail
    refine (term11_any sv _ sig b w3 (HS.out.kp (Kp.of_below HB.out)) (H1.out.kp (Kp.of_below HB.out)) l1).mono ?_
    rintro e w4 ⟨rfl, hb⟩
    have HBn := hid (below_step HB.out hb)
    have k0n := (Kp.of_below hb).cell _ _ k0
    have k1n := (Kp.of_below hb).cell _ _ k1
    have k2n := (Kp.of_below hb).cell _ _ k2
    have HPcn := hid (HPc.out.later hb)
    clear hb HB k0 k1 k2 HPc
    have HB := HBn
    have k0 := k0n
    have k1 := k1n
    have k2 := k2n
    have HPc := HPcn
    clear HBn k0n k1n k2n HPcn
    go_wp2_with fail
    refine (refShift_any _ a n w4 (H0.out.kp (Kp.of_below HB.out)) l0 hn1 hn2).mono ?_
    rintro e w5 ⟨uv, rfl, ho, hb⟩
    have HU := hid ho.is
    clear ho
    have HBn := hid (below_step HB.out hb)
    have k0n := (Kp.of_below hb).cell _ _ k0
    have k1n := (Kp.of_below hb).cell _ _ k1
    have k2n := (Kp.of_below hb).cell _ _ k2
    have HPcn := hid (HPc.out.later hb)
    clear hb HB k0 k1 k2 HPc
    have HB := HBn
    have k0 := k0n
    have k1 := k1n
    have k2 := k2n
    have HPc := HPcn
    clear HBn k0n k1n k2n HPcn
    go_wp2_with fail
    refine (refShift_any _ b n w5 (H1.out.kp (Kp.of_below HB.out)) l1 hn1 hn2).mono ?_
    rintro e w6 ⟨vv, rfl, ho, hb⟩
    have HV := hid ho.is
    clear ho
    have HBn := hid (below_step HB.out hb)
    have k0n := (Kp.of_below hb).cell _ _ k0
    have k1n := (Kp.of_below hb).cell _ _ k1
    have k2n := (Kp.of_below hb).cell _ _ k2
    have HUn := hid (HU.out.kp (Kp.of_below hb))
    have HPcn := hid (HPc.out.later hb)
    clear hb HB k0 k1 k2 HU HPc
    have HB := HBn
    have k0 := k0n
    have k1 := k1n
    have k2 := k2n
    have HU := HUn
    have HPc := HPcn
    clear HBn k0n k1n k2n HUn HPcn
    obtain ⟨au, cu, rfl, _, _, _⟩ := HU.out.flatI
    obtain ⟨av, cv, rfl, _, _, _⟩ := HV.out.flatI
    cases hma : mayB sig a with
    | false =>
      generalize mayB sig b = Y
      generalize shiftE n a = E
      generalize shiftE n b = F
      go_wp2
      go_ret
      exact ⟨rfl, HB.out⟩
    | true =>
      cases hmb : mayB sig b with
      | false =>
        generalize shiftE n a = E
        generalize shiftE n b = F
        go_wp2
        go_ret
        exact ⟨rfl, HB.out⟩
      | true =>
        by_cases o1 : okShift n a = true
        · rw [(mov_ok o1).1]
          by_cases o2 : okShift n b = true
          · rw [(mov_ok o2).1]
            rw [(mov_ok o1).2] at HU
            rw [(mov_ok o2).2] at HV
            have HNm := hid (gr_named (ps := ps) hma hmb o1 o2).2.2
            have HOr := hid (named_or (ps := ps) HC.out hma hmb o1 o2)
            have lu : (shiftL n a).length = (movL n a).length := by rw [(mov_ok o1).2]
            have lv : (shiftL n b).length = (movL n b).length := by rw [(mov_ok o2).2]
            skip
            clear hma hmb
            go_wp2_with fail
            refine (lpoGreater_any sv _ _ _ sig ps a b w6 (HS.out.kp (Kp.of_below HB.out)) HPc.out (H0.out.kp (Kp.of_below HB.out)) (H1.out.kp (Kp.of_below HB.out)) (HT.out.below HB.out) HC.out).mono ?_
            rintro e w7 ⟨rfl, hb⟩
            have HBn := hid (below_step HB.out hb)
            have k0n := (Kp.of_below hb).cell _ _ k0
            have k1n := (Kp.of_below hb).cell _ _ k1
            have k2n := (Kp.of_below hb).cell _ _ k2
            have HUn := hid (HU.out.kp (Kp.of_below hb))
            have HVn := hid (HV.out.kp (Kp.of_below hb))
            have HPcn := hid (HPc.out.later hb)
            clear hb HB k0 k1 k2 HU HV HPc
            have HB := HBn
            have k0 := k0n
            have k1 := k1n
            have k2 := k2n
            have HU := HUn
            have HV := HVn
            have HPc := HPcn
            clear HBn k0n k1n k2n HUn HVn HPcn
            go_wp2_with fail
            refine (lpoGreater_any sv _ _ _ sig ps (movL n a) (movL n b) w7 (HS.out.kp (Kp.of_below HB.out)) HPc.out HU.out HV.out (HT.out.below HB.out) HC.out).mono ?_
            rintro e w8 ⟨rfl, hb⟩
            have HBn := hid (below_step HB.out hb)
            have k0n := (Kp.of_below hb).cell _ _ k0
            have k1n := (Kp.of_below hb).cell _ _ k1
            have k2n := (Kp.of_below hb).cell _ _ k2
            have HUn := hid (HU.out.kp (Kp.of_below hb))
            have HVn := hid (HV.out.kp (Kp.of_below hb))
            have HPcn := hid (HPc.out.later hb)
            clear hb HB k0 k1 k2 HU HV HPc
            have HB := HBn
            have k0 := k0n
            have k1 := k1n
            have k2 := k2n
            have HU := HUn
            have HV := HVn
            have HPc := HPcn
            clear HBn k0n k1n k2n HUn HVn HPcn
            rw [HNm.out]
            go_wp2_with fail
            refine (lpoOrient_any sv _ _ _ sig ps a b w8 (HS.out.kp (Kp.of_below HB.out)) HPc.out (H0.out.kp (Kp.of_below HB.out)) (H1.out.kp (Kp.of_below HB.out)) (HT.out.below HB.out) HC.out).mono ?_
            rintro e w9 ⟨rfl, hb⟩
            have HBn := hid (below_step HB.out hb)
            have k0n := (Kp.of_below hb).cell _ _ k0
            have k1n := (Kp.of_below hb).cell _ _ k1
            have k2n := (Kp.of_below hb).cell _ _ k2
            have HUn := hid (HU.out.kp (Kp.of_below hb))
            have HVn := hid (HV.out.kp (Kp.of_below hb))
            have HPcn := hid (HPc.out.later hb)
            clear hb HB k0 k1 k2 HU HV HPc
            have HB := HBn
            have k0 := k0n
            have k1 := k1n
            have k2 := k2n
            have HU := HUn
            have HV := HVn
            have HPc := HPcn
            clear HBn k0n k1n k2n HUn HVn HPcn
            go_wp2_with fail
            refine (lpoOrient_any sv _ _ _ sig ps (movL n b) (movL n a) w9 (HS.out.kp (Kp.of_below HB.out)) HPc.out HV.out HU.out (HT.out.below HB.out) HC.out).mono ?_
            rintro e wa ⟨rfl, hb⟩
            have HBn := hid (below_step HB.out hb)
            have k0n := (Kp.of_below hb).cell _ _ k0
            have k1n := (Kp.of_below hb).cell _ _ k1
            have k2n := (Kp.of_below hb).cell _ _ k2
            have HUn := hid (HU.out.kp (Kp.of_below hb))
            have HVn := hid (HV.out.kp (Kp.of_below hb))
            have HPcn := hid (HPc.out.later hb)
            clear hb HB k0 k1 k2 HU HV HPc
            have HB := HBn
            have k0 := k0n
            have k1 := k1n
            have k2 := k2n
            have HU := HUn
            have HV := HVn
            have HPc := HPcn
            clear HBn k0n k1n k2n HUn HVn HPcn
            rcases HOr.out with ⟨z1, z2, z3⟩ | ⟨z1, ⟨z2, z3⟩ | ⟨z2, z3⟩⟩
            · rw [z1, z2, z3]
              clear z1 z2 z3
              go_wp2
              go_ret
              exact ⟨rfl, HB.out⟩
            · rw [z1, z2, z3]
              clear z1 z2 z3
              go_wp2
              go_ret
              exact ⟨rfl, HB.out⟩
            · rw [z1, z2, z3]
              clear z1 z2 z3
              go_wp2
              go_ret
              exact ⟨rfl, HB.out⟩
          · rw [mov_no o2]
            go_wp2
            go_ret
            exact ⟨rfl, HB.out⟩
        · rw [mov_no o1]
          generalize shiftE n b = F
          go_wp2
          go_ret
          exact ⟨rfl, HB.out⟩
  · clear h0
    go_wp2_with fail
    refine (term11_any sv _ sig a w2 (HS.out.kp (Kp.of_below HB.out)) (H0.out.kp (Kp.of_below HB.out)) l0).mono ?_
    rintro e w3 ⟨rfl, hb⟩
    have HBn := hid (below_step HB.out hb)
    have k0n := (Kp.of_below hb).cell _ _ k0
    have k1n := (Kp.of_below hb).cell _ _ k1
    have k2n := (Kp.of_below hb).cell _ _ k2
    clear hb HB k0 k1 k2
    have HB := HBn
    have k0 := k0n
    have k1 := k1n
    have k2 := k2n
    clear HBn k0n k1n k2n
    go_wp2_with fail
    refine (term11_any sv _ sig b w3 (HS.out.kp (Kp.of_below HB.out)) (H1.out.kp (Kp.of_below HB.out)) l1).mono ?_
    rintro e w4 ⟨rfl, hb⟩
    have HBn := hid (below_step HB.out hb)
    have k0n := (Kp.of_below hb).cell _ _ k0
    have k1n := (Kp.of_below hb).cell _ _ k1
    have k2n := (Kp.of_below hb).cell _ _ k2
    clear hb HB k0 k1 k2
    have HB := HBn
    have k0 := k0n
    have k1 := k1n
    have k2 := k2n
    clear HBn k0n k1n k2n
    go_wp2_with fail
    refine (refShift_any _ a n w4 (H0.out.kp (Kp.of_below HB.out)) l0 hn1 hn2).mono ?_
    rintro e w5 ⟨uv, rfl, ho, hb⟩
    have HU := hid ho.is
    clear ho
    have HBn := hid (below_step HB.out hb)
    have k0n := (Kp.of_below hb).cell _ _ k0
    have k1n := (Kp.of_below hb).cell _ _ k1
    have k2n := (Kp.of_below hb).cell _ _ k2
    clear hb HB k0 k1 k2
    have HB := HBn
    have k0 := k0n
    have k1 := k1n
    have k2 := k2n
    clear HBn k0n k1n k2n
    go_wp2_with fail
    refine (refShift_any _ b n w5 (H1.out.kp (Kp.of_below HB.out)) l1 hn1 hn2).mono ?_
    rintro e w6 ⟨vv, rfl, ho, hb⟩
    have HV := hid ho.is
    clear ho
    have HBn := hid (below_step HB.out hb)
    have k0n := (Kp.of_below hb).cell _ _ k0
    have k1n := (Kp.of_below hb).cell _ _ k1
    have k2n := (Kp.of_below hb).cell _ _ k2
    have HUn := hid (HU.out.kp (Kp.of_below hb))
    clear hb HB k0 k1 k2 HU
    have HB := HBn
    have k0 := k0n
    have k1 := k1n
    have k2 := k2n
    have HU := HUn
    clear HBn k0n k1n k2n HUn
    obtain ⟨au, cu, rfl, _, _, _⟩ := HU.out.flatI
    obtain ⟨av, cv, rfl, _, _, _⟩ := HV.out.flatI
    clear HU HV
    generalize mayB sig a = X
    generalize mayB sig b = Y
    generalize shiftE n a = E
    generalize shiftE n b = F
    go_wp2
    go_ret
    exact ⟨rfl, HB.out⟩

end Go.Proofs.YthjghdpiokpnfabDoor
