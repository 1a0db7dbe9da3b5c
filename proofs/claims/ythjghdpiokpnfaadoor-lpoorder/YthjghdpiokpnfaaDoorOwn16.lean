/- An order, in which each part is lesser. -/
import Derived.Test.YthjghdpiokpnfaaDoorOwn13
import Derived.Test.YthjghdpiokpnfaaDoorOwn14
import Derived.BigRegion
namespace Go.Proofs.YthjghdpiokpnfaaDoor
open Go.RowKit Go.Maps Go.BigFrame

set_option maxRecDepth 100000 in
set_option maxHeartbeats 6400000 in
theorem lpoOrder_any (sv pv v0 v1 v2 : Value) (sig : List Sy) (ps : List (Int × Int)) (a b c : List Int) (w : World) (hs : Sg w sv sig) (hp : Prs w pv ps) (h0 : Is w v0 a) (h1 : Is w v1 b) (h2 : Is w v2 c) (hT : Tabs w) (l0 : a.length * 8 ≤ 140737488351232) (l1 : b.length * 8 ≤ 140737488351232) (l2 : c.length * 8 ≤ 140737488351232) :
    Calls Tryd.prog 5 #[sv, pv, .agg #[v0, v1, v2]] w fun e w' => e = .returned (.bool true) ∧ Below w.heap.size w w' := by
  obtain ⟨a0, c0, rfl, ha0, hc0, _⟩ := h0.flatI
  obtain ⟨a1, c1, rfl, ha1, hc1, _⟩ := h1.flatI
  obtain ⟨a2, c2, rfl, ha2, hc2, _⟩ := h2.flatI
  have HS := hid hs
  have HP := hid hp
  have H0 := hid h0
  have H1 := hid h1
  have H2 := hid h2
  have HT := hid hT
  have HB := hid (below_alloc (w := w) (.cells #[.slice a0 a.length c0, .slice a1 b.length c1, .slice a2 c.length c2] 39))
  have k0 : (w.alloc (.cells #[.slice a0 a.length c0, .slice a1 b.length c1, .slice a2 c.length c2] 39)).cell? ⟨w.heap.size, 0, none⟩ = some (.slice a0 a.length c0) := by rw [cell_of_row _ _ _ _ _ _ (heap_alloc_new _ _)]; rfl
  have k1 : (w.alloc (.cells #[.slice a0 a.length c0, .slice a1 b.length c1, .slice a2 c.length c2] 39)).cell? ⟨w.heap.size, 1, none⟩ = some (.slice a1 b.length c1) := by rw [cell_of_row _ _ _ _ _ _ (heap_alloc_new _ _)]; rfl
  have k2 : (w.alloc (.cells #[.slice a0 a.length c0, .slice a1 b.length c1, .slice a2 c.length c2] 39)).cell? ⟨w.heap.size, 2, none⟩ = some (.slice a2 c.length c2) := by rw [cell_of_row _ _ _ _ _ _ (heap_alloc_new _ _)]; rfl
  clear hs hp h0 h1 h2 hT
  go_enter Tryd.func5, Tryd.ntmps5
  go_wp2_with fail
  generalize w.alloc (.cells #[.slice a0 a.length c0, .slice a1 b.length c1, .slice a2 c.length c2] 39) = W1 at HB k0 k1 k2 ⊢
  refine (shown11_any W1 (HT.out.below HB.out)).mono ?_
  rintro e w1 ⟨rfl, hb⟩
  have HBn := hid (below_step HB.out hb)
  have k0n := (Kp.of_below hb).cell _ _ k0
  have k1n := (Kp.of_below hb).cell _ _ k1
  have k2n := (Kp.of_below hb).cell _ _ k2
  clear hb HB k0 k1 k2
  have HB := HBn
  have k0 := k0n
  have k1 := k1n
  have k2 := k2n
  clear HBn k0n k1n k2n
  go_wp2_with fail
  refine (both11_any sv pv sig ps w1 (HS.out.kp (Kp.of_below HB.out)) (HP.out.kp (Kp.of_below HB.out))).mono ?_
  intro e w2 hO
  obtain ⟨hb, hor⟩ := hO
  have HBn := hid (below_step HB.out hb)
  have k0n := (Kp.of_below hb).cell _ _ k0
  have k1n := (Kp.of_below hb).cell _ _ k1
  have k2n := (Kp.of_below hb).cell _ _ k2
  clear hb HB k0 k1 k2
  have HB := HBn
  have k0 := k0n
  have k1 := k1n
  have k2 := k2n
  clear HBn k0n k1n k2n
  rcases hor with ⟨h0, gp, gq, rfl, hpc, hrc⟩ | ⟨h0, rfl⟩
  · have HPc := hid hpc
    have HRc := hid hrc
    have HC := hid (closeE_zero h0).2.2.2
    clear hpc hrc h0
    clear HRc
    go_wp2_with fail
    refine (term11_any sv _ sig a w2 (HS.out.kp (Kp.of_below HB.out)) (H0.out.kp (Kp.of_below HB.out)) l0).mono ?_
    rintro e w3 ⟨rfl, hb⟩
    have HBn := hid (below_step HB.out hb)
    have k0n := (Kp.of_below hb).cell _ _ k0
    have k1n := (Kp.of_below hb).cell _ _ k1
    have k2n := (Kp.of_below hb).cell _ _ k2
    have HPcn := hid (HPc.out.later hb)
    clear hb HB k0 k1 k2 HPc
    have HB := HBn
    have k0 := k0n
    have k1 := k1n
    have k2 := k2n
    have HPc := HPcn
    clear HBn k0n k1n k2n HPcn
    go_wp2_with fail
    refine (term11_any sv _ sig b w3 (HS.out.kp (Kp.of_below HB.out)) (H1.out.kp (Kp.of_below HB.out)) l1).mono ?_
    rintro e w4 ⟨rfl, hb⟩
    have HBn := hid (below_step HB.out hb)
    have k0n := (Kp.of_below hb).cell _ _ k0
    have k1n := (Kp.of_below hb).cell _ _ k1
    have k2n := (Kp.of_below hb).cell _ _ k2
    have HPcn := hid (HPc.out.later hb)
    clear hb HB k0 k1 k2 HPc
    have HB := HBn
    have k0 := k0n
    have k1 := k1n
    have k2 := k2n
    have HPc := HPcn
    clear HBn k0n k1n k2n HPcn
    go_wp2_with fail
    refine (term11_any sv _ sig c w4 (HS.out.kp (Kp.of_below HB.out)) (H2.out.kp (Kp.of_below HB.out)) l2).mono ?_
    rintro e w5 ⟨rfl, hb⟩
    have HBn := hid (below_step HB.out hb)
    have k0n := (Kp.of_below hb).cell _ _ k0
    have k1n := (Kp.of_below hb).cell _ _ k1
    have k2n := (Kp.of_below hb).cell _ _ k2
    have HPcn := hid (HPc.out.later hb)
    clear hb HB k0 k1 k2 HPc
    have HB := HBn
    have k0 := k0n
    have k1 := k1n
    have k2 := k2n
    have HPc := HPcn
    clear HBn k0n k1n k2n HPcn
    cases hma : mayB sig a with
    | false =>
      go_wp2
      go_ret
      exact ⟨rfl, HB.out⟩
    | true =>
      cases hmb : mayB sig b with
      | false =>
        go_wp2
        go_ret
        exact ⟨rfl, HB.out⟩
      | true =>
        cases hmc : mayB sig c with
        | false =>
          go_wp2
          go_ret
          exact ⟨rfl, HB.out⟩
        | true =>
          have HMa := hid hma
          obtain ⟨la, hsg, hra⟩ := may_parts hma
          have HAo := hid (sigE_ok hsg)
          have HRa := hid hra
          clear hma hmb hmc hsg hra
          go_wp2_with fail
          refine (lpoGreater_any sv _ _ _ sig ps a b w5 (HS.out.kp (Kp.of_below HB.out)) HPc.out (H0.out.kp (Kp.of_below HB.out)) (H1.out.kp (Kp.of_below HB.out)) (HT.out.below HB.out) HC.out).mono ?_
          rintro e w6 ⟨rfl, hb⟩
          have HBn := hid (below_step HB.out hb)
          have k0n := (Kp.of_below hb).cell _ _ k0
          have k1n := (Kp.of_below hb).cell _ _ k1
          have k2n := (Kp.of_below hb).cell _ _ k2
          have HPcn := hid (HPc.out.later hb)
          clear hb HB k0 k1 k2 HPc
          have HB := HBn
          have k0 := k0n
          have k1 := k1n
          have k2 := k2n
          have HPc := HPcn
          clear HBn k0n k1n k2n HPcn
          go_wp2_with fail
          refine (lpoGreater_any sv _ _ _ sig ps b c w6 (HS.out.kp (Kp.of_below HB.out)) HPc.out (H1.out.kp (Kp.of_below HB.out)) (H2.out.kp (Kp.of_below HB.out)) (HT.out.below HB.out) HC.out).mono ?_
          rintro e w7 ⟨rfl, hb⟩
          have HBn := hid (below_step HB.out hb)
          have k0n := (Kp.of_below hb).cell _ _ k0
          have k1n := (Kp.of_below hb).cell _ _ k1
          have k2n := (Kp.of_below hb).cell _ _ k2
          have HPcn := hid (HPc.out.later hb)
          clear hb HB k0 k1 k2 HPc
          have HB := HBn
          have k0 := k0n
          have k1 := k1n
          have k2 := k2n
          have HPc := HPcn
          clear HBn k0n k1n k2n HPcn
          go_wp2_with fail
          refine (lpoGreater_any sv _ _ _ sig ps a c w7 (HS.out.kp (Kp.of_below HB.out)) HPc.out (H0.out.kp (Kp.of_below HB.out)) (H2.out.kp (Kp.of_below HB.out)) (HT.out.below HB.out) HC.out).mono ?_
          rintro e w8 ⟨rfl, hb⟩
          have HBn := hid (below_step HB.out hb)
          have k0n := (Kp.of_below hb).cell _ _ k0
          have k1n := (Kp.of_below hb).cell _ _ k1
          have k2n := (Kp.of_below hb).cell _ _ k2
          have HPcn := hid (HPc.out.later hb)
          clear hb HB k0 k1 k2 HPc
          have HB := HBn
          have k0 := k0n
          have k1 := k1n
          have k2 := k2n
          have HPc := HPcn
          clear HBn k0n k1n k2n HPcn
          go_wp2_with fail
          refine (lpoGreater_any sv _ _ _ sig ps a a w8 (HS.out.kp (Kp.of_below HB.out)) HPc.out (H0.out.kp (Kp.of_below HB.out)) (H0.out.kp (Kp.of_below HB.out)) (HT.out.below HB.out) HC.out).mono ?_
          rintro e w9 ⟨rfl, hb⟩
          have HBn := hid (below_step HB.out hb)
          have k0n := (Kp.of_below hb).cell _ _ k0
          have k1n := (Kp.of_below hb).cell _ _ k1
          have k2n := (Kp.of_below hb).cell _ _ k2
          have HPcn := hid (HPc.out.later hb)
          clear hb HB k0 k1 k2 HPc
          have HB := HBn
          have k0 := k0n
          have k1 := k1n
          have k2 := k2n
          have HPc := HPcn
          clear HBn k0n k1n k2n HPcn
          rw [gr_own HC.out a]
          cases hx : grB sig ps a b with
          | false =>
            generalize grB sig ps b c = Y
            generalize grB sig ps a c = Z
            go_wp2
            go_loopw [18] (fun iv wr => ∃ k : Nat, 1 ≤ k ∧ iv = .int .i64 k ∧ k ≤ 513 ∧ Below w9.heap.size w9 wr) (fun iv _ => 513 - (intOf iv).toNat)
            case atStart => exact ⟨1, Nat.le_refl _, rfl, by omega, Below.refl _ _⟩
            case round =>
              obtain ⟨k, hk1, rfl, hk2, hb⟩ := hrel
              have HBl := hid hb
              have HBn := hid (below_step HB.out hb)
              have k0n := (Kp.of_below hb).cell _ _ k0
              have k1n := (Kp.of_below hb).cell _ _ k1
              have k2n := (Kp.of_below hb).cell _ _ k2
              have HPcn := hid (HPc.out.later hb)
              clear hb HB k0 k1 k2 HPc
              have HB := HBn
              have k0 := k0n
              have k1 := k1n
              have k2 := k2n
              have HPc := HPcn
              clear HBn k0n k1n k2n HPcn
              by_cases hkl : k < a.length ∧ k < 60
              · obtain ⟨hka, hk60⟩ := hkl
                have hd1 : decide ((k : Int) < (a.length : Int)) = true := decide_eq_true (by omega)
                have hd2 : decide ((k : Int) < 60) = true := decide_eq_true (by omega)
                obtain ⟨n1, n2, n3, n4⟩ := at_place HAo.out HRa.out hka
                obtain ⟨n, hn⟩ : ∃ n, n = nodes sig a k := ⟨_, rfl⟩
                rw [← hn] at n1 n2 n3 n4
                clear hn
                obtain ⟨g0, f0, _, rfl, _⟩ := H0.out.at hka
                have HU : Hid (Is wr (.slice (some ⟨g0, f0 + k, none⟩) n (c0 - k)) ((a.drop k).take n)) := Is.mid (H0.out.kp (Kp.of_below HB.out)) hka n2
                have HE := hid (refEnd_any sv (.slice (some ⟨g0, f0, none⟩) a.length c0) sig a k n)
                have HPt := hid (gr_part (ps := ps) (p := a.take k) (u := (a.drop k).take n) (q := (a.drop k).drop n) HMa.out n4 (by rw [List.take_append_drop, List.take_append_drop]) (fun e => by have h9 := congrArg List.length e; rw [List.length_take, List.length_nil] at h9; omega))
                have HN3 := hid n3
                have hcap : ¬ c0 = k := by omega
                have hkn : k + n ≤ c0 := by omega
                have hsub : k + n - k = n := by omega
                have hle : k ≤ k + n := by omega
                have hi1 : (0 : Int) ≤ (k : Int) + (n : Int) := by omega
                have hi2 : (k : Int) + (n : Int) ≤ (c0 : Int) := by omega
                have hi3 : ((k : Int) + (n : Int)).toNat = k + n := by omega
                clear n3 n4
                go_upto_region 19 with fail
                have hS : Kp wr wr.drew := Kp.of_below (drawn_below1 wr)
                refine wp_region_held_drew (S := fun w' => Kp wr w') (by kernel_rfl) hS (fun _ => ?_)
                obtain ⟨W0, hW0⟩ : ∃ X, X = wr.drew := ⟨_, rfl⟩
                have bW0 : Below wr.heap.size wr W0 := by rw [hW0]; exact drawn_below1 wr
                rw [← hW0] at hS ⊢
                clear hW0
                refine wpAnyH_take (i := 0) (v := .pointer (some ⟨w.heap.size, 0, none⟩)) rfl (by kernel_rfl) (by kernel_rfl) (by kernel_rfl) (fun _ _ _ h => h) (Or.inl ⟨by rfl, fun w' h => by go_simp⟩) hS ?_
                simp only [Act.put, List.setIfInBounds_toArray]
                refine wpAnyH_take (i := 1) (v := .slice (some ⟨g0, f0, none⟩) a.length c0) rfl (by kernel_rfl) (by kernel_rfl) (by kernel_rfl) (fun _ _ _ h => h) (Or.inl ⟨by rfl, fun w' h => by have hh0 := h.cell _ _ k0; go_simp⟩) hS ?_
                simp only [Act.put]
                refine wpAnyH_take (i := 2) (v := .int .i64 (k : Int)) rfl (by kernel_rfl) (by kernel_rfl) (by kernel_rfl) (fun _ _ _ h => h) (Or.inl ⟨by rfl, fun w' h => by go_simp⟩) hS ?_
                simp only [Act.put]
                refine wpAnyH_take (i := 3) (v := sv) rfl (by kernel_rfl) (by kernel_rfl) (by kernel_rfl) (fun _ _ _ h => h) (Or.inl ⟨by rfl, fun w' h => by go_simp⟩) hS ?_
                simp only [Act.put]
                refine wpAnyH_take (i := 4) (v := .pointer (some ⟨w.heap.size, 0, none⟩)) rfl (by kernel_rfl) (by kernel_rfl) (by kernel_rfl) (fun _ _ _ h => h) (Or.inl ⟨by rfl, fun w' h => by go_simp⟩) hS ?_
                simp only [Act.put]
                refine wpAnyH_take (i := 5) (v := .slice (some ⟨g0, f0, none⟩) a.length c0) rfl (by kernel_rfl) (by kernel_rfl) (by kernel_rfl) (fun _ _ _ h => h) (Or.inl ⟨by rfl, fun w' h => by have hh0 := h.cell _ _ k0; go_simp⟩) hS ?_
                simp only [Act.put]
                refine wpAnyH_take (i := 6) (v := .int .i64 (k : Int)) rfl (by kernel_rfl) (by kernel_rfl) (by kernel_rfl) (fun _ _ _ h => h) (Or.inl ⟨by rfl, fun w' h => by go_simp⟩) hS ?_
                simp only [Act.put]
                refine wpAnyH_ready (rs := [7]) (by kernel_rfl) (by simp) (AllReadyH.cons rfl (fun K hK => ?_) (AllReadyH.nil))
                go_simp
                refine (HE.out W0 ((HS.out.kp (Kp.of_below HB.out)).kp hS) ((H0.out.kp (Kp.of_below HB.out)).kp hS) HAo.out l0 HN3.out).mono ?_
                rintro e w2z ⟨rfl, hw2⟩
                have hw8 := hw2.symm
                subst hw8
                clear hw2
                refine hK.out _ _ hS (fun _ => ?_)
                clear hK K
                try simp only [Act.put, List.setIfInBounds_toArray]
                refine wpAnyH_take (i := 8) (v := .slice (some ⟨g0, f0 + k, none⟩) n (c0 - k)) rfl (by kernel_rfl) (by kernel_rfl) (by kernel_rfl) (fun _ _ _ h => h) (Or.inl ⟨by rfl, fun w' h => by go_simp⟩) hS ?_
                simp only [Act.put]
                refine wpAnyH_take (i := 9) (v := .slice (some ⟨g0, f0 + k, none⟩) n (c0 - k)) rfl (by kernel_rfl) (by kernel_rfl) (by kernel_rfl) (fun _ _ _ h => h) (Or.inl ⟨by rfl, fun w' h => by go_simp⟩) hS ?_
                simp only [Act.put]
                refine wpAnyH_done (by kernel_rfl) ?_ _
                try simp only [List.getElem_toArray, List.getElem_cons_succ, List.getElem_cons_zero, List.setIfInBounds_toArray, List.set_cons_succ, List.set_cons_zero]
                have hb := bW0
                have HU9 := hid (HU.out.kp (Kp.of_below hb))
                have HBl2 := hid (below_step HBl.out hb)
                have HBn := hid (below_step HB.out hb)
                have k0n := (Kp.of_below hb).cell _ _ k0
                have k1n := (Kp.of_below hb).cell _ _ k1
                have k2n := (Kp.of_below hb).cell _ _ k2
                have HPcn := hid (HPc.out.later hb)
                clear hb HB k0 k1 k2 HPc
                have HB := HBn
                have k0 := k0n
                have k1 := k1n
                have k2 := k2n
                have HPc := HPcn
                clear HBn k0n k1n k2n HPcn
                clear hS bW0 HU HBl
                go_wp2_with fail
                refine (lpoGreater_any sv _ _ _ sig ps a ((a.drop k).take n) W0 (HS.out.kp (Kp.of_below HB.out)) HPc.out (H0.out.kp (Kp.of_below HB.out)) HU9.out (HT.out.below HB.out) HC.out).mono ?_
                rintro e wa ⟨rfl, hb⟩
                have HU10 := hid (HU9.out.kp (Kp.of_below hb))
                have HBl3 := hid (below_step HBl2.out hb)
                have HBn := hid (below_step HB.out hb)
                have k0n := (Kp.of_below hb).cell _ _ k0
                have k1n := (Kp.of_below hb).cell _ _ k1
                have k2n := (Kp.of_below hb).cell _ _ k2
                have HPcn := hid (HPc.out.later hb)
                clear hb HB k0 k1 k2 HPc
                have HB := HBn
                have k0 := k0n
                have k1 := k1n
                have k2 := k2n
                have HPc := HPcn
                clear HBn k0n k1n k2n HPcn
                clear HU9 HBl2
                rw [HPt.out]
                go_wp2_with fail
                refine (lpoGreater_any sv _ _ _ sig ps ((a.drop k).take n) a wa (HS.out.kp (Kp.of_below HB.out)) HPc.out HU10.out (H0.out.kp (Kp.of_below HB.out)) (HT.out.below HB.out) HC.out).mono ?_
                rintro e wb ⟨rfl, hb⟩
                have HBl4 := hid (below_step HBl3.out hb)
                have HBn := hid (below_step HB.out hb)
                have k0n := (Kp.of_below hb).cell _ _ k0
                have k1n := (Kp.of_below hb).cell _ _ k1
                have k2n := (Kp.of_below hb).cell _ _ k2
                have HPcn := hid (HPc.out.later hb)
                clear hb HB k0 k1 k2 HPc
                have HB := HBn
                have k0 := k0n
                have k1 := k1n
                have k2 := k2n
                have HPc := HPcn
                clear HBn k0n k1n k2n HPcn
                clear HU10 HBl3
                rw [gr_not2 HC.out HPt.out]
                go_wp2
                go_roundw
                case rel => exact ⟨k + 1, by omega, by go_num, by omega, HBl4.out⟩
                case measure => simp [intOf]; omega
              · by_cases hka : k < a.length
                · have hd1 : decide ((k : Int) < (a.length : Int)) = true := decide_eq_true (by omega)
                  have hd2 : decide ((k : Int) < 60) = false := decide_eq_false (by omega)
                  have hd3 : ¬ (k : Int) < 60 := by omega
                  have hd4 : ¬ k < 60 := by omega
                  go_wp2
                  go_ret
                  exact ⟨rfl, HB.out⟩
                · have hd1 : decide ((k : Int) < (a.length : Int)) = false := decide_eq_false (by omega)
                  have hd3 : ¬ (k : Int) < (a.length : Int) := by omega
                  go_wp2
                  go_ret
                  exact ⟨rfl, HB.out⟩
          | true =>
            cases hy : grB sig ps b c with
            | false =>
              generalize grB sig ps a c = Z
              clear hx hy
              go_wp2
              go_loopw [18] (fun iv wr => ∃ k : Nat, 1 ≤ k ∧ iv = .int .i64 k ∧ k ≤ 513 ∧ Below w9.heap.size w9 wr) (fun iv _ => 513 - (intOf iv).toNat)
              case atStart => exact ⟨1, Nat.le_refl _, rfl, by omega, Below.refl _ _⟩
              case round =>
                obtain ⟨k, hk1, rfl, hk2, hb⟩ := hrel
                have HBl := hid hb
                have HBn := hid (below_step HB.out hb)
                have k0n := (Kp.of_below hb).cell _ _ k0
                have k1n := (Kp.of_below hb).cell _ _ k1
                have k2n := (Kp.of_below hb).cell _ _ k2
                have HPcn := hid (HPc.out.later hb)
                clear hb HB k0 k1 k2 HPc
                have HB := HBn
                have k0 := k0n
                have k1 := k1n
                have k2 := k2n
                have HPc := HPcn
                clear HBn k0n k1n k2n HPcn
                by_cases hkl : k < a.length ∧ k < 60
                · obtain ⟨hka, hk60⟩ := hkl
                  have hd1 : decide ((k : Int) < (a.length : Int)) = true := decide_eq_true (by omega)
                  have hd2 : decide ((k : Int) < 60) = true := decide_eq_true (by omega)
                  obtain ⟨n1, n2, n3, n4⟩ := at_place HAo.out HRa.out hka
                  obtain ⟨n, hn⟩ : ∃ n, n = nodes sig a k := ⟨_, rfl⟩
                  rw [← hn] at n1 n2 n3 n4
                  clear hn
                  obtain ⟨g0, f0, _, rfl, _⟩ := H0.out.at hka
                  have HU : Hid (Is wr (.slice (some ⟨g0, f0 + k, none⟩) n (c0 - k)) ((a.drop k).take n)) := Is.mid (H0.out.kp (Kp.of_below HB.out)) hka n2
                  have HE := hid (refEnd_any sv (.slice (some ⟨g0, f0, none⟩) a.length c0) sig a k n)
                  have HPt := hid (gr_part (ps := ps) (p := a.take k) (u := (a.drop k).take n) (q := (a.drop k).drop n) HMa.out n4 (by rw [List.take_append_drop, List.take_append_drop]) (fun e => by have h9 := congrArg List.length e; rw [List.length_take, List.length_nil] at h9; omega))
                  have HN3 := hid n3
                  have hcap : ¬ c0 = k := by omega
                  have hkn : k + n ≤ c0 := by omega
                  have hsub : k + n - k = n := by omega
                  have hle : k ≤ k + n := by omega
                  have hi1 : (0 : Int) ≤ (k : Int) + (n : Int) := by omega
                  have hi2 : (k : Int) + (n : Int) ≤ (c0 : Int) := by omega
                  have hi3 : ((k : Int) + (n : Int)).toNat = k + n := by omega
                  clear n3 n4
                  go_upto_region 19 with fail
                  have hS : Kp wr wr.drew := Kp.of_below (drawn_below1 wr)
                  refine wp_region_held_drew (S := fun w' => Kp wr w') (by kernel_rfl) hS (fun _ => ?_)
                  obtain ⟨W0, hW0⟩ : ∃ X, X = wr.drew := ⟨_, rfl⟩
                  have bW0 : Below wr.heap.size wr W0 := by rw [hW0]; exact drawn_below1 wr
                  rw [← hW0] at hS ⊢
                  clear hW0
                  refine wpAnyH_take (i := 0) (v := .pointer (some ⟨w.heap.size, 0, none⟩)) rfl (by kernel_rfl) (by kernel_rfl) (by kernel_rfl) (fun _ _ _ h => h) (Or.inl ⟨by rfl, fun w' h => by go_simp⟩) hS ?_
                  simp only [Act.put, List.setIfInBounds_toArray]
                  refine wpAnyH_take (i := 1) (v := .slice (some ⟨g0, f0, none⟩) a.length c0) rfl (by kernel_rfl) (by kernel_rfl) (by kernel_rfl) (fun _ _ _ h => h) (Or.inl ⟨by rfl, fun w' h => by have hh0 := h.cell _ _ k0; go_simp⟩) hS ?_
                  simp only [Act.put]
                  refine wpAnyH_take (i := 2) (v := .int .i64 (k : Int)) rfl (by kernel_rfl) (by kernel_rfl) (by kernel_rfl) (fun _ _ _ h => h) (Or.inl ⟨by rfl, fun w' h => by go_simp⟩) hS ?_
                  simp only [Act.put]
                  refine wpAnyH_take (i := 3) (v := sv) rfl (by kernel_rfl) (by kernel_rfl) (by kernel_rfl) (fun _ _ _ h => h) (Or.inl ⟨by rfl, fun w' h => by go_simp⟩) hS ?_
                  simp only [Act.put]
                  refine wpAnyH_take (i := 4) (v := .pointer (some ⟨w.heap.size, 0, none⟩)) rfl (by kernel_rfl) (by kernel_rfl) (by kernel_rfl) (fun _ _ _ h => h) (Or.inl ⟨by rfl, fun w' h => by go_simp⟩) hS ?_
                  simp only [Act.put]
                  refine wpAnyH_take (i := 5) (v := .slice (some ⟨g0, f0, none⟩) a.length c0) rfl (by kernel_rfl) (by kernel_rfl) (by kernel_rfl) (fun _ _ _ h => h) (Or.inl ⟨by rfl, fun w' h => by have hh0 := h.cell _ _ k0; go_simp⟩) hS ?_
                  simp only [Act.put]
                  refine wpAnyH_take (i := 6) (v := .int .i64 (k : Int)) rfl (by kernel_rfl) (by kernel_rfl) (by kernel_rfl) (fun _ _ _ h => h) (Or.inl ⟨by rfl, fun w' h => by go_simp⟩) hS ?_
                  simp only [Act.put]
                  refine wpAnyH_ready (rs := [7]) (by kernel_rfl) (by simp) (AllReadyH.cons rfl (fun K hK => ?_) (AllReadyH.nil))
                  go_simp
                  refine (HE.out W0 ((HS.out.kp (Kp.of_below HB.out)).kp hS) ((H0.out.kp (Kp.of_below HB.out)).kp hS) HAo.out l0 HN3.out).mono ?_
                  rintro e w2z ⟨rfl, hw2⟩
                  have hw8 := hw2.symm
                  subst hw8
                  clear hw2
                  refine hK.out _ _ hS (fun _ => ?_)
                  clear hK K
                  try simp only [Act.put, List.setIfInBounds_toArray]
                  refine wpAnyH_take (i := 8) (v := .slice (some ⟨g0, f0 + k, none⟩) n (c0 - k)) rfl (by kernel_rfl) (by kernel_rfl) (by kernel_rfl) (fun _ _ _ h => h) (Or.inl ⟨by rfl, fun w' h => by go_simp⟩) hS ?_
                  simp only [Act.put]
                  refine wpAnyH_take (i := 9) (v := .slice (some ⟨g0, f0 + k, none⟩) n (c0 - k)) rfl (by kernel_rfl) (by kernel_rfl) (by kernel_rfl) (fun _ _ _ h => h) (Or.inl ⟨by rfl, fun w' h => by go_simp⟩) hS ?_
                  simp only [Act.put]
                  refine wpAnyH_done (by kernel_rfl) ?_ _
                  try simp only [List.getElem_toArray, List.getElem_cons_succ, List.getElem_cons_zero, List.setIfInBounds_toArray, List.set_cons_succ, List.set_cons_zero]
                  have hb := bW0
                  have HU9 := hid (HU.out.kp (Kp.of_below hb))
                  have HBl2 := hid (below_step HBl.out hb)
                  have HBn := hid (below_step HB.out hb)
                  have k0n := (Kp.of_below hb).cell _ _ k0
                  have k1n := (Kp.of_below hb).cell _ _ k1
                  have k2n := (Kp.of_below hb).cell _ _ k2
                  have HPcn := hid (HPc.out.later hb)
                  clear hb HB k0 k1 k2 HPc
                  have HB := HBn
                  have k0 := k0n
                  have k1 := k1n
                  have k2 := k2n
                  have HPc := HPcn
                  clear HBn k0n k1n k2n HPcn
                  clear hS bW0 HU HBl
                  go_wp2_with fail
                  refine (lpoGreater_any sv _ _ _ sig ps a ((a.drop k).take n) W0 (HS.out.kp (Kp.of_below HB.out)) HPc.out (H0.out.kp (Kp.of_below HB.out)) HU9.out (HT.out.below HB.out) HC.out).mono ?_
                  rintro e wa ⟨rfl, hb⟩
                  have HU10 := hid (HU9.out.kp (Kp.of_below hb))
                  have HBl3 := hid (below_step HBl2.out hb)
                  have HBn := hid (below_step HB.out hb)
                  have k0n := (Kp.of_below hb).cell _ _ k0
                  have k1n := (Kp.of_below hb).cell _ _ k1
                  have k2n := (Kp.of_below hb).cell _ _ k2
                  have HPcn := hid (HPc.out.later hb)
                  clear hb HB k0 k1 k2 HPc
                  have HB := HBn
                  have k0 := k0n
                  have k1 := k1n
                  have k2 := k2n
                  have HPc := HPcn
                  clear HBn k0n k1n k2n HPcn
                  clear HU9 HBl2
                  rw [HPt.out]
                  go_wp2_with fail
                  refine (lpoGreater_any sv _ _ _ sig ps ((a.drop k).take n) a wa (HS.out.kp (Kp.of_below HB.out)) HPc.out HU10.out (H0.out.kp (Kp.of_below HB.out)) (HT.out.below HB.out) HC.out).mono ?_
                  rintro e wb ⟨rfl, hb⟩
                  have HBl4 := hid (below_step HBl3.out hb)
                  have HBn := hid (below_step HB.out hb)
                  have k0n := (Kp.of_below hb).cell _ _ k0
                  have k1n := (Kp.of_below hb).cell _ _ k1
                  have k2n := (Kp.of_below hb).cell _ _ k2
                  have HPcn := hid (HPc.out.later hb)
                  clear hb HB k0 k1 k2 HPc
                  have HB := HBn
                  have k0 := k0n
                  have k1 := k1n
                  have k2 := k2n
                  have HPc := HPcn
                  clear HBn k0n k1n k2n HPcn
                  clear HU10 HBl3
                  rw [gr_not2 HC.out HPt.out]
                  go_wp2
                  go_roundw
                  case rel => exact ⟨k + 1, by omega, by go_num, by omega, HBl4.out⟩
                  case measure => simp [intOf]; omega
                · by_cases hka : k < a.length
                  · have hd1 : decide ((k : Int) < (a.length : Int)) = true := decide_eq_true (by omega)
                    have hd2 : decide ((k : Int) < 60) = false := decide_eq_false (by omega)
                    have hd3 : ¬ (k : Int) < 60 := by omega
                    have hd4 : ¬ k < 60 := by omega
                    go_wp2
                    go_ret
                    exact ⟨rfl, HB.out⟩
                  · have hd1 : decide ((k : Int) < (a.length : Int)) = false := decide_eq_false (by omega)
                    have hd3 : ¬ (k : Int) < (a.length : Int) := by omega
                    go_wp2
                    go_ret
                    exact ⟨rfl, HB.out⟩
            | true =>
              rw [gr_trans hx hy]
              clear hx hy
              go_wp2
              go_loopw [18] (fun iv wr => ∃ k : Nat, 1 ≤ k ∧ iv = .int .i64 k ∧ k ≤ 513 ∧ Below w9.heap.size w9 wr) (fun iv _ => 513 - (intOf iv).toNat)
              case atStart => exact ⟨1, Nat.le_refl _, rfl, by omega, Below.refl _ _⟩
              case round =>
                obtain ⟨k, hk1, rfl, hk2, hb⟩ := hrel
                have HBl := hid hb
                have HBn := hid (below_step HB.out hb)
                have k0n := (Kp.of_below hb).cell _ _ k0
                have k1n := (Kp.of_below hb).cell _ _ k1
                have k2n := (Kp.of_below hb).cell _ _ k2
                have HPcn := hid (HPc.out.later hb)
                clear hb HB k0 k1 k2 HPc
                have HB := HBn
                have k0 := k0n
                have k1 := k1n
                have k2 := k2n
                have HPc := HPcn
                clear HBn k0n k1n k2n HPcn
                by_cases hkl : k < a.length ∧ k < 60
                · obtain ⟨hka, hk60⟩ := hkl
                  have hd1 : decide ((k : Int) < (a.length : Int)) = true := decide_eq_true (by omega)
                  have hd2 : decide ((k : Int) < 60) = true := decide_eq_true (by omega)
                  obtain ⟨n1, n2, n3, n4⟩ := at_place HAo.out HRa.out hka
                  obtain ⟨n, hn⟩ : ∃ n, n = nodes sig a k := ⟨_, rfl⟩
                  rw [← hn] at n1 n2 n3 n4
                  clear hn
                  obtain ⟨g0, f0, _, rfl, _⟩ := H0.out.at hka
                  have HU : Hid (Is wr (.slice (some ⟨g0, f0 + k, none⟩) n (c0 - k)) ((a.drop k).take n)) := Is.mid (H0.out.kp (Kp.of_below HB.out)) hka n2
                  have HE := hid (refEnd_any sv (.slice (some ⟨g0, f0, none⟩) a.length c0) sig a k n)
                  have HPt := hid (gr_part (ps := ps) (p := a.take k) (u := (a.drop k).take n) (q := (a.drop k).drop n) HMa.out n4 (by rw [List.take_append_drop, List.take_append_drop]) (fun e => by have h9 := congrArg List.length e; rw [List.length_take, List.length_nil] at h9; omega))
                  have HN3 := hid n3
                  have hcap : ¬ c0 = k := by omega
                  have hkn : k + n ≤ c0 := by omega
                  have hsub : k + n - k = n := by omega
                  have hle : k ≤ k + n := by omega
                  have hi1 : (0 : Int) ≤ (k : Int) + (n : Int) := by omega
                  have hi2 : (k : Int) + (n : Int) ≤ (c0 : Int) := by omega
                  have hi3 : ((k : Int) + (n : Int)).toNat = k + n := by omega
                  clear n3 n4
                  go_upto_region 19 with fail
                  have hS : Kp wr wr.drew := Kp.of_below (drawn_below1 wr)
                  refine wp_region_held_drew (S := fun w' => Kp wr w') (by kernel_rfl) hS (fun _ => ?_)
                  obtain ⟨W0, hW0⟩ : ∃ X, X = wr.drew := ⟨_, rfl⟩
                  have bW0 : Below wr.heap.size wr W0 := by rw [hW0]; exact drawn_below1 wr
                  rw [← hW0] at hS ⊢
                  clear hW0
                  refine wpAnyH_take (i := 0) (v := .pointer (some ⟨w.heap.size, 0, none⟩)) rfl (by kernel_rfl) (by kernel_rfl) (by kernel_rfl) (fun _ _ _ h => h) (Or.inl ⟨by rfl, fun w' h => by go_simp⟩) hS ?_
                  simp only [Act.put, List.setIfInBounds_toArray]
                  refine wpAnyH_take (i := 1) (v := .slice (some ⟨g0, f0, none⟩) a.length c0) rfl (by kernel_rfl) (by kernel_rfl) (by kernel_rfl) (fun _ _ _ h => h) (Or.inl ⟨by rfl, fun w' h => by have hh0 := h.cell _ _ k0; go_simp⟩) hS ?_
                  simp only [Act.put]
                  refine wpAnyH_take (i := 2) (v := .int .i64 (k : Int)) rfl (by kernel_rfl) (by kernel_rfl) (by kernel_rfl) (fun _ _ _ h => h) (Or.inl ⟨by rfl, fun w' h => by go_simp⟩) hS ?_
                  simp only [Act.put]
                  refine wpAnyH_take (i := 3) (v := sv) rfl (by kernel_rfl) (by kernel_rfl) (by kernel_rfl) (fun _ _ _ h => h) (Or.inl ⟨by rfl, fun w' h => by go_simp⟩) hS ?_
                  simp only [Act.put]
                  refine wpAnyH_take (i := 4) (v := .pointer (some ⟨w.heap.size, 0, none⟩)) rfl (by kernel_rfl) (by kernel_rfl) (by kernel_rfl) (fun _ _ _ h => h) (Or.inl ⟨by rfl, fun w' h => by go_simp⟩) hS ?_
                  simp only [Act.put]
                  refine wpAnyH_take (i := 5) (v := .slice (some ⟨g0, f0, none⟩) a.length c0) rfl (by kernel_rfl) (by kernel_rfl) (by kernel_rfl) (fun _ _ _ h => h) (Or.inl ⟨by rfl, fun w' h => by have hh0 := h.cell _ _ k0; go_simp⟩) hS ?_
                  simp only [Act.put]
                  refine wpAnyH_take (i := 6) (v := .int .i64 (k : Int)) rfl (by kernel_rfl) (by kernel_rfl) (by kernel_rfl) (fun _ _ _ h => h) (Or.inl ⟨by rfl, fun w' h => by go_simp⟩) hS ?_
                  simp only [Act.put]
                  refine wpAnyH_ready (rs := [7]) (by kernel_rfl) (by simp) (AllReadyH.cons rfl (fun K hK => ?_) (AllReadyH.nil))
                  go_simp
                  refine (HE.out W0 ((HS.out.kp (Kp.of_below HB.out)).kp hS) ((H0.out.kp (Kp.of_below HB.out)).kp hS) HAo.out l0 HN3.out).mono ?_
                  rintro e w2z ⟨rfl, hw2⟩
                  have hw8 := hw2.symm
                  subst hw8
                  clear hw2
                  refine hK.out _ _ hS (fun _ => ?_)
                  clear hK K
                  try simp only [Act.put, List.setIfInBounds_toArray]
                  refine wpAnyH_take (i := 8) (v := .slice (some ⟨g0, f0 + k, none⟩) n (c0 - k)) rfl (by kernel_rfl) (by kernel_rfl) (by kernel_rfl) (fun _ _ _ h => h) (Or.inl ⟨by rfl, fun w' h => by go_simp⟩) hS ?_
                  simp only [Act.put]
                  refine wpAnyH_take (i := 9) (v := .slice (some ⟨g0, f0 + k, none⟩) n (c0 - k)) rfl (by kernel_rfl) (by kernel_rfl) (by kernel_rfl) (fun _ _ _ h => h) (Or.inl ⟨by rfl, fun w' h => by go_simp⟩) hS ?_
                  simp only [Act.put]
                  refine wpAnyH_done (by kernel_rfl) ?_ _
                  try simp only [List.getElem_toArray, List.getElem_cons_succ, List.getElem_cons_zero, List.setIfInBounds_toArray, List.set_cons_succ, List.set_cons_zero]
                  have hb := bW0
                  have HU9 := hid (HU.out.kp (Kp.of_below hb))
                  have HBl2 := hid (below_step HBl.out hb)
                  have HBn := hid (below_step HB.out hb)
                  have k0n := (Kp.of_below hb).cell _ _ k0
                  have k1n := (Kp.of_below hb).cell _ _ k1
                  have k2n := (Kp.of_below hb).cell _ _ k2
                  have HPcn := hid (HPc.out.later hb)
                  clear hb HB k0 k1 k2 HPc
                  have HB := HBn
                  have k0 := k0n
                  have k1 := k1n
                  have k2 := k2n
                  have HPc := HPcn
                  clear HBn k0n k1n k2n HPcn
                  clear hS bW0 HU HBl
                  go_wp2_with fail
                  refine (lpoGreater_any sv _ _ _ sig ps a ((a.drop k).take n) W0 (HS.out.kp (Kp.of_below HB.out)) HPc.out (H0.out.kp (Kp.of_below HB.out)) HU9.out (HT.out.below HB.out) HC.out).mono ?_
                  rintro e wa ⟨rfl, hb⟩
                  have HU10 := hid (HU9.out.kp (Kp.of_below hb))
                  have HBl3 := hid (below_step HBl2.out hb)
                  have HBn := hid (below_step HB.out hb)
                  have k0n := (Kp.of_below hb).cell _ _ k0
                  have k1n := (Kp.of_below hb).cell _ _ k1
                  have k2n := (Kp.of_below hb).cell _ _ k2
                  have HPcn := hid (HPc.out.later hb)
                  clear hb HB k0 k1 k2 HPc
                  have HB := HBn
                  have k0 := k0n
                  have k1 := k1n
                  have k2 := k2n
                  have HPc := HPcn
                  clear HBn k0n k1n k2n HPcn
                  clear HU9 HBl2
                  rw [HPt.out]
                  go_wp2_with fail
                  refine (lpoGreater_any sv _ _ _ sig ps ((a.drop k).take n) a wa (HS.out.kp (Kp.of_below HB.out)) HPc.out HU10.out (H0.out.kp (Kp.of_below HB.out)) (HT.out.below HB.out) HC.out).mono ?_
                  rintro e wb ⟨rfl, hb⟩
                  have HBl4 := hid (below_step HBl3.out hb)
                  have HBn := hid (below_step HB.out hb)
                  have k0n := (Kp.of_below hb).cell _ _ k0
                  have k1n := (Kp.of_below hb).cell _ _ k1
                  have k2n := (Kp.of_below hb).cell _ _ k2
                  have HPcn := hid (HPc.out.later hb)
                  clear hb HB k0 k1 k2 HPc
                  have HB := HBn
                  have k0 := k0n
                  have k1 := k1n
                  have k2 := k2n
                  have HPc := HPcn
                  clear HBn k0n k1n k2n HPcn
                  clear HU10 HBl3
                  rw [gr_not2 HC.out HPt.out]
                  go_wp2
                  go_roundw
                  case rel => exact ⟨k + 1, by omega, by go_num, by omega, HBl4.out⟩
                  case measure => simp [intOf]; omega
                · by_cases hka : k < a.length
                  · have hd1 : decide ((k : Int) < (a.length : Int)) = true := decide_eq_true (by omega)
                    have hd2 : decide ((k : Int) < 60) = false := decide_eq_false (by omega)
                    have hd3 : ¬ (k : Int) < 60 := by omega
                    have hd4 : ¬ k < 60 := by omega
                    go_wp2
                    go_ret
                    exact ⟨rfl, HB.out⟩
                  · have hd1 : decide ((k : Int) < (a.length : Int)) = false := decide_eq_false (by omega)
                    have hd3 : ¬ (k : Int) < (a.length : Int) := by omega
                    go_wp2
                    go_ret
                    exact ⟨rfl, HB.out⟩
  · clear h0
    go_wp2_with fail
    refine (term11_any sv _ sig a w2 (HS.out.kp (Kp.of_below HB.out)) (H0.out.kp (Kp.of_below HB.out)) l0).mono ?_
    rintro e w3 ⟨rfl, hb⟩
    have HBn := hid (below_step HB.out hb)
    have k0n := (Kp.of_below hb).cell _ _ k0
    have k1n := (Kp.of_below hb).cell _ _ k1
    have k2n := (Kp.of_below hb).cell _ _ k2
    clear hb HB k0 k1 k2
    have HB := HBn
    have k0 := k0n
    have k1 := k1n
    have k2 := k2n
    clear HBn k0n k1n k2n
    go_wp2_with fail
    refine (term11_any sv _ sig b w3 (HS.out.kp (Kp.of_below HB.out)) (H1.out.kp (Kp.of_below HB.out)) l1).mono ?_
    rintro e w4 ⟨rfl, hb⟩
    have HBn := hid (below_step HB.out hb)
    have k0n := (Kp.of_below hb).cell _ _ k0
    have k1n := (Kp.of_below hb).cell _ _ k1
    have k2n := (Kp.of_below hb).cell _ _ k2
    clear hb HB k0 k1 k2
    have HB := HBn
    have k0 := k0n
    have k1 := k1n
    have k2 := k2n
    clear HBn k0n k1n k2n
    go_wp2_with fail
    refine (term11_any sv _ sig c w4 (HS.out.kp (Kp.of_below HB.out)) (H2.out.kp (Kp.of_below HB.out)) l2).mono ?_
    rintro e w5 ⟨rfl, hb⟩
    have HBn := hid (below_step HB.out hb)
    have k0n := (Kp.of_below hb).cell _ _ k0
    have k1n := (Kp.of_below hb).cell _ _ k1
    have k2n := (Kp.of_below hb).cell _ _ k2
    clear hb HB k0 k1 k2
    have HB := HBn
    have k0 := k0n
    have k1 := k1n
    have k2 := k2n
    clear HBn k0n k1n k2n
    go_wp2
    go_ret
    exact ⟨rfl, HB.out⟩

end Go.Proofs.YthjghdpiokpnfaaDoor
