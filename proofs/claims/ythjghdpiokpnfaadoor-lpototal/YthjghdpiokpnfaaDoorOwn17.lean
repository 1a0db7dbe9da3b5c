/- Kept by binds, and by what stands around. -/
import Derived.Test.YthjghdpiokpnfaaDoorOwn13
import Derived.Test.YthjghdpiokpnfaaDoorOwn14
import Derived.Test.YthjghdpiokpnfaaDoorOwn4
import Derived.BigRegion
namespace Go.Proofs.YthjghdpiokpnfaaDoor
open Go.RowKit Go.Maps Go.BigFrame

theorem rem_posL {t : Int} {n : Nat} (hn : 0 < n) : ∃ k : Nat, t % (n : Int) = (k : Int) ∧ k < n := by
  have h1 := Int.emod_nonneg t (b := (n : Int)) (by omega)
  have h2 := Int.emod_lt_of_pos t (b := (n : Int)) (by omega)
  exact ⟨(t % (n : Int)).toNat, by omega, by omega⟩

theorem rem_negL {t : Int} {n : Nat} (hn : 0 < n) (h : t < 0) : ∃ k : Nat, -(t + 1).tmod (n : Int) = (k : Int) ∧ k < n := by
  have h0 : -(t + 1).tmod (n : Int) = (-(t + 1)).tmod (n : Int) := (Int.neg_tmod ..).symm
  rw [h0, Int.tmod_eq_emod_of_nonneg (by omega)]
  exact rem_posL hn

theorem kept_round {sig : List Sy} {ps : List (Int × Int)} {r s t : List Int} {k : Nat} (hr : mayB sig r = true) (hk : k < r.length) (hg : grB sig ps s t = true) (h1 : replE sig r k s = 0) (h2 : replE sig r k t = 0) : grB sig ps (replL sig r k s) (replL sig r k t) = true := by
  obtain ⟨er, lr⟩ := may_term hr
  obtain ⟨hs, ht⟩ := gr_may hg
  obtain ⟨_, hsg, rs⟩ := may_parts hs
  obtain ⟨_, _, rt⟩ := may_parts ht
  obtain ⟨_, _, rr⟩ := may_parts hr
  obtain ⟨p, v, q, he, hp, _, hv⟩ := split_place er hk
  subst he
  subst hp
  obtain ⟨a1, a2⟩ := repl_mid er hv rs
  obtain ⟨b1, b2⟩ := repl_mid er hv rt
  rw [a1] at h1
  rw [b1] at h2
  by_cases c1 : 512 < p.length + s.length + q.length
  · rw [if_pos c1] at h1; cases h1
  · by_cases c2 : 512 < p.length + t.length + q.length
    · rw [if_pos c2] at h2; cases h2
    · rw [if_neg c1] at a2
      rw [if_neg c2] at b2
      rw [a2, b2]
      have mk : ∀ {u : List Int}, rowE sig u = 0 → ¬ 512 < p.length + u.length + q.length → mayB sig (p ++ (u ++ q)) = true := fun {u} hu hl => may_of (by rw [List.length_append, List.length_append]; omega) (by unfold termE; rw [if_pos hsg, right_mid (sigE_ok hsg) rr hv hu])
      exact gr_round hg (mk rs c1) (mk rt c2)

set_option maxRecDepth 100000 in
set_option maxHeartbeats 6400000 in
theorem lpoKept_any (sv pv v0 v1 bv rv : Value) (n : Int) (sig : List Sy) (ps : List (Int × Int)) (a b : List Int) (s : List Bd) (r : List Int) (w : World) (hs : Sg w sv sig) (hp : Prs w pv ps) (h0 : Is w v0 a) (h1 : Is w v1 b) (hb2 : Bs w bv s) (h3 : Is w rv r) (hn1 : -9223372036854775808 ≤ n) (hn2 : n ≤ 9223372036854775807) (hT : Tabs w) (l0 : a.length * 8 ≤ 140737488351232) (l1 : b.length * 8 ≤ 140737488351232) (l2 : r.length * 8 ≤ 140737488351232) :
    Calls Tryd.prog 6 #[sv, pv, .agg #[v0, v1, bv, rv, .int .i64 n]] w fun e w' => e = .returned (.bool true) ∧ Below w.heap.size w w' := by
  obtain ⟨a0, c0, rfl, ha0, hc0, _⟩ := h0.flatI
  obtain ⟨a1, c1, rfl, ha1, hc1, _⟩ := h1.flatI
  obtain ⟨a3, c3, rfl, ha3, hc3, _⟩ := h3.flatI
  obtain ⟨a2, c2, rfl, ha2, hc2, _⟩ := Row.flat hb2
  have HS := hid hs
  have HP := hid hp
  have H0 := hid h0
  have H1 := hid h1
  have H2 := hid hb2
  have H3 := hid h3
  have HT := hid hT
  have HB := hid (below_alloc (w := w) (.cells #[.slice a0 a.length c0, .slice a1 b.length c1, .slice a2 s.length c2, .slice a3 r.length c3, .int .i64 n] 45))
  have k0 : (w.alloc (.cells #[.slice a0 a.length c0, .slice a1 b.length c1, .slice a2 s.length c2, .slice a3 r.length c3, .int .i64 n] 45)).cell? ⟨w.heap.size, 0, none⟩ = some (.slice a0 a.length c0) := by rw [cell_of_row _ _ _ _ _ _ (heap_alloc_new _ _)]; rfl
  have k1 : (w.alloc (.cells #[.slice a0 a.length c0, .slice a1 b.length c1, .slice a2 s.length c2, .slice a3 r.length c3, .int .i64 n] 45)).cell? ⟨w.heap.size, 1, none⟩ = some (.slice a1 b.length c1) := by rw [cell_of_row _ _ _ _ _ _ (heap_alloc_new _ _)]; rfl
  have k2 : (w.alloc (.cells #[.slice a0 a.length c0, .slice a1 b.length c1, .slice a2 s.length c2, .slice a3 r.length c3, .int .i64 n] 45)).cell? ⟨w.heap.size, 2, none⟩ = some (.slice a2 s.length c2) := by rw [cell_of_row _ _ _ _ _ _ (heap_alloc_new _ _)]; rfl
  have k3 : (w.alloc (.cells #[.slice a0 a.length c0, .slice a1 b.length c1, .slice a2 s.length c2, .slice a3 r.length c3, .int .i64 n] 45)).cell? ⟨w.heap.size, 3, none⟩ = some (.slice a3 r.length c3) := by rw [cell_of_row _ _ _ _ _ _ (heap_alloc_new _ _)]; rfl
  have k4 : (w.alloc (.cells #[.slice a0 a.length c0, .slice a1 b.length c1, .slice a2 s.length c2, .slice a3 r.length c3, .int .i64 n] 45)).cell? ⟨w.heap.size, 4, none⟩ = some (.int .i64 n) := by rw [cell_of_row _ _ _ _ _ _ (heap_alloc_new _ _)]; rfl
  clear hs hp h0 h1 hb2 h3 hT
  go_enter Tryd.func6, Tryd.ntmps6
  go_wp2_with fail
  generalize w.alloc (.cells #[.slice a0 a.length c0, .slice a1 b.length c1, .slice a2 s.length c2, .slice a3 r.length c3, .int .i64 n] 45) = W1 at HB k0 k1 k2 k3 k4 ⊢
  refine (shown11_any W1 (HT.out.below HB.out)).mono ?_
  rintro e w1 ⟨rfl, hb⟩
  have HBn := hid (below_step HB.out hb)
  have k0n := (Kp.of_below hb).cell _ _ k0
  have k1n := (Kp.of_below hb).cell _ _ k1
  have k2n := (Kp.of_below hb).cell _ _ k2
  have k3n := (Kp.of_below hb).cell _ _ k3
  have k4n := (Kp.of_below hb).cell _ _ k4
  clear hb HB k0 k1 k2 k3 k4
  have HB := HBn
  have k0 := k0n
  have k1 := k1n
  have k2 := k2n
  have k3 := k3n
  have k4 := k4n
  clear HBn k0n k1n k2n k3n k4n
  go_wp2_with fail
  refine (both11_any sv pv sig ps w1 (HS.out.kp (Kp.of_below HB.out)) (HP.out.kp (Kp.of_below HB.out))).mono ?_
  intro e w2 hO
  obtain ⟨hb, hor⟩ := hO
  have HBn := hid (below_step HB.out hb)
  have k0n := (Kp.of_below hb).cell _ _ k0
  have k1n := (Kp.of_below hb).cell _ _ k1
  have k2n := (Kp.of_below hb).cell _ _ k2
  have k3n := (Kp.of_below hb).cell _ _ k3
  have k4n := (Kp.of_below hb).cell _ _ k4
  clear hb HB k0 k1 k2 k3 k4
  have HB := HBn
  have k0 := k0n
  have k1 := k1n
  have k2 := k2n
  have k3 := k3n
  have k4 := k4n
  clear HBn k0n k1n k2n k3n k4n
  rcases hor with ⟨h0, gp, gq, rfl, hpc, hrc⟩ | ⟨h0, rfl⟩
  · have HPc := hid hpc
    have HRc := hid hrc
    have HC := hid (closeE_zero h0).2.2.2
    clear hpc hrc h0
    clear HRc
    go_wp2_with fail
    refine (term11_any sv _ sig a w2 (HS.out.kp (Kp.of_below HB.out)) (H0.out.kp (Kp.of_below HB.out)) l0).mono ?_
    rintro e w3 ⟨rfl, hb⟩
    have HBn := hid (below_step HB.out hb)
    have k0n := (Kp.of_below hb).cell _ _ k0
    have k1n := (Kp.of_below hb).cell _ _ k1
    have k2n := (Kp.of_below hb).cell _ _ k2
    have k3n := (Kp.of_below hb).cell _ _ k3
    have k4n := (Kp.of_below hb).cell _ _ k4
    have HPcn := hid (HPc.out.later hb)
    clear hb HB k0 k1 k2 k3 k4 HPc
    have HB := HBn
    have k0 := k0n
    have k1 := k1n
    have k2 := k2n
    have k3 := k3n
    have k4 := k4n
    have HPc := HPcn
    clear HBn k0n k1n k2n k3n k4n HPcn
    go_wp2_with fail
    refine (term11_any sv _ sig b w3 (HS.out.kp (Kp.of_below HB.out)) (H1.out.kp (Kp.of_below HB.out)) l1).mono ?_
    rintro e w4 ⟨rfl, hb⟩
    have HBn := hid (below_step HB.out hb)
    have k0n := (Kp.of_below hb).cell _ _ k0
    have k1n := (Kp.of_below hb).cell _ _ k1
    have k2n := (Kp.of_below hb).cell _ _ k2
    have k3n := (Kp.of_below hb).cell _ _ k3
    have k4n := (Kp.of_below hb).cell _ _ k4
    have HPcn := hid (HPc.out.later hb)
    clear hb HB k0 k1 k2 k3 k4 HPc
    have HB := HBn
    have k0 := k0n
    have k1 := k1n
    have k2 := k2n
    have k3 := k3n
    have k4 := k4n
    have HPc := HPcn
    clear HBn k0n k1n k2n k3n k4n HPcn
    cases hma : mayB sig a with
    | false =>
      go_wp2
      go_ret
      exact ⟨rfl, HB.out⟩
    | true =>
      cases hmb : mayB sig b with
      | false =>
        go_wp2
        go_ret
        exact ⟨rfl, HB.out⟩
      | true =>
        have la : a.length ≤ 512 := (may_parts hma).1
        have lb : b.length ≤ 512 := (may_parts hmb).1
        clear hma hmb
        go_wp2_with fail
        refine (lpoGreater_any sv _ _ _ sig ps a b w4 (HS.out.kp (Kp.of_below HB.out)) HPc.out (H0.out.kp (Kp.of_below HB.out)) (H1.out.kp (Kp.of_below HB.out)) (HT.out.below HB.out) HC.out).mono ?_
        rintro e w5 ⟨rfl, hb⟩
        have HBn := hid (below_step HB.out hb)
        have k0n := (Kp.of_below hb).cell _ _ k0
        have k1n := (Kp.of_below hb).cell _ _ k1
        have k2n := (Kp.of_below hb).cell _ _ k2
        have k3n := (Kp.of_below hb).cell _ _ k3
        have k4n := (Kp.of_below hb).cell _ _ k4
        have HPcn := hid (HPc.out.later hb)
        clear hb HB k0 k1 k2 k3 k4 HPc
        have HB := HBn
        have k0 := k0n
        have k1 := k1n
        have k2 := k2n
        have k3 := k3n
        have k4 := k4n
        have HPc := HPcn
        clear HBn k0n k1n k2n k3n k4n HPcn
        cases hg : grB sig ps a b with
        | false =>
          clear hg
          go_wp2
          go_ret
          exact ⟨rfl, HB.out⟩
        | true =>
          have HGr := hid hg
          clear hg
          go_wp2_with fail
          refine (refApply_any sv _ _ sig s a w5 (HS.out.kp (Kp.of_below HB.out)) (H2.out.kp (Kp.of_below HB.out)) (H0.out.kp (Kp.of_below HB.out)) l0).mono ?_
          rintro e w6 ⟨uv, rfl, ho, hb⟩
          have HU := hid ho.is
          clear ho
          have HBn := hid (below_step HB.out hb)
          have k0n := (Kp.of_below hb).cell _ _ k0
          have k1n := (Kp.of_below hb).cell _ _ k1
          have k2n := (Kp.of_below hb).cell _ _ k2
          have k3n := (Kp.of_below hb).cell _ _ k3
          have k4n := (Kp.of_below hb).cell _ _ k4
          have HPcn := hid (HPc.out.later hb)
          clear hb HB k0 k1 k2 k3 k4 HPc
          have HB := HBn
          have k0 := k0n
          have k1 := k1n
          have k2 := k2n
          have k3 := k3n
          have k4 := k4n
          have HPc := HPcn
          clear HBn k0n k1n k2n k3n k4n HPcn
          go_wp2_with fail
          refine (refApply_any sv _ _ sig s b w6 (HS.out.kp (Kp.of_below HB.out)) (H2.out.kp (Kp.of_below HB.out)) (H1.out.kp (Kp.of_below HB.out)) l1).mono ?_
          rintro e w7 ⟨vv, rfl, ho, hb⟩
          have HV := hid ho.is
          clear ho
          have HBn := hid (below_step HB.out hb)
          have k0n := (Kp.of_below hb).cell _ _ k0
          have k1n := (Kp.of_below hb).cell _ _ k1
          have k2n := (Kp.of_below hb).cell _ _ k2
          have k3n := (Kp.of_below hb).cell _ _ k3
          have k4n := (Kp.of_below hb).cell _ _ k4
          have HUn := hid (HU.out.kp (Kp.of_below hb))
          have HPcn := hid (HPc.out.later hb)
          clear hb HB k0 k1 k2 k3 k4 HU HPc
          have HB := HBn
          have k0 := k0n
          have k1 := k1n
          have k2 := k2n
          have k3 := k3n
          have k4 := k4n
          have HU := HUn
          have HPc := HPcn
          clear HBn k0n k1n k2n k3n k4n HUn HPcn
          by_cases he : applyE sig s a = 0
          · rw [he]
            by_cases hf : applyE sig s b = 0
            · rw [hf]
              have HX := hid (gr_laid HGr.out he hf)
              clear he hf
              go_wp2_with fail
              refine (lpoGreater_any sv _ _ _ sig ps _ _ w7 (HS.out.kp (Kp.of_below HB.out)) HPc.out HU.out HV.out (HT.out.below HB.out) HC.out).mono ?_
              rintro e w8 ⟨rfl, hb⟩
              have HBn := hid (below_step HB.out hb)
              have k0n := (Kp.of_below hb).cell _ _ k0
              have k1n := (Kp.of_below hb).cell _ _ k1
              have k2n := (Kp.of_below hb).cell _ _ k2
              have k3n := (Kp.of_below hb).cell _ _ k3
              have k4n := (Kp.of_below hb).cell _ _ k4
              have HPcn := hid (HPc.out.later hb)
              clear hb HB k0 k1 k2 k3 k4 HPc
              have HB := HBn
              have k0 := k0n
              have k1 := k1n
              have k2 := k2n
              have k3 := k3n
              have k4 := k4n
              have HPc := HPcn
              clear HBn k0n k1n k2n k3n k4n HPcn
              rw [HX.out]
              clear HX HU HV
              go_wp2_with fail
              refine (term11_any sv _ sig r w8 (HS.out.kp (Kp.of_below HB.out)) (H3.out.kp (Kp.of_below HB.out)) l2).mono ?_
              rintro e wc ⟨rfl, hb⟩
              have HBn := hid (below_step HB.out hb)
              have k0n := (Kp.of_below hb).cell _ _ k0
              have k1n := (Kp.of_below hb).cell _ _ k1
              have k2n := (Kp.of_below hb).cell _ _ k2
              have k3n := (Kp.of_below hb).cell _ _ k3
              have k4n := (Kp.of_below hb).cell _ _ k4
              have HPcn := hid (HPc.out.later hb)
              clear hb HB k0 k1 k2 k3 k4 HPc
              have HB := HBn
              have k0 := k0n
              have k1 := k1n
              have k2 := k2n
              have k3 := k3n
              have k4 := k4n
              have HPc := HPcn
              clear HBn k0n k1n k2n k3n k4n HPcn
              cases hmr : mayB sig r with
              | false =>
                go_wp2
                go_ret
                exact ⟨rfl, HB.out⟩
              | true =>
                have HMr := hid hmr
                have hr0 : 0 < r.length := by obtain ⟨x, _, hx, _⟩ := may_tree hmr; rw [← hx, size_row]; exact size_pos x
                have lr : r.length ≤ 512 := (may_parts hmr).1
                have hrz : ¬ (r.length : Int) = 0 := by omega
                have hrz2 : ¬ r.length = 0 := by omega
                clear hmr
                by_cases hn0 : n < 0
                · skip
                  obtain ⟨k, hk, hkl⟩ := rem_negL (t := n) hr0 hn0
                  have hwa : IntKind.i64.wrap (n + 1) = n + 1 := IntWalk.i64_in _ ⟨by omega, by omega⟩
                  have hwb : IntKind.i64.wrap (-(n + 1)) = -(n + 1) := IntWalk.i64_in _ ⟨by omega, by omega⟩
                  have hwk : IntKind.i64.wrap (k : Int) = (k : Int) := IntWalk.i64_in _ ⟨by omega, by omega⟩
                  have HKp := hid (fun h1 h2 => kept_round (k := k) HMr.out hkl HGr.out h1 h2)
                  go_wp2_with fail
                  refine (refReplace_any sv _ _ sig r a (k : Int) wc (HS.out.kp (Kp.of_below HB.out)) (H3.out.kp (Kp.of_below HB.out)) (H0.out.kp (Kp.of_below HB.out)) (by omega) (by omega) (by omega)).mono ?_
                  rintro e wd ⟨uv2, rfl, ho, hb⟩
                  have HU2 := hid ho.is
                  clear ho
                  have HBn := hid (below_step HB.out hb)
                  have k0n := (Kp.of_below hb).cell _ _ k0
                  have k1n := (Kp.of_below hb).cell _ _ k1
                  have k2n := (Kp.of_below hb).cell _ _ k2
                  have k3n := (Kp.of_below hb).cell _ _ k3
                  have k4n := (Kp.of_below hb).cell _ _ k4
                  have HPcn := hid (HPc.out.later hb)
                  clear hb HB k0 k1 k2 k3 k4 HPc
                  have HB := HBn
                  have k0 := k0n
                  have k1 := k1n
                  have k2 := k2n
                  have k3 := k3n
                  have k4 := k4n
                  have HPc := HPcn
                  clear HBn k0n k1n k2n k3n k4n HPcn
                  go_wp2_with fail
                  refine (refReplace_any sv _ _ sig r b (k : Int) wd (HS.out.kp (Kp.of_below HB.out)) (H3.out.kp (Kp.of_below HB.out)) (H1.out.kp (Kp.of_below HB.out)) (by omega) (by omega) (by omega)).mono ?_
                  rintro e we ⟨vv2, rfl, ho, hb⟩
                  have HV2 := hid ho.is
                  clear ho
                  have HBn := hid (below_step HB.out hb)
                  have k0n := (Kp.of_below hb).cell _ _ k0
                  have k1n := (Kp.of_below hb).cell _ _ k1
                  have k2n := (Kp.of_below hb).cell _ _ k2
                  have k3n := (Kp.of_below hb).cell _ _ k3
                  have k4n := (Kp.of_below hb).cell _ _ k4
                  have HU2n := hid (HU2.out.kp (Kp.of_below hb))
                  have HPcn := hid (HPc.out.later hb)
                  clear hb HB k0 k1 k2 k3 k4 HU2 HPc
                  have HB := HBn
                  have k0 := k0n
                  have k1 := k1n
                  have k2 := k2n
                  have k3 := k3n
                  have k4 := k4n
                  have HU2 := HU2n
                  have HPc := HPcn
                  clear HBn k0n k1n k2n k3n k4n HU2n HPcn
                  by_cases he2 : replE sig r (k : Int) a = 0
                  · rw [he2]
                    by_cases hf2 : replE sig r (k : Int) b = 0
                    · rw [hf2]
                      have HX := hid (HKp.out he2 hf2)
                      clear he2 hf2
                      go_wp2_with fail
                      refine (lpoGreater_any sv _ _ _ sig ps _ _ we (HS.out.kp (Kp.of_below HB.out)) HPc.out HU2.out HV2.out (HT.out.below HB.out) HC.out).mono ?_
                      rintro e wf ⟨rfl, hb⟩
                      have HBn := hid (below_step HB.out hb)
                      have k0n := (Kp.of_below hb).cell _ _ k0
                      have k1n := (Kp.of_below hb).cell _ _ k1
                      have k2n := (Kp.of_below hb).cell _ _ k2
                      have k3n := (Kp.of_below hb).cell _ _ k3
                      have k4n := (Kp.of_below hb).cell _ _ k4
                      have HPcn := hid (HPc.out.later hb)
                      clear hb HB k0 k1 k2 k3 k4 HPc
                      have HB := HBn
                      have k0 := k0n
                      have k1 := k1n
                      have k2 := k2n
                      have k3 := k3n
                      have k4 := k4n
                      have HPc := HPcn
                      clear HBn k0n k1n k2n k3n k4n HPcn
                      rw [HX.out]
                      go_wp2
                      go_ret
                      exact ⟨rfl, HB.out⟩
                    · generalize replE sig r (k : Int) b = F at hf2 ⊢
                      have hfb : (F != 0) = true := by simpa using hf2
                      go_wp2
                      go_ret
                      exact ⟨rfl, HB.out⟩
                  · generalize replE sig r (k : Int) b = F
                    generalize replE sig r (k : Int) a = E at he2 ⊢
                    have heb : (E != 0) = true := by simpa using he2
                    go_wp2
                    go_ret
                    exact ⟨rfl, HB.out⟩
                · skip
                  obtain ⟨k, hk, hkl⟩ := rem_posL (t := n) hr0
                  have hn0b : 0 ≤ n := by omega
                  have hkt : n.tmod (r.length : Int) = (k : Int) := by rw [Int.tmod_eq_emod_of_nonneg hn0b]; exact hk
                  have hwk : IntKind.i64.wrap (k : Int) = (k : Int) := IntWalk.i64_in _ ⟨by omega, by omega⟩
                  have HKp := hid (fun h1 h2 => kept_round (k := k) HMr.out hkl HGr.out h1 h2)
                  go_wp2_with fail
                  refine (refReplace_any sv _ _ sig r a (k : Int) wc (HS.out.kp (Kp.of_below HB.out)) (H3.out.kp (Kp.of_below HB.out)) (H0.out.kp (Kp.of_below HB.out)) (by omega) (by omega) (by omega)).mono ?_
                  rintro e wd ⟨uv2, rfl, ho, hb⟩
                  have HU2 := hid ho.is
                  clear ho
                  have HBn := hid (below_step HB.out hb)
                  have k0n := (Kp.of_below hb).cell _ _ k0
                  have k1n := (Kp.of_below hb).cell _ _ k1
                  have k2n := (Kp.of_below hb).cell _ _ k2
                  have k3n := (Kp.of_below hb).cell _ _ k3
                  have k4n := (Kp.of_below hb).cell _ _ k4
                  have HPcn := hid (HPc.out.later hb)
                  clear hb HB k0 k1 k2 k3 k4 HPc
                  have HB := HBn
                  have k0 := k0n
                  have k1 := k1n
                  have k2 := k2n
                  have k3 := k3n
                  have k4 := k4n
                  have HPc := HPcn
                  clear HBn k0n k1n k2n k3n k4n HPcn
                  go_wp2_with fail
                  refine (refReplace_any sv _ _ sig r b (k : Int) wd (HS.out.kp (Kp.of_below HB.out)) (H3.out.kp (Kp.of_below HB.out)) (H1.out.kp (Kp.of_below HB.out)) (by omega) (by omega) (by omega)).mono ?_
                  rintro e we ⟨vv2, rfl, ho, hb⟩
                  have HV2 := hid ho.is
                  clear ho
                  have HBn := hid (below_step HB.out hb)
                  have k0n := (Kp.of_below hb).cell _ _ k0
                  have k1n := (Kp.of_below hb).cell _ _ k1
                  have k2n := (Kp.of_below hb).cell _ _ k2
                  have k3n := (Kp.of_below hb).cell _ _ k3
                  have k4n := (Kp.of_below hb).cell _ _ k4
                  have HU2n := hid (HU2.out.kp (Kp.of_below hb))
                  have HPcn := hid (HPc.out.later hb)
                  clear hb HB k0 k1 k2 k3 k4 HU2 HPc
                  have HB := HBn
                  have k0 := k0n
                  have k1 := k1n
                  have k2 := k2n
                  have k3 := k3n
                  have k4 := k4n
                  have HU2 := HU2n
                  have HPc := HPcn
                  clear HBn k0n k1n k2n k3n k4n HU2n HPcn
                  by_cases he2 : replE sig r (k : Int) a = 0
                  · rw [he2]
                    by_cases hf2 : replE sig r (k : Int) b = 0
                    · rw [hf2]
                      have HX := hid (HKp.out he2 hf2)
                      clear he2 hf2
                      go_wp2_with fail
                      refine (lpoGreater_any sv _ _ _ sig ps _ _ we (HS.out.kp (Kp.of_below HB.out)) HPc.out HU2.out HV2.out (HT.out.below HB.out) HC.out).mono ?_
                      rintro e wf ⟨rfl, hb⟩
                      have HBn := hid (below_step HB.out hb)
                      have k0n := (Kp.of_below hb).cell _ _ k0
                      have k1n := (Kp.of_below hb).cell _ _ k1
                      have k2n := (Kp.of_below hb).cell _ _ k2
                      have k3n := (Kp.of_below hb).cell _ _ k3
                      have k4n := (Kp.of_below hb).cell _ _ k4
                      have HPcn := hid (HPc.out.later hb)
                      clear hb HB k0 k1 k2 k3 k4 HPc
                      have HB := HBn
                      have k0 := k0n
                      have k1 := k1n
                      have k2 := k2n
                      have k3 := k3n
                      have k4 := k4n
                      have HPc := HPcn
                      clear HBn k0n k1n k2n k3n k4n HPcn
                      rw [HX.out]
                      go_wp2
                      go_ret
                      exact ⟨rfl, HB.out⟩
                    · generalize replE sig r (k : Int) b = F at hf2 ⊢
                      have hfb : (F != 0) = true := by simpa using hf2
                      go_wp2
                      go_ret
                      exact ⟨rfl, HB.out⟩
                  · generalize replE sig r (k : Int) b = F
                    generalize replE sig r (k : Int) a = E at he2 ⊢
                    have heb : (E != 0) = true := by simpa using he2
                    go_wp2
                    go_ret
                    exact ⟨rfl, HB.out⟩
            · generalize applyE sig s b = F at hf ⊢
              have hfb : (F == 0) = false := by simpa using hf
              clear HU HV
              go_wp2_with fail
              refine (term11_any sv _ sig r w7 (HS.out.kp (Kp.of_below HB.out)) (H3.out.kp (Kp.of_below HB.out)) l2).mono ?_
              rintro e wc ⟨rfl, hb⟩
              have HBn := hid (below_step HB.out hb)
              have k0n := (Kp.of_below hb).cell _ _ k0
              have k1n := (Kp.of_below hb).cell _ _ k1
              have k2n := (Kp.of_below hb).cell _ _ k2
              have k3n := (Kp.of_below hb).cell _ _ k3
              have k4n := (Kp.of_below hb).cell _ _ k4
              have HPcn := hid (HPc.out.later hb)
              clear hb HB k0 k1 k2 k3 k4 HPc
              have HB := HBn
              have k0 := k0n
              have k1 := k1n
              have k2 := k2n
              have k3 := k3n
              have k4 := k4n
              have HPc := HPcn
              clear HBn k0n k1n k2n k3n k4n HPcn
              cases hmr : mayB sig r with
              | false =>
                go_wp2
                go_ret
                exact ⟨rfl, HB.out⟩
              | true =>
                have HMr := hid hmr
                have hr0 : 0 < r.length := by obtain ⟨x, _, hx, _⟩ := may_tree hmr; rw [← hx, size_row]; exact size_pos x
                have lr : r.length ≤ 512 := (may_parts hmr).1
                have hrz : ¬ (r.length : Int) = 0 := by omega
                have hrz2 : ¬ r.length = 0 := by omega
                clear hmr
                by_cases hn0 : n < 0
                · skip
                  obtain ⟨k, hk, hkl⟩ := rem_negL (t := n) hr0 hn0
                  have hwa : IntKind.i64.wrap (n + 1) = n + 1 := IntWalk.i64_in _ ⟨by omega, by omega⟩
                  have hwb : IntKind.i64.wrap (-(n + 1)) = -(n + 1) := IntWalk.i64_in _ ⟨by omega, by omega⟩
                  have hwk : IntKind.i64.wrap (k : Int) = (k : Int) := IntWalk.i64_in _ ⟨by omega, by omega⟩
                  have HKp := hid (fun h1 h2 => kept_round (k := k) HMr.out hkl HGr.out h1 h2)
                  go_wp2_with fail
                  refine (refReplace_any sv _ _ sig r a (k : Int) wc (HS.out.kp (Kp.of_below HB.out)) (H3.out.kp (Kp.of_below HB.out)) (H0.out.kp (Kp.of_below HB.out)) (by omega) (by omega) (by omega)).mono ?_
                  rintro e wd ⟨uv2, rfl, ho, hb⟩
                  have HU2 := hid ho.is
                  clear ho
                  have HBn := hid (below_step HB.out hb)
                  have k0n := (Kp.of_below hb).cell _ _ k0
                  have k1n := (Kp.of_below hb).cell _ _ k1
                  have k2n := (Kp.of_below hb).cell _ _ k2
                  have k3n := (Kp.of_below hb).cell _ _ k3
                  have k4n := (Kp.of_below hb).cell _ _ k4
                  have HPcn := hid (HPc.out.later hb)
                  clear hb HB k0 k1 k2 k3 k4 HPc
                  have HB := HBn
                  have k0 := k0n
                  have k1 := k1n
                  have k2 := k2n
                  have k3 := k3n
                  have k4 := k4n
                  have HPc := HPcn
                  clear HBn k0n k1n k2n k3n k4n HPcn
                  go_wp2_with fail
                  refine (refReplace_any sv _ _ sig r b (k : Int) wd (HS.out.kp (Kp.of_below HB.out)) (H3.out.kp (Kp.of_below HB.out)) (H1.out.kp (Kp.of_below HB.out)) (by omega) (by omega) (by omega)).mono ?_
                  rintro e we ⟨vv2, rfl, ho, hb⟩
                  have HV2 := hid ho.is
                  clear ho
                  have HBn := hid (below_step HB.out hb)
                  have k0n := (Kp.of_below hb).cell _ _ k0
                  have k1n := (Kp.of_below hb).cell _ _ k1
                  have k2n := (Kp.of_below hb).cell _ _ k2
                  have k3n := (Kp.of_below hb).cell _ _ k3
                  have k4n := (Kp.of_below hb).cell _ _ k4
                  have HU2n := hid (HU2.out.kp (Kp.of_below hb))
                  have HPcn := hid (HPc.out.later hb)
                  clear hb HB k0 k1 k2 k3 k4 HU2 HPc
                  have HB := HBn
                  have k0 := k0n
                  have k1 := k1n
                  have k2 := k2n
                  have k3 := k3n
                  have k4 := k4n
                  have HU2 := HU2n
                  have HPc := HPcn
                  clear HBn k0n k1n k2n k3n k4n HU2n HPcn
                  by_cases he2 : replE sig r (k : Int) a = 0
                  · rw [he2]
                    by_cases hf2 : replE sig r (k : Int) b = 0
                    · rw [hf2]
                      have HX := hid (HKp.out he2 hf2)
                      clear he2 hf2
                      go_wp2_with fail
                      refine (lpoGreater_any sv _ _ _ sig ps _ _ we (HS.out.kp (Kp.of_below HB.out)) HPc.out HU2.out HV2.out (HT.out.below HB.out) HC.out).mono ?_
                      rintro e wf ⟨rfl, hb⟩
                      have HBn := hid (below_step HB.out hb)
                      have k0n := (Kp.of_below hb).cell _ _ k0
                      have k1n := (Kp.of_below hb).cell _ _ k1
                      have k2n := (Kp.of_below hb).cell _ _ k2
                      have k3n := (Kp.of_below hb).cell _ _ k3
                      have k4n := (Kp.of_below hb).cell _ _ k4
                      have HPcn := hid (HPc.out.later hb)
                      clear hb HB k0 k1 k2 k3 k4 HPc
                      have HB := HBn
                      have k0 := k0n
                      have k1 := k1n
                      have k2 := k2n
                      have k3 := k3n
                      have k4 := k4n
                      have HPc := HPcn
                      clear HBn k0n k1n k2n k3n k4n HPcn
                      rw [HX.out]
                      go_wp2
                      go_ret
                      exact ⟨rfl, HB.out⟩
                    · generalize replE sig r (k : Int) b = F at hf2 ⊢
                      have hfb : (F != 0) = true := by simpa using hf2
                      go_wp2
                      go_ret
                      exact ⟨rfl, HB.out⟩
                  · generalize replE sig r (k : Int) b = F
                    generalize replE sig r (k : Int) a = E at he2 ⊢
                    have heb : (E != 0) = true := by simpa using he2
                    go_wp2
                    go_ret
                    exact ⟨rfl, HB.out⟩
                · skip
                  obtain ⟨k, hk, hkl⟩ := rem_posL (t := n) hr0
                  have hn0b : 0 ≤ n := by omega
                  have hkt : n.tmod (r.length : Int) = (k : Int) := by rw [Int.tmod_eq_emod_of_nonneg hn0b]; exact hk
                  have hwk : IntKind.i64.wrap (k : Int) = (k : Int) := IntWalk.i64_in _ ⟨by omega, by omega⟩
                  have HKp := hid (fun h1 h2 => kept_round (k := k) HMr.out hkl HGr.out h1 h2)
                  go_wp2_with fail
                  refine (refReplace_any sv _ _ sig r a (k : Int) wc (HS.out.kp (Kp.of_below HB.out)) (H3.out.kp (Kp.of_below HB.out)) (H0.out.kp (Kp.of_below HB.out)) (by omega) (by omega) (by omega)).mono ?_
                  rintro e wd ⟨uv2, rfl, ho, hb⟩
                  have HU2 := hid ho.is
                  clear ho
                  have HBn := hid (below_step HB.out hb)
                  have k0n := (Kp.of_below hb).cell _ _ k0
                  have k1n := (Kp.of_below hb).cell _ _ k1
                  have k2n := (Kp.of_below hb).cell _ _ k2
                  have k3n := (Kp.of_below hb).cell _ _ k3
                  have k4n := (Kp.of_below hb).cell _ _ k4
                  have HPcn := hid (HPc.out.later hb)
                  clear hb HB k0 k1 k2 k3 k4 HPc
                  have HB := HBn
                  have k0 := k0n
                  have k1 := k1n
                  have k2 := k2n
                  have k3 := k3n
                  have k4 := k4n
                  have HPc := HPcn
                  clear HBn k0n k1n k2n k3n k4n HPcn
                  go_wp2_with fail
                  refine (refReplace_any sv _ _ sig r b (k : Int) wd (HS.out.kp (Kp.of_below HB.out)) (H3.out.kp (Kp.of_below HB.out)) (H1.out.kp (Kp.of_below HB.out)) (by omega) (by omega) (by omega)).mono ?_
                  rintro e we ⟨vv2, rfl, ho, hb⟩
                  have HV2 := hid ho.is
                  clear ho
                  have HBn := hid (below_step HB.out hb)
                  have k0n := (Kp.of_below hb).cell _ _ k0
                  have k1n := (Kp.of_below hb).cell _ _ k1
                  have k2n := (Kp.of_below hb).cell _ _ k2
                  have k3n := (Kp.of_below hb).cell _ _ k3
                  have k4n := (Kp.of_below hb).cell _ _ k4
                  have HU2n := hid (HU2.out.kp (Kp.of_below hb))
                  have HPcn := hid (HPc.out.later hb)
                  clear hb HB k0 k1 k2 k3 k4 HU2 HPc
                  have HB := HBn
                  have k0 := k0n
                  have k1 := k1n
                  have k2 := k2n
                  have k3 := k3n
                  have k4 := k4n
                  have HU2 := HU2n
                  have HPc := HPcn
                  clear HBn k0n k1n k2n k3n k4n HU2n HPcn
                  by_cases he2 : replE sig r (k : Int) a = 0
                  · rw [he2]
                    by_cases hf2 : replE sig r (k : Int) b = 0
                    · rw [hf2]
                      have HX := hid (HKp.out he2 hf2)
                      clear he2 hf2
                      go_wp2_with fail
                      refine (lpoGreater_any sv _ _ _ sig ps _ _ we (HS.out.kp (Kp.of_below HB.out)) HPc.out HU2.out HV2.out (HT.out.below HB.out) HC.out).mono ?_
                      rintro e wf ⟨rfl, hb⟩
                      have HBn := hid (below_step HB.out hb)
                      have k0n := (Kp.of_below hb).cell _ _ k0
                      have k1n := (Kp.of_below hb).cell _ _ k1
                      have k2n := (Kp.of_below hb).cell _ _ k2
                      have k3n := (Kp.of_below hb).cell _ _ k3
                      have k4n := (Kp.of_below hb).cell _ _ k4
                      have HPcn := hid (HPc.out.later hb)
                      clear hb HB k0 k1 k2 k3 k4 HPc
                      have HB := HBn
                      have k0 := k0n
                      have k1 := k1n
                      have k2 := k2n
                      have k3 := k3n
                      have k4 := k4n
                      have HPc := HPcn
                      clear HBn k0n k1n k2n k3n k4n HPcn
                      rw [HX.out]
                      go_wp2
                      go_ret
                      exact ⟨rfl, HB.out⟩
                    · generalize replE sig r (k : Int) b = F at hf2 ⊢
                      have hfb : (F != 0) = true := by simpa using hf2
                      go_wp2
                      go_ret
                      exact ⟨rfl, HB.out⟩
                  · generalize replE sig r (k : Int) b = F
                    generalize replE sig r (k : Int) a = E at he2 ⊢
                    have heb : (E != 0) = true := by simpa using he2
                    go_wp2
                    go_ret
                    exact ⟨rfl, HB.out⟩
          · generalize applyE sig s b = F
            generalize applyE sig s a = E at he ⊢
            have heb : (E == 0) = false := by simpa using he
            clear HU HV
            go_wp2_with fail
            refine (term11_any sv _ sig r w7 (HS.out.kp (Kp.of_below HB.out)) (H3.out.kp (Kp.of_below HB.out)) l2).mono ?_
            rintro e wc ⟨rfl, hb⟩
            have HBn := hid (below_step HB.out hb)
            have k0n := (Kp.of_below hb).cell _ _ k0
            have k1n := (Kp.of_below hb).cell _ _ k1
            have k2n := (Kp.of_below hb).cell _ _ k2
            have k3n := (Kp.of_below hb).cell _ _ k3
            have k4n := (Kp.of_below hb).cell _ _ k4
            have HPcn := hid (HPc.out.later hb)
            clear hb HB k0 k1 k2 k3 k4 HPc
            have HB := HBn
            have k0 := k0n
            have k1 := k1n
            have k2 := k2n
            have k3 := k3n
            have k4 := k4n
            have HPc := HPcn
            clear HBn k0n k1n k2n k3n k4n HPcn
            cases hmr : mayB sig r with
            | false =>
              go_wp2
              go_ret
              exact ⟨rfl, HB.out⟩
            | true =>
              have HMr := hid hmr
              have hr0 : 0 < r.length := by obtain ⟨x, _, hx, _⟩ := may_tree hmr; rw [← hx, size_row]; exact size_pos x
              have lr : r.length ≤ 512 := (may_parts hmr).1
              have hrz : ¬ (r.length : Int) = 0 := by omega
              have hrz2 : ¬ r.length = 0 := by omega
              clear hmr
              by_cases hn0 : n < 0
              · skip
                obtain ⟨k, hk, hkl⟩ := rem_negL (t := n) hr0 hn0
                have hwa : IntKind.i64.wrap (n + 1) = n + 1 := IntWalk.i64_in _ ⟨by omega, by omega⟩
                have hwb : IntKind.i64.wrap (-(n + 1)) = -(n + 1) := IntWalk.i64_in _ ⟨by omega, by omega⟩
                have hwk : IntKind.i64.wrap (k : Int) = (k : Int) := IntWalk.i64_in _ ⟨by omega, by omega⟩
                have HKp := hid (fun h1 h2 => kept_round (k := k) HMr.out hkl HGr.out h1 h2)
                go_wp2_with fail
                refine (refReplace_any sv _ _ sig r a (k : Int) wc (HS.out.kp (Kp.of_below HB.out)) (H3.out.kp (Kp.of_below HB.out)) (H0.out.kp (Kp.of_below HB.out)) (by omega) (by omega) (by omega)).mono ?_
                rintro e wd ⟨uv2, rfl, ho, hb⟩
                have HU2 := hid ho.is
                clear ho
                have HBn := hid (below_step HB.out hb)
                have k0n := (Kp.of_below hb).cell _ _ k0
                have k1n := (Kp.of_below hb).cell _ _ k1
                have k2n := (Kp.of_below hb).cell _ _ k2
                have k3n := (Kp.of_below hb).cell _ _ k3
                have k4n := (Kp.of_below hb).cell _ _ k4
                have HPcn := hid (HPc.out.later hb)
                clear hb HB k0 k1 k2 k3 k4 HPc
                have HB := HBn
                have k0 := k0n
                have k1 := k1n
                have k2 := k2n
                have k3 := k3n
                have k4 := k4n
                have HPc := HPcn
                clear HBn k0n k1n k2n k3n k4n HPcn
                go_wp2_with fail
                refine (refReplace_any sv _ _ sig r b (k : Int) wd (HS.out.kp (Kp.of_below HB.out)) (H3.out.kp (Kp.of_below HB.out)) (H1.out.kp (Kp.of_below HB.out)) (by omega) (by omega) (by omega)).mono ?_
                rintro e we ⟨vv2, rfl, ho, hb⟩
                have HV2 := hid ho.is
                clear ho
                have HBn := hid (below_step HB.out hb)
                have k0n := (Kp.of_below hb).cell _ _ k0
                have k1n := (Kp.of_below hb).cell _ _ k1
                have k2n := (Kp.of_below hb).cell _ _ k2
                have k3n := (Kp.of_below hb).cell _ _ k3
                have k4n := (Kp.of_below hb).cell _ _ k4
                have HU2n := hid (HU2.out.kp (Kp.of_below hb))
                have HPcn := hid (HPc.out.later hb)
                clear hb HB k0 k1 k2 k3 k4 HU2 HPc
                have HB := HBn
                have k0 := k0n
                have k1 := k1n
                have k2 := k2n
                have k3 := k3n
                have k4 := k4n
                have HU2 := HU2n
                have HPc := HPcn
                clear HBn k0n k1n k2n k3n k4n HU2n HPcn
                by_cases he2 : replE sig r (k : Int) a = 0
                · rw [he2]
                  by_cases hf2 : replE sig r (k : Int) b = 0
                  · rw [hf2]
                    have HX := hid (HKp.out he2 hf2)
                    clear he2 hf2
                    go_wp2_with fail
                    refine (lpoGreater_any sv _ _ _ sig ps _ _ we (HS.out.kp (Kp.of_below HB.out)) HPc.out HU2.out HV2.out (HT.out.below HB.out) HC.out).mono ?_
                    rintro e wf ⟨rfl, hb⟩
                    have HBn := hid (below_step HB.out hb)
                    have k0n := (Kp.of_below hb).cell _ _ k0
                    have k1n := (Kp.of_below hb).cell _ _ k1
                    have k2n := (Kp.of_below hb).cell _ _ k2
                    have k3n := (Kp.of_below hb).cell _ _ k3
                    have k4n := (Kp.of_below hb).cell _ _ k4
                    have HPcn := hid (HPc.out.later hb)
                    clear hb HB k0 k1 k2 k3 k4 HPc
                    have HB := HBn
                    have k0 := k0n
                    have k1 := k1n
                    have k2 := k2n
                    have k3 := k3n
                    have k4 := k4n
                    have HPc := HPcn
                    clear HBn k0n k1n k2n k3n k4n HPcn
                    rw [HX.out]
                    go_wp2
                    go_ret
                    exact ⟨rfl, HB.out⟩
                  · generalize replE sig r (k : Int) b = F at hf2 ⊢
                    have hfb : (F != 0) = true := by simpa using hf2
                    go_wp2
                    go_ret
                    exact ⟨rfl, HB.out⟩
                · generalize replE sig r (k : Int) b = F
                  generalize replE sig r (k : Int) a = E at he2 ⊢
                  have heb : (E != 0) = true := by simpa using he2
                  go_wp2
                  go_ret
                  exact ⟨rfl, HB.out⟩
              · skip
                obtain ⟨k, hk, hkl⟩ := rem_posL (t := n) hr0
                have hn0b : 0 ≤ n := by omega
                have hkt : n.tmod (r.length : Int) = (k : Int) := by rw [Int.tmod_eq_emod_of_nonneg hn0b]; exact hk
                have hwk : IntKind.i64.wrap (k : Int) = (k : Int) := IntWalk.i64_in _ ⟨by omega, by omega⟩
                have HKp := hid (fun h1 h2 => kept_round (k := k) HMr.out hkl HGr.out h1 h2)
                go_wp2_with fail
                refine (refReplace_any sv _ _ sig r a (k : Int) wc (HS.out.kp (Kp.of_below HB.out)) (H3.out.kp (Kp.of_below HB.out)) (H0.out.kp (Kp.of_below HB.out)) (by omega) (by omega) (by omega)).mono ?_
                rintro e wd ⟨uv2, rfl, ho, hb⟩
                have HU2 := hid ho.is
                clear ho
                have HBn := hid (below_step HB.out hb)
                have k0n := (Kp.of_below hb).cell _ _ k0
                have k1n := (Kp.of_below hb).cell _ _ k1
                have k2n := (Kp.of_below hb).cell _ _ k2
                have k3n := (Kp.of_below hb).cell _ _ k3
                have k4n := (Kp.of_below hb).cell _ _ k4
                have HPcn := hid (HPc.out.later hb)
                clear hb HB k0 k1 k2 k3 k4 HPc
                have HB := HBn
                have k0 := k0n
                have k1 := k1n
                have k2 := k2n
                have k3 := k3n
                have k4 := k4n
                have HPc := HPcn
                clear HBn k0n k1n k2n k3n k4n HPcn
                go_wp2_with fail
                refine (refReplace_any sv _ _ sig r b (k : Int) wd (HS.out.kp (Kp.of_below HB.out)) (H3.out.kp (Kp.of_below HB.out)) (H1.out.kp (Kp.of_below HB.out)) (by omega) (by omega) (by omega)).mono ?_
                rintro e we ⟨vv2, rfl, ho, hb⟩
                have HV2 := hid ho.is
                clear ho
                have HBn := hid (below_step HB.out hb)
                have k0n := (Kp.of_below hb).cell _ _ k0
                have k1n := (Kp.of_below hb).cell _ _ k1
                have k2n := (Kp.of_below hb).cell _ _ k2
                have k3n := (Kp.of_below hb).cell _ _ k3
                have k4n := (Kp.of_below hb).cell _ _ k4
                have HU2n := hid (HU2.out.kp (Kp.of_below hb))
                have HPcn := hid (HPc.out.later hb)
                clear hb HB k0 k1 k2 k3 k4 HU2 HPc
                have HB := HBn
                have k0 := k0n
                have k1 := k1n
                have k2 := k2n
                have k3 := k3n
                have k4 := k4n
                have HU2 := HU2n
                have HPc := HPcn
                clear HBn k0n k1n k2n k3n k4n HU2n HPcn
                by_cases he2 : replE sig r (k : Int) a = 0
                · rw [he2]
                  by_cases hf2 : replE sig r (k : Int) b = 0
                  · rw [hf2]
                    have HX := hid (HKp.out he2 hf2)
                    clear he2 hf2
                    go_wp2_with fail
                    refine (lpoGreater_any sv _ _ _ sig ps _ _ we (HS.out.kp (Kp.of_below HB.out)) HPc.out HU2.out HV2.out (HT.out.below HB.out) HC.out).mono ?_
                    rintro e wf ⟨rfl, hb⟩
                    have HBn := hid (below_step HB.out hb)
                    have k0n := (Kp.of_below hb).cell _ _ k0
                    have k1n := (Kp.of_below hb).cell _ _ k1
                    have k2n := (Kp.of_below hb).cell _ _ k2
                    have k3n := (Kp.of_below hb).cell _ _ k3
                    have k4n := (Kp.of_below hb).cell _ _ k4
                    have HPcn := hid (HPc.out.later hb)
                    clear hb HB k0 k1 k2 k3 k4 HPc
                    have HB := HBn
                    have k0 := k0n
                    have k1 := k1n
                    have k2 := k2n
                    have k3 := k3n
                    have k4 := k4n
                    have HPc := HPcn
                    clear HBn k0n k1n k2n k3n k4n HPcn
                    rw [HX.out]
                    go_wp2
                    go_ret
                    exact ⟨rfl, HB.out⟩
                  · generalize replE sig r (k : Int) b = F at hf2 ⊢
                    have hfb : (F != 0) = true := by simpa using hf2
                    go_wp2
                    go_ret
                    exact ⟨rfl, HB.out⟩
                · generalize replE sig r (k : Int) b = F
                  generalize replE sig r (k : Int) a = E at he2 ⊢
                  have heb : (E != 0) = true := by simpa using he2
                  go_wp2
                  go_ret
                  exact ⟨rfl, HB.out⟩
  · clear h0
    go_wp2_with fail
    refine (term11_any sv _ sig a w2 (HS.out.kp (Kp.of_below HB.out)) (H0.out.kp (Kp.of_below HB.out)) l0).mono ?_
    rintro e w3 ⟨rfl, hb⟩
    have HBn := hid (below_step HB.out hb)
    have k0n := (Kp.of_below hb).cell _ _ k0
    have k1n := (Kp.of_below hb).cell _ _ k1
    have k2n := (Kp.of_below hb).cell _ _ k2
    have k3n := (Kp.of_below hb).cell _ _ k3
    have k4n := (Kp.of_below hb).cell _ _ k4
    clear hb HB k0 k1 k2 k3 k4
    have HB := HBn
    have k0 := k0n
    have k1 := k1n
    have k2 := k2n
    have k3 := k3n
    have k4 := k4n
    clear HBn k0n k1n k2n k3n k4n
    go_wp2_with fail
    refine (term11_any sv _ sig b w3 (HS.out.kp (Kp.of_below HB.out)) (H1.out.kp (Kp.of_below HB.out)) l1).mono ?_
    rintro e w4 ⟨rfl, hb⟩
    have HBn := hid (below_step HB.out hb)
    have k0n := (Kp.of_below hb).cell _ _ k0
    have k1n := (Kp.of_below hb).cell _ _ k1
    have k2n := (Kp.of_below hb).cell _ _ k2
    have k3n := (Kp.of_below hb).cell _ _ k3
    have k4n := (Kp.of_below hb).cell _ _ k4
    clear hb HB k0 k1 k2 k3 k4
    have HB := HBn
    have k0 := k0n
    have k1 := k1n
    have k2 := k2n
    have k3 := k3n
    have k4 := k4n
    clear HBn k0n k1n k2n k3n k4n
    go_wp2
    go_ret
    exact ⟨rfl, HB.out⟩

end Go.Proofs.YthjghdpiokpnfaaDoor
