/- Texts of the proof, one behind the other. -/
import Derived.Test.YtdjmjhlbjcgoiaaGreatDoorOwn14
import Derived.Test.YtdjmjhlbjcgoiaaGreatDoorOwn13
import Derived.Test.YtdjmjhlbjcgoiaaGreatDoorOwn10
import Derived.Test.YtdjmjhlbjcgoiaaGreatDoorOwn9
import Derived.Deep.DeepAppendRoom
/- What the document's Mul answers. -/
namespace Go.Proofs.YtdjmjhlbjcgoiaaGreatDoor
open Go.RowKit Go.Maps

/-- A monomial laid into a variable of two cells. -/
theorem box_fin {W1 : World} {gb bs bo : Nat} {c x q0 q2 : Value} {cs : List Nat} {xs : List Int} (hc : Ow W1 bs c cs) (hx : OwI W1 bo x xs) (hs : Shp W1 gb 37 2) (h0 : W1.cell? ⟨gb, 0, none⟩ = some q0) (h1 : (W1.setCell ⟨gb, 0, none⟩ c).cell? ⟨gb, 1, none⟩ = some q2) :
    Hid ((((W1.setCell ⟨gb, 0, none⟩ c).setCell ⟨gb, 1, none⟩ x).cell? ⟨gb, 0, none⟩ = some c ∧ ((W1.setCell ⟨gb, 0, none⟩ c).setCell ⟨gb, 1, none⟩ x).cell? ⟨gb, 1, none⟩ = some x) ∧
      Ow ((W1.setCell ⟨gb, 0, none⟩ c).setCell ⟨gb, 1, none⟩ x) bs c cs ∧ OwI ((W1.setCell ⟨gb, 0, none⟩ c).setCell ⟨gb, 1, none⟩ x) bo x xs ∧ ∀ (B : Nat) (w : World), Below B w W1 → B ≤ gb → Below B w ((W1.setCell ⟨gb, 0, none⟩ c).setCell ⟨gb, 1, none⟩ x)) := by
  have hg : W1.grownBy ((W1.setCell ⟨gb, 0, none⟩ c).setCell ⟨gb, 1, none⟩ x) (some gb) := ⟨rfl, rfl, rfl, by simp [World.setCell], fun k _ hk => by
    have hk2 : k ≠ gb := fun e => hk (by rw [e])
    rw [heap_setCell_other _ _ _ _ hk2, heap_setCell_other _ _ _ _ hk2]⟩
  refine ⟨⟨?_, World.cell?_setCell_same _ _ _ h1⟩, hc.held hg (own_far hc.2 hs (by decide)), hx.kept hg (own_far hx.2 hs (by decide)), fun B w hb hle => (hb.setCell (p := ⟨gb, 0, none⟩) hle _).setCell (p := ⟨gb, 1, none⟩) hle _⟩
  rw [World.cell?_setCell_other _ _ _ _ (by simp)]
  exact World.cell?_setCell_same _ _ _ h0

theorem shp_new (w : World) (a b : Value) (t : TypeId) : Shp (w.alloc (.cells #[a, b] t)) w.heap.size t 2 := ⟨_, heap_alloc_new _ _, rfl⟩

set_option maxRecDepth 100000 in
set_option maxHeartbeats 6400000 in
theorem refMulP_any (A : Nat → Bool) (v u : Value) (p q : List Mn) (w : World) (h : Ms (onlyY A w) v p) (h' : Ms (onlyY A w) u q) (hA : ∀ g, w.heap.size ≤ g → A g = true) (hl : ∀ m ∈ p, m.2.length ≤ 4611686018427387904) (hl' : ∀ m ∈ q, m.2.length ≤ 4611686018427387904) :
    Calls Tryz.prog 151 #[v, u] w fun e w' => ∃ v', e = .returned (.tuple #[v', .int .i64 (mulPE p q)]) ∧ Ms (onlyY A w') v' (mulPL p q) ∧ Below w.heap.size w w' := by
  obtain ⟨ao, cap, rfl, hao, hca, q0⟩ := Row.flat h
  obtain ⟨bo, cap', rfl, hbo, hcb, q0'⟩ := Row.flat h'
  unfold maxLen at hca hcb
  have HP : Hid (Ms (onlyY A w) (.slice ao p.length cap) p) := h
  have HQ : Hid (Ms (onlyY A w) (.slice bo q.length cap') q) := h'
  have HA : Hid (∀ g, w.heap.size ≤ g → A g = true) := hA
  have HLp : Hid (checkR p 4611686018427387904 = checkE p 9223372036854775807) := by show _ = _; rw [checkR_eq, check_long hl]
  have HLq : Hid (checkR q 4611686018427387904 = checkE q 9223372036854775807) := by show _ = _; rw [checkR_eq, check_long hl']
  clear h h' q0 q0' hA hl hl'
  go_enter Tryz.func151, Tryz.ntmps151
  go_wp2_with fail
  refine (refCheck_anyY _ p 4611686018427387904 _ (HP.out.kp (only_kp A w)) (by omega) (by omega)).mono ?_
  rw [HLp.out]
  rintro e w1 ⟨rfl, hb1⟩
  have HB1 : Hid (Below w.heap.size w w1) := hb1
  clear hb1
  by_cases hp0 : checkE p 9223372036854775807 = 0
  · rw [hp0]
    go_wp2_with fail
    refine (refCheck_anyY _ q 4611686018427387904 _ (HQ.out.kp ((only_kp A w).trans (Kp.of_below HB1.out))) (by omega) (by omega)).mono ?_
    rw [HLq.out]
    rintro e w2 ⟨rfl, hb2⟩
    have HB2 : Hid (Below w.heap.size w w2) := below_step HB1.out hb2
    clear hb2 HB1
    by_cases hq0 : checkE q 9223372036854775807 = 0
    · rw [hq0]
      have hpp : Pol p := Pol.of HP.out.limA (by decide) hp0
      have hqq : Pol q := Pol.of HQ.out.limA (by decide) hq0
      obtain ⟨_, _, f1, f2⟩ := addP_of hp0 hq0
      have HR : Hid (mulR q [] p = if prodE p q = 0 then some (prodL p q) else none) := mulR_eq hpp hqq
      have HE : Hid (prodE p q = 0 ∨ prodE p q = 2 ∧ prodL p q = []) := by
        rcases prod_spec hpp hqq with ⟨e, _⟩ | ⟨e, _, e2⟩
        · exact .inl e
        · exact .inr ⟨e, e2⟩
      have hplen := hpp.len
      have hqlen := hqq.len
      have HDp : Hid (DomM p) := hpp.dom
      have HDq : Hid (DomM q) := hqq.dom
      have HF : Hid (mulPE p q = prodE p q ∧ mulPL p q = prodL p q) := ⟨f1, f2⟩
      have HNo : Hid (mulR q [] p = none → mulPE p q = 2 ∧ mulPL p q = []) := fun hn => by
        rcases HE.out with h0 | h0
        · have := HR.out
          rw [if_pos h0, hn] at this
          cases this
        · exact ⟨HF.out.1.trans h0.1, HF.out.2.trans h0.2⟩
      have HYes : Hid (∀ O, mulR q [] p = some O → mulPE p q = 0 ∧ mulPL p q = O) := fun O hs => by
        have := HR.out
        rw [hs] at this
        split at this
        · cases this
          exact ⟨HF.out.1.trans (by assumption), HF.out.2⟩
        · cases this
      clear hpp hqq f1 f2 HE HR HF
      go_wp2
      go_loopw [7, 8] (fun x i wr => ∃ (k : Nat) (O : List Mn), k ≤ p.length ∧ O.length ≤ 256 ∧ i = .int .i64 k ∧ Ms (onlyY A wr) x O ∧ mulR q [] p = mulR q O (p.drop k) ∧ Below w.heap.size w wr) (fun _ i _ => p.length - (intOf i).toNat)
      case atStart => exact ⟨0, [], Nat.zero_le _, by simp, rfl, Row.nil (Nat.zero_le _), rfl, below_step HB2.out (below_alloc _)⟩
      case round =>
        obtain ⟨k, O, hk, hO, rfl, hms, hmul, hbl⟩ := hrel
        obtain ⟨wA, rfl⟩ : ∃ X, X = wr := ⟨wr, rfl⟩
        have HMs : Hid (Ms (onlyY A wA) u7 O) := hms
        have HMu : Hid (mulR q [] p = mulR q O (p.drop k)) := hmul
        have HB : Hid (Below w.heap.size w wA) := hbl
        clear hms hmul hbl
        by_cases hlt : k < p.length
        · obtain ⟨g, off, c, es, a1, c1, a2, c2, rfl, hm1, hc0', hc1', hmo, hn1, hn2, hn3, hn4⟩ := HP.out.at hlt
          have HX : Hid (p[k]? = some (c, es)) := hm1
          have HMp : Hid (Mo (onlyY A w) (.slice a1 c.length c1) (.slice a2 es.length c2) (c, es)) := hmo
          have HC0 : Hid ((onlyY A w).cell? ⟨g, off + k * 2, none⟩ = some (.slice a1 c.length c1)) := hc0'
          have HC1 : Hid ((onlyY A w).cell? ⟨g, off + k * 2 + 1, none⟩ = some (.slice a2 es.length c2)) := hc1'
          have HIn : Hid (mulR q [] p = match mulInR (c, es) O (q.drop 0) with | none => none | some r => mulR q r (p.drop (k + 1))) := by
            show _ = _
            rw [HMu.out, drop_getY HX.out]
            rfl
          clear hm1 hmo hc0' hc1'
          go_wp2
          go_loopw [7, 9] (fun x i ws => ∃ (l : Nat) (O2 : List Mn), l ≤ q.length ∧ O2.length ≤ 256 ∧ i = .int .i64 l ∧ Ms (onlyY A ws) x O2 ∧ (mulR q [] p = match mulInR (c, es) O2 (q.drop l) with | none => none | some r => mulR q r (p.drop (k + 1))) ∧ Below w.heap.size w ws) (fun _ i _ => q.length - (intOf i).toNat)
          case atStart => exact ⟨0, O, Nat.zero_le _, hO, rfl, HMs.out, HIn.out, HB.out⟩
          case round =>
            clear HMs HMu HB HIn
            obtain ⟨l, O2, hl, hO2, rfl, hms, hmul, hbl⟩ := hrel
            obtain ⟨wB, rfl⟩ : ∃ X, X = wr := ⟨wr, rfl⟩
            have HMs : Hid (Ms (onlyY A wB) u7 O2) := hms
            have HIn : Hid (mulR q [] p = match mulInR (c, es) O2 (q.drop l) with | none => none | some r => mulR q r (p.drop (k + 1))) := hmul
            have HB : Hid (Below w.heap.size w wB) := hbl
            have KW : Kp (onlyY A w) wB := (only_kp A w).trans (Kp.of_below hbl)
            have hc0 := KW.cell _ _ HC0.out
            have hc1 := KW.cell _ _ HC1.out
            clear hms hmul hbl
            by_cases hll : l < q.length
            · obtain ⟨g2, off2, d, fs, b1, d1, b2, d2, rfl, hm1, he0', he1', hmo, hq1, hq2, hq3, hq4⟩ := HQ.out.at hll
              have he0 := KW.cell _ _ he0'
              have he1 := KW.cell _ _ he1'
              have HY : Hid (q[l]? = some (d, fs)) := hm1
              have HMq : Hid (Mo (onlyY A w) (.slice b1 d.length d1) (.slice b2 fs.length d2) (d, fs)) := hmo
              have HKW : Hid (Kp (onlyY A w) wB) := KW
              have hd : mulInR (c, es) O2 (q.drop l) = if timesB (c, es) (d, fs) = true then (match laidR O2 (mulMn (c, es) (d, fs)) with | none => none | some r => mulInR (c, es) r (q.drop (l + 1))) else none := by rw [drop_getY hm1]; rfl
              have HD : Hid (mulInR (c, es) O2 (q.drop l) = if timesB (c, es) (d, fs) = true then (match laidR O2 (mulMn (c, es) (d, fs)) with | none => none | some r => mulInR (c, es) r (q.drop (l + 1))) else none) := hd
              clear hm1 hmo he0' he1' KW hd
              go_wp2_with fail
              have hS : Below wB.heap.size wB wB.drew := (Below.refl _ _).drew
              refine wp_region_held_drew (S := fun w' => Below wB.heap.size wB w') (by kernel_rfl) hS (fun _ => ?_)
              obtain ⟨W0, hW0⟩ : ∃ X, X = wB.drew := ⟨_, rfl⟩
              rw [← hW0] at hS ⊢
              clear hW0
              refine wpAnyH_take (i := 0) (v := .slice (some ⟨g, off, none⟩) p.length cap) rfl (by kernel_rfl) (by kernel_rfl) (by kernel_rfl) (fun _ _ _ h => h) (Or.inl ⟨by rfl, fun w' _ => by go_simp⟩) hS ?_
              simp only [Act.put, List.setIfInBounds_toArray]
              refine wpAnyH_take (i := 1) (v := .int .i64 (k : Int)) rfl (by kernel_rfl) (by kernel_rfl) (by kernel_rfl) (fun _ _ _ h => h) (Or.inl ⟨by rfl, fun w' _ => by go_simp⟩) hS ?_
              simp only [Act.put]
              refine wpAnyH_take (i := 2) (v := .pointer (some ⟨g, off + k * 2, none⟩)) rfl (by kernel_rfl) (by kernel_rfl) (by kernel_rfl) (fun _ _ _ h => h) (Or.inl ⟨by rfl, fun w' _ => by go_simp⟩) hS ?_
              simp only [Act.put]
              refine wpAnyH_take (i := 3) (v := .agg #[.slice a1 c.length c1, .slice a2 es.length c2]) rfl (by kernel_rfl) (by kernel_rfl) (by kernel_rfl) (fun _ _ _ h => h) (Or.inl ⟨by rfl, fun w' h => by have hh := (Kp.of_below h).cell _ _ hc0; have hh2 := (Kp.of_below h).cell _ _ hc1; go_simp⟩) hS ?_
              simp only [Act.put]
              refine wpAnyH_take (i := 4) (v := .slice (some ⟨g2, off2, none⟩) q.length cap') rfl (by kernel_rfl) (by kernel_rfl) (by kernel_rfl) (fun _ _ _ h => h) (Or.inl ⟨by rfl, fun w' _ => by go_simp⟩) hS ?_
              simp only [Act.put]
              refine wpAnyH_take (i := 5) (v := .int .i64 (l : Int)) rfl (by kernel_rfl) (by kernel_rfl) (by kernel_rfl) (fun _ _ _ h => h) (Or.inl ⟨by rfl, fun w' _ => by go_simp⟩) hS ?_
              simp only [Act.put]
              refine wpAnyH_take (i := 6) (v := .pointer (some ⟨g2, off2 + l * 2, none⟩)) rfl (by kernel_rfl) (by kernel_rfl) (by kernel_rfl) (fun _ _ _ h => h) (Or.inl ⟨by rfl, fun w' _ => by go_simp⟩) hS ?_
              simp only [Act.put]
              refine wpAnyH_take (i := 7) (v := .agg #[.slice b1 d.length d1, .slice b2 fs.length d2]) rfl (by kernel_rfl) (by kernel_rfl) (by kernel_rfl) (fun _ _ _ h => h) (Or.inl ⟨by rfl, fun w' h => by have hh := (Kp.of_below h).cell _ _ he0; have hh2 := (Kp.of_below h).cell _ _ he1; go_simp⟩) hS ?_
              simp only [Act.put]
              refine wpAnyH_ready (rs := [8, 12]) (by kernel_rfl) (by simp) (AllReadyH.cons rfl (fun K hK => ?_) (AllReadyH.cons rfl (fun K hK => ?_) (AllReadyH.nil)))
              · skip
                go_simp
                refine (refTimes_any _ _ _ _ (c, es) (d, fs) _ (HMp.out.kp (HKW.out.trans (Kp.of_below hS))) (HMq.out.kp (HKW.out.trans (Kp.of_below hS))) (HDp.out _ _ HX.out) (HDq.out _ _ HY.out)).mono ?_
                rintro e W1 ⟨cv, ev, rfl, ocv, oev, hbs⟩
                refine hK.out _ _ (below_step hS hbs) (fun hS1 => ?_)
                clear hK K
                obtain ⟨co, nc, cc, rfl⟩ := ocv.slice
                obtain ⟨xo, xc, rfl, _, _⟩ := oev.shape
                obtain ⟨NX, hNX⟩ : ∃ N, N = (addX es fs).length := ⟨_, rfl⟩
                obtain ⟨T, hT⟩ : ∃ T, T = timesB (c, es) (d, fs) := ⟨_, rfl⟩
                rw [← hNX] at oev ⊢
                rw [← hT] at HD ⊢
                clear hNX hT
                have hAW : Hid (∀ g, W0.heap.size ≤ g → A g = true) := fun g hg => HA.out g (Nat.le_trans HB.out.size (Nat.le_trans hS.size hg))
                clear hS hbs
                have hS := hS1
                clear hS1
                refine wpAnyH_take (i := 9) (v := .tuple #[.agg #[.slice co nc cc, .slice xo NX xc], .bool T]) rfl (by kernel_rfl) (by kernel_rfl) (by kernel_rfl) (fun _ _ _ h => h) (Or.inl ⟨by rfl, fun w' _ => by go_simp⟩) hS ?_
                simp only [Act.put, List.setIfInBounds_toArray]
                refine wpAnyH_take (i := 10) (v := .agg #[.slice co nc cc, .slice xo NX xc]) rfl (by kernel_rfl) (by kernel_rfl) (by kernel_rfl) (fun _ _ _ h => h) (Or.inl ⟨by rfl, fun w' _ => by go_simp⟩) hS ?_
                simp only [Act.put]
                refine wpAnyH_take (i := 11) (v := .bool T) rfl (by kernel_rfl) (by kernel_rfl) (by kernel_rfl) (fun _ _ _ h => h) (Or.inl ⟨by rfl, fun w' _ => by go_simp⟩) hS ?_
                simp only [Act.put]
                refine wpAnyH_ready (rs := [12]) (by kernel_rfl) (by simp) (AllReadyH.cons rfl (fun K hK => ?_) (AllReadyH.nil))
                go_simp
                refine hK.out _ _ (below_step hS (below_alloc _)) (fun hS1 => ?_)
                clear hK K
                have hgb : wB.heap.size ≤ W1.heap.size := hS.size
                have hsb := shp_new W1 (.slice none 0 0) (.slice none 0 0) 37
                have ocv2 := ocv.since (below_alloc (.cells #[.slice none 0 0, .slice none 0 0] 37))
                have oev2 := oev.later (below_alloc (.cells #[.slice none 0 0, .slice none 0 0] 37))
                obtain ⟨gb, hgbe⟩ : ∃ X, X = W1.heap.size := ⟨_, rfl⟩
                rw [← hgbe] at hsb hgb ⊢
                clear ocv oev hS hgbe
                have hS := hS1
                clear hS1
                have ocv := ocv2
                have oev := oev2
                clear ocv2 oev2
                obtain ⟨W2, hW2⟩ : ∃ X, X = W1.alloc (.cells #[.slice none 0 0, .slice none 0 0] 37) := ⟨_, rfl⟩
                rw [← hW2] at hS hsb ocv oev ⊢
                clear hW2
                obtain ⟨⟨q0, hq0⟩, hq0f⟩ := hsb.cell (k := 0) (by omega)
                obtain ⟨⟨q2, hq2⟩, hq2f⟩ := (hsb.setCell (gb) 0 (.slice co nc cc)).cell (k := 1) (by omega)
                refine wpAnyH_ready (rs := [13]) (by kernel_rfl) (by simp) (AllReadyH.cons rfl (fun K hK => ?_) (AllReadyH.nil))
                go_simp
                have HFi := box_fin ocv oev hsb hq0 hq2
                refine hK.out _ _ (HFi.out.2.2.2 _ _ hS hgb) (fun hS1 => ?_)
                clear hK K hS
                have hS := hS1
                clear hS1
                refine wpAnyH_take (i := 14) (v := .bool T) rfl (by kernel_rfl) (by kernel_rfl) (by kernel_rfl) (fun _ _ _ h => h) (Or.inl ⟨by rfl, fun w' _ => by go_simp⟩) hS ?_
                simp only [Act.put, List.setIfInBounds_toArray]
                simp only [List.getElem_toArray, List.getElem_cons_succ, List.getElem_cons_zero, List.set_cons_zero, List.set_cons_succ]
                refine wpAnyH_done (by kernel_rfl) ?_ _
                have HMs1 : Hid (Ms (onlyY A _) u7 O2) := HMs.out.kp (only_below hS)
                have HB1 : Hid (Below w.heap.size w _) := below_step HB.out hS
                obtain ⟨f0, f1⟩ := HFi.out.1
                have HMt : Hid (Mo (onlyY A _) (.slice co nc cc) (.slice xo NX xc) (mulMn (c, es) (d, fs))) := ⟨Ow.sl (⟨HFi.out.2.1.1, only_owns HFi.out.2.1.2 hAW.out⟩ : Ow (onlyY A _) W0.heap.size _ _), OwI.is (⟨HFi.out.2.2.1.1, only_owns HFi.out.2.2.1.2 hAW.out⟩ : OwI (onlyY A _) W0.heap.size _ _)⟩
                obtain ⟨WF, hWF⟩ : ∃ X, X = ((W2.setCell ⟨gb, 0, none⟩ (.slice co nc cc)).setCell ⟨gb, 1, none⟩ (.slice xo NX xc)) := ⟨_, rfl⟩
                rw [← hWF] at HMs1 HB1 HMt f0 f1 ⊢
                clear hWF hS HFi ocv oev hsb hq0 hq0f hq2 hq2f hgb hc0 hc1 he0 he1 hAW
                cases T
                · have HFF : Hid (mulPE p q = 2 ∧ mulPL p q = []) := HNo.out (by rw [HIn.out, HD.out]; rfl)
                  clear HIn HD
                  go_wp2
                  go_ret2
                  exact ⟨_, ret2i HFF.out.1.symm, by rw [HFF.out.2]; exact Row.nil (Nat.zero_le _), HB1.out⟩
                · go_wp2_with fail
                  refine (refLaid_anyY A _ _ _ O2 (mulMn (c, es) (d, fs)) _ HMs1.out HMt.out hO2 (fun g hg => HA.out g (Nat.le_trans HB1.out.size hg))).mono ?_
                  rintro e w3 ⟨hb3, h3⟩
                  have HB3 : Hid (Below w.heap.size w w3) := below_step HB1.out hb3
                  rcases h3 with ⟨hnone, x3, rfl⟩ | ⟨r, hr, x3, rfl, hms3⟩
                  · have HFF : Hid (mulPE p q = 2 ∧ mulPL p q = []) := HNo.out (by rw [HIn.out, HD.out, if_pos trivial, hnone])
                    clear hnone hb3 HIn HD
                    go_wp2
                    go_ret2
                    exact ⟨_, ret2i HFF.out.1.symm, by rw [HFF.out.2]; exact Row.nil (Nat.zero_le _), HB3.out⟩
                  · have HIn3 : Hid (mulR q [] p = match mulInR (c, es) r (q.drop (l + 1)) with | none => none | some r => mulR q r (p.drop (k + 1))) := by
                      show _ = _
                      rw [HIn.out, HD.out, if_pos trivial, hr]
                    have HMs3 : Hid (Ms (onlyY A w3) x3 r) := hms3
                    have hlr := laidR_len hr
                    clear hr hms3 hb3 HIn HD
                    go_wp2
                    go_roundw
                    case rel => exact ⟨l + 1, r, by omega, hlr, by go_num, HMs3.out, HIn3.out, HB3.out⟩
                    case measure => simp [intOf]; omega
              · skip
                go_simp
                refine hK.out _ _ (below_step hS (below_alloc _)) (fun hS1 => ?_)
                clear hK K
                have hgb : wB.heap.size ≤ W0.heap.size := hS.size
                have hsb0 := shp_new W0 (.slice none 0 0) (.slice none 0 0) 37
                obtain ⟨gb, hgbe⟩ : ∃ X, X = W0.heap.size := ⟨_, rfl⟩
                rw [← hgbe] at hsb0 hgb ⊢
                clear hS hgbe
                have hS := hS1
                clear hS1
                obtain ⟨W2, hW2⟩ : ∃ X, X = W0.alloc (.cells #[.slice none 0 0, .slice none 0 0] 37) := ⟨_, rfl⟩
                rw [← hW2] at hS hsb0 ⊢
                clear hW2
                refine wpAnyH_ready (rs := [8]) (by kernel_rfl) (by simp) (AllReadyH.cons rfl (fun K hK => ?_) (AllReadyH.nil))
                go_simp
                refine (refTimes_any _ _ _ _ (c, es) (d, fs) _ (HMp.out.kp (HKW.out.trans (Kp.of_below hS))) (HMq.out.kp (HKW.out.trans (Kp.of_below hS))) (HDp.out _ _ HX.out) (HDq.out _ _ HY.out)).mono ?_
                rintro e W1 ⟨cv, ev, rfl, ocv, oev, hbs⟩
                refine hK.out _ _ (below_step hS hbs) (fun hS1 => ?_)
                clear hK K
                obtain ⟨co, nc, cc, rfl⟩ := ocv.slice
                obtain ⟨xo, xc, rfl, _, _⟩ := oev.shape
                obtain ⟨NX, hNX⟩ : ∃ N, N = (addX es fs).length := ⟨_, rfl⟩
                obtain ⟨T, hT⟩ : ∃ T, T = timesB (c, es) (d, fs) := ⟨_, rfl⟩
                rw [← hNX] at oev ⊢
                rw [← hT] at HD ⊢
                clear hNX hT
                have hAW : Hid (∀ g, W2.heap.size ≤ g → A g = true) := fun g hg => HA.out g (Nat.le_trans HB.out.size (Nat.le_trans hS.size hg))
                have hsb := (Spl.below (b := 0) (t := 0) hbs).shape _ _ _ hsb0
                clear hS hbs hsb0
                have hS := hS1
                clear hS1
                refine wpAnyH_take (i := 9) (v := .tuple #[.agg #[.slice co nc cc, .slice xo NX xc], .bool T]) rfl (by kernel_rfl) (by kernel_rfl) (by kernel_rfl) (fun _ _ _ h => h) (Or.inl ⟨by rfl, fun w' _ => by go_simp⟩) hS ?_
                simp only [Act.put, List.setIfInBounds_toArray]
                refine wpAnyH_take (i := 10) (v := .agg #[.slice co nc cc, .slice xo NX xc]) rfl (by kernel_rfl) (by kernel_rfl) (by kernel_rfl) (fun _ _ _ h => h) (Or.inl ⟨by rfl, fun w' _ => by go_simp⟩) hS ?_
                simp only [Act.put]
                refine wpAnyH_take (i := 11) (v := .bool T) rfl (by kernel_rfl) (by kernel_rfl) (by kernel_rfl) (fun _ _ _ h => h) (Or.inl ⟨by rfl, fun w' _ => by go_simp⟩) hS ?_
                simp only [Act.put]
                obtain ⟨⟨q0, hq0⟩, hq0f⟩ := hsb.cell (k := 0) (by omega)
                obtain ⟨⟨q2, hq2⟩, hq2f⟩ := (hsb.setCell (gb) 0 (.slice co nc cc)).cell (k := 1) (by omega)
                refine wpAnyH_ready (rs := [13]) (by kernel_rfl) (by simp) (AllReadyH.cons rfl (fun K hK => ?_) (AllReadyH.nil))
                go_simp
                have HFi := box_fin ocv oev hsb hq0 hq2
                refine hK.out _ _ (HFi.out.2.2.2 _ _ hS hgb) (fun hS1 => ?_)
                clear hK K hS
                have hS := hS1
                clear hS1
                refine wpAnyH_take (i := 14) (v := .bool T) rfl (by kernel_rfl) (by kernel_rfl) (by kernel_rfl) (fun _ _ _ h => h) (Or.inl ⟨by rfl, fun w' _ => by go_simp⟩) hS ?_
                simp only [Act.put, List.setIfInBounds_toArray]
                simp only [List.getElem_toArray, List.getElem_cons_succ, List.getElem_cons_zero, List.set_cons_zero, List.set_cons_succ]
                refine wpAnyH_done (by kernel_rfl) ?_ _
                have HMs1 : Hid (Ms (onlyY A _) u7 O2) := HMs.out.kp (only_below hS)
                have HB1 : Hid (Below w.heap.size w _) := below_step HB.out hS
                obtain ⟨f0, f1⟩ := HFi.out.1
                have HMt : Hid (Mo (onlyY A _) (.slice co nc cc) (.slice xo NX xc) (mulMn (c, es) (d, fs))) := ⟨Ow.sl (⟨HFi.out.2.1.1, only_owns HFi.out.2.1.2 hAW.out⟩ : Ow (onlyY A _) W2.heap.size _ _), OwI.is (⟨HFi.out.2.2.1.1, only_owns HFi.out.2.2.1.2 hAW.out⟩ : OwI (onlyY A _) W2.heap.size _ _)⟩
                obtain ⟨WF, hWF⟩ : ∃ X, X = ((W1.setCell ⟨gb, 0, none⟩ (.slice co nc cc)).setCell ⟨gb, 1, none⟩ (.slice xo NX xc)) := ⟨_, rfl⟩
                rw [← hWF] at HMs1 HB1 HMt f0 f1 ⊢
                clear hWF hS HFi ocv oev hsb hq0 hq0f hq2 hq2f hgb hc0 hc1 he0 he1 hAW
                cases T
                · have HFF : Hid (mulPE p q = 2 ∧ mulPL p q = []) := HNo.out (by rw [HIn.out, HD.out]; rfl)
                  clear HIn HD
                  go_wp2
                  go_ret2
                  exact ⟨_, ret2i HFF.out.1.symm, by rw [HFF.out.2]; exact Row.nil (Nat.zero_le _), HB1.out⟩
                · go_wp2_with fail
                  refine (refLaid_anyY A _ _ _ O2 (mulMn (c, es) (d, fs)) _ HMs1.out HMt.out hO2 (fun g hg => HA.out g (Nat.le_trans HB1.out.size hg))).mono ?_
                  rintro e w3 ⟨hb3, h3⟩
                  have HB3 : Hid (Below w.heap.size w w3) := below_step HB1.out hb3
                  rcases h3 with ⟨hnone, x3, rfl⟩ | ⟨r, hr, x3, rfl, hms3⟩
                  · have HFF : Hid (mulPE p q = 2 ∧ mulPL p q = []) := HNo.out (by rw [HIn.out, HD.out, if_pos trivial, hnone])
                    clear hnone hb3 HIn HD
                    go_wp2
                    go_ret2
                    exact ⟨_, ret2i HFF.out.1.symm, by rw [HFF.out.2]; exact Row.nil (Nat.zero_le _), HB3.out⟩
                  · have HIn3 : Hid (mulR q [] p = match mulInR (c, es) r (q.drop (l + 1)) with | none => none | some r => mulR q r (p.drop (k + 1))) := by
                      show _ = _
                      rw [HIn.out, HD.out, if_pos trivial, hr]
                    have HMs3 : Hid (Ms (onlyY A w3) x3 r) := hms3
                    have hlr := laidR_len hr
                    clear hr hms3 hb3 HIn HD
                    go_wp2
                    go_roundw
                    case rel => exact ⟨l + 1, r, by omega, hlr, by go_num, HMs3.out, HIn3.out, HB3.out⟩
                    case measure => simp [intOf]; omega
            · have hle : l = q.length := by omega
              subst hle
              have HMu : Hid (mulR q [] p = mulR q O2 (p.drop (k + 1))) := by
                show _ = _
                rw [HIn.out, List.drop_of_length_le (Nat.le_refl _)]
                rfl
              clear HIn KW hc0 hc1
              go_wp2
              go_roundw
              case rel => exact ⟨k + 1, O2, by omega, hO2, by go_num, HMs.out, HMu.out, HB.out⟩
              case measure => simp [intOf]; omega
        · have hke : k = p.length := by omega
          subst hke
          have HFF : Hid (mulPE p q = 0 ∧ mulPL p q = O) := HYes.out O (by rw [HMu.out, List.drop_of_length_le (Nat.le_refl _)]; rfl)
          clear HMu
          go_wp2
          go_ret2
          exact ⟨_, ret2i HFF.out.1.symm, by rw [HFF.out.2]; exact HMs.out, HB.out⟩
    · have HF := addP_second (p := p) hp0 hq0
      obtain ⟨E, hE⟩ : ∃ E, E = checkE q 9223372036854775807 := ⟨_, rfl⟩
      have HF2 : Hid (mulPE p q = E ∧ mulPL p q = []) := by show _ ∧ _; rw [hE]; exact ⟨HF.2.2.1, HF.2.2.2⟩
      rw [← hE] at hq0 ⊢
      clear hE HF
      go_wp2
      go_ret2
      exact ⟨_, ret2i HF2.out.1.symm, by rw [HF2.out.2]; exact Row.nil (Nat.zero_le _), HB2.out⟩
  · have HF := addP_first (q := q) hp0
    obtain ⟨E, hE⟩ : ∃ E, E = checkE p 9223372036854775807 := ⟨_, rfl⟩
    have HF2 : Hid (mulPE p q = E ∧ mulPL p q = []) := by show _ ∧ _; rw [hE]; exact ⟨HF.2.2.1, HF.2.2.2⟩
    rw [← hE] at hp0 ⊢
    clear hE HF
    go_wp2
    go_ret2
    exact ⟨_, ret2i HF2.out.1.symm, by rw [HF2.out.2]; exact Row.nil (Nat.zero_le _), HB1.out⟩

end Go.Proofs.YtdjmjhlbjcgoiaaGreatDoor

/- Powers by squaring and products one factor at a time are in bounds alike: plain data. -/
namespace Go.Proofs.YtdjmjhlbjcgoiaaGreatDoor
open Go.RowKit Go.Maps

/-- Terms with whole keys, none of them nought. -/
def GT (T : Tm) : Prop := ∀ t ∈ T, t.1.length = 512 ∧ 1 ≤ t.2

theorem gt_mul {S T : Tm} (hS : GT S) (hT : GT T) : GT (mulT S T) := by
  intro t ht
  unfold mulT at ht
  obtain ⟨s, hs, ht⟩ := List.mem_flatMap.1 ht
  obtain ⟨u, hu, rfl⟩ := List.mem_map.1 ht
  obtain ⟨a1, a2⟩ := hS s hs
  obtain ⟨b1, b2⟩ := hT u hu
  refine ⟨?_, Nat.mul_pos a2 b2⟩
  unfold addK
  rw [List.length_zipWith, a1, b1]
  rfl

theorem gt_ofP {p : List Mn} (h : Pol p) : GT (ofP p) := by
  intro t ht
  obtain ⟨m, hm, rfl⟩ := List.mem_map.1 ht
  obtain ⟨j, hj⟩ := List.mem_iff_getElem?.1 hm
  obtain ⟨g1, g2, g3, _⟩ := h.good hm
  exact ⟨keyX_len (h.dom j m hj).1, val_pos g1 g2 g3⟩

theorem mul_ne {S T : Tm} (hS : S ≠ []) (hT : T ≠ []) : mulT S T ≠ [] := by
  cases S with
  | nil => exact absurd rfl hS
  | cons s S =>
    cases T with
    | nil => exact absurd rfl hT
    | cons t T =>
      rw [mulT_cons]
      simp

theorem tot_pos_mem {T : Tm} {k : List Nat} : 1 ≤ tot T k → ∃ t ∈ T, t.1 = k := by
  induction T with
  | nil => intro h; simp [tot] at h
  | cons t T ih =>
    intro h
    simp only [tot] at h
    by_cases e : t.1 = k
    · exact ⟨t, by simp, e⟩
    · rw [if_neg e, Nat.zero_add] at h
      obtain ⟨u, hu, hk⟩ := ih h
      exact ⟨u, List.mem_cons_of_mem _ hu, hk⟩

/-- A total goes on in a product with a term. -/
theorem tot_shift {u : List Nat × Nat} (hu : 1 ≤ u.2) (T : Tm) (hT : GT T) (k : List Nat) : tot T k ≤ tot (T.map fun t => (addK t.1 u.1, t.2 * u.2)) (addK k u.1) := by
  induction T with
  | nil => simp [tot]
  | cons t T ih =>
    have ih := ih fun x hx => hT x (List.mem_cons_of_mem _ hx)
    simp only [List.map_cons, tot]
    by_cases e : t.1 = k
    · subst e
      rw [if_pos rfl, if_pos rfl]
      have : t.2 * 1 ≤ t.2 * u.2 := Nat.mul_le_mul_left _ hu
      omega
    · rw [if_neg e]
      omega

theorem tot_mul_ge {S T : Tm} {u : List Nat × Nat} (hu : u ∈ T) (hT : GT T) (hS : GT S) (k : List Nat) : tot S k ≤ tot (mulT S T) (addK k u.1) := by
  have h1 := tot_shift (hT u hu).2 S hS k
  refine Nat.le_trans h1 ?_
  clear h1
  obtain ⟨a, b, rfl⟩ := List.append_of_mem hu
  have h2 : ∀ (l : Tm) (k' : List Nat), tot (mulT S (u :: l)) k' = tot (S.map fun t => (addK t.1 u.1, t.2 * u.2)) k' + tot (mulT S l) k' := fun l k' => mulT_cons_right u l k' S
  have h3 : ∀ (a l : Tm) (k' : List Nat), tot (mulT S l) k' ≤ tot (mulT S (a ++ l)) k' := by
    intro a
    induction a with
    | nil => intro l k'; exact Nat.le_refl _
    | cons x a ih =>
      intro l k'
      have := mulT_cons_right x (a ++ l) k' S
      rw [List.cons_append, this]
      have := ih l k'
      omega
  have h4 := h3 a (u :: b) (addK k u.1)
  have h5 := h2 b (addK k u.1)
  omega

theorem addK_inj {a b c : List Nat} (ha : a.length = 512) (hb : b.length = 512) (hc : c.length = 512) (h : addK a c = addK b c) : a = b := by
  apply List.ext_getElem?
  intro i
  by_cases hi : i < 512
  · have e : (addK a c)[i]? = (addK b c)[i]? := by rw [h]
    rw [List.getElem?_eq_getElem (by omega), List.getElem?_eq_getElem (by omega)]
    have ea := addK_get (a := a) (b := c) (k := i) (List.getElem?_eq_getElem (by omega)) (List.getElem?_eq_getElem (by omega))
    have eb := addK_get (a := b) (b := c) (k := i) (List.getElem?_eq_getElem (by omega)) (List.getElem?_eq_getElem (by omega))
    rw [ea, eb] at e
    simp only [Option.some.injEq] at e
    congr 1
    omega
  · rw [List.getElem?_eq_none (by omega), List.getElem?_eq_none (by omega)]

theorem nodup_map_on {α β : Type} {f : α → β} : ∀ {l : List α}, (∀ x ∈ l, ∀ y ∈ l, f x = f y → x = y) → l.Nodup → (l.map f).Nodup
  | [], _, _ => by simp
  | a :: l, hf, hn => by
    rw [List.nodup_cons] at hn
    rw [List.map_cons, List.nodup_cons]
    refine ⟨fun h => ?_, nodup_map_on (fun x hx y hy => hf x (List.mem_cons_of_mem _ hx) y (List.mem_cons_of_mem _ hy)) hn.2⟩
    obtain ⟨b, hb, e⟩ := List.mem_map.1 h
    have := hf b (List.mem_cons_of_mem _ hb) a (by simp) e
    rw [this] at hb
    exact hn.1 hb

/-- Where a product with what is not nought is in bounds, so is what was multiplied. -/
theorem ok_left {S T : Tm} (hS : GT S) (hT : GT T) (hne : T ≠ []) (h : OkF (tot (mulT S T))) : OkF (tot S) := by
  obtain ⟨u, hu⟩ := List.exists_mem_of_ne_nil T hne
  have hul := (hT u hu).1
  have hle := tot_mul_ge hu hT hS
  refine ⟨fun k => Nat.lt_of_le_of_lt (hle k) (h.1 _), fun k hk x hx => ?_, fun l hl hk => ?_⟩
  · obtain ⟨t, ht, rfl⟩ := tot_pos_mem hk
    have htl := (hS t ht).1
    obtain ⟨i, hi⟩ := List.mem_iff_getElem?.1 hx
    have hi2 := (List.getElem?_eq_some_iff.1 hi).1
    have e := addK_get (a := t.1) (b := u.1) (k := i) hi (List.getElem?_eq_getElem (by omega))
    have := h.2.1 (addK t.1 u.1) (Nat.le_trans hk (hle _)) _ (List.mem_of_getElem? e)
    omega
  · have hlen : ∀ k ∈ l, k.length = 512 := fun k hkl => by
      obtain ⟨t, ht, e⟩ := tot_pos_mem (hk k hkl)
      rw [← e]
      exact (hS t ht).1
    have h2 := h.2.2 (l.map fun k => addK k u.1) (nodup_map_on (fun x hx y hy e => addK_inj (hlen x hx) (hlen y hy) hul e) hl) (fun k' hk' => by
      obtain ⟨k, hkl, rfl⟩ := List.mem_map.1 hk'
      exact Nat.le_trans (hk k hkl) (hle k))
    rw [List.length_map] at h2
    exact h2

theorem ok_right {S T : Tm} (hS : GT S) (hT : GT T) (hne : S ≠ []) (h : OkF (tot (mulT S T))) : OkF (tot T) := by
  rw [mul_comm_tot] at h
  exact ok_left hT hS hne h

/-- The power of one more. -/
def pwT (f : Tm) : Nat → Tm
  | 0 => f
  | n + 1 => mulT (pwT f n) f

theorem pwT_add (f : Tm) (a : Nat) : ∀ b, mulT (pwT f a) (pwT f b) = pwT f (a + b + 1)
  | 0 => rfl
  | b + 1 => by
    show mulT (pwT f a) (mulT (pwT f b) f) = mulT (pwT f (a + b + 1)) f
    rw [← mulT_assoc, pwT_add f a b]

theorem gt_pwT {f : Tm} (h : GT f) : ∀ n, GT (pwT f n)
  | 0 => h
  | n + 1 => gt_mul (gt_pwT h n) h

theorem pwT_ne {f : Tm} (h : f ≠ []) : ∀ n, pwT f n ≠ []
  | 0 => h
  | n + 1 => mul_ne (pwT_ne h n) h

theorem pwT_mono {f : Tm} (hf : GT f) (hne : f ≠ []) {j k : Nat} (h : j ≤ k) (ho : OkF (tot (pwT f k))) : OkF (tot (pwT f j)) := by
  by_cases e : j = k
  · rw [e]; exact ho
  · obtain ⟨d, rfl⟩ : ∃ d, k = j + d + 1 := ⟨k - j - 1, by omega⟩
    rw [← pwT_add] at ho
    exact ok_left (gt_pwT hf j) (gt_pwT hf d) (pwT_ne hne d) ho

/-- The polynomial p has the totals of the terms T. -/
structure Rp (p : List Mn) (T : Tm) : Prop where
  pol : Pol p
  chk : checkE p 9223372036854775807 = 0
  tots : tot (ofP p) = tot T

theorem Rp.ok {p : List Mn} {T : Tm} (h : Rp p T) : OkF (tot T) := by
  obtain ⟨_, _, _, _, ho⟩ := h.pol.st
  rw [← h.tots]
  exact ho

theorem Rp.mul {p q : List Mn} {S T : Tm} (hp : Rp p S) (hq : Rp q T) : (prodE p q = 0 ∧ OkF (tot (mulT S T)) ∧ Rp (prodL p q) (mulT S T)) ∨ (prodE p q = 2 ∧ ¬ OkF (tot (mulT S T))) := by
  have e : tot (mulT (ofP p) (ofP q)) = tot (mulT S T) := (mul_congr_left hp.tots).trans (mul_congr_right hq.tots)
  by_cases ho : OkF (tot (mulT S T))
  · rw [← e] at ho
    obtain ⟨a, b, c, d⟩ := prod_yes hp.pol hq.pol ho
    exact .inl ⟨a, e ▸ ho, b, c, d.trans e⟩
  · rw [← e] at ho
    exact .inr ⟨(prod_no hp.pol hq.pol ho).1, e ▸ ho⟩

theorem Rp.eq {p q : List Mn} {T : Tm} (hp : Rp p T) (hq : Rp q T) : p = q := hp.pol.eq hq.pol (hp.tots.trans hq.tots.symm)

/-- A power by squaring. -/
theorem pow_ring {f : List Mn} {F : Tm} (hf : Rp f F) (hF : GT F) (hne : F ≠ []) {n : Nat} : ∀ (b : Nat) (out : List Mn) (j : Nat), Rp out (pwT F j) → j + 1 = n / 2 ^ b →
    (OkF (tot (pwT F (n - 1))) → (powGo prodL prodE [] f n b out).2 = 0 ∧ Rp (powGo prodL prodE [] f n b out).1 (pwT F (n - 1))) ∧ (¬ OkF (tot (pwT F (n - 1))) → (powGo prodL prodE [] f n b out).2 = 2)
  | 0, out, j, ho, hj => by
    rw [Nat.pow_zero, Nat.div_one] at hj
    have e : n - 1 = j := by omega
    rw [e]
    exact ⟨fun _ => ⟨rfl, ho⟩, fun h => absurd ho.ok h⟩
  | b + 1, out, j, ho, hj => by
    have hb2 : n / 2 ^ (b + 1) = n / 2 ^ b / 2 := by rw [Nat.pow_succ, Nat.div_div_eq_div_mul]
    have hn : n / 2 ^ b ≤ n := Nat.div_le_self _ _
    unfold powGo
    have hsq : mulT (pwT F j) (pwT F j) = pwT F (2 * j + 1) := by rw [pwT_add]; congr 1; omega
    rcases ho.mul ho with ⟨e1, o1, r1⟩ | ⟨e1, o1⟩
    · rw [if_pos e1]
      rw [hsq] at r1
      by_cases hbit : n / 2 ^ b % 2 = 1
      · rw [if_pos hbit]
        have hst : mulT (pwT F (2 * j + 1)) F = pwT F (2 * j + 2) := rfl
        rcases r1.mul hf with ⟨e2, o2, r2⟩ | ⟨e2, o2⟩
        · rw [if_pos e2]
          rw [hst] at r2
          exact pow_ring hf hF hne b _ (2 * j + 2) r2 (by omega)
        · rw [if_neg (by rw [e2]; decide)]
          rw [hst] at o2
          exact ⟨fun h => absurd (pwT_mono hF hne (by omega) h) o2, fun _ => e2⟩
      · rw [if_neg hbit]
        exact pow_ring hf hF hne b _ (2 * j + 1) r1 (by omega)
    · rw [if_neg (by rw [e1]; decide)]
      rw [hsq] at o1
      exact ⟨fun h => absurd (pwT_mono hF hne (by omega) h) o1, fun _ => e1⟩

/-- Times a row of powers. -/
def wT : List Int → List (List Mn) → Tm → Tm
  | n :: es, f :: fs, C => if n = 0 then wT es fs C else wT es fs (mulT C (pwT (ofP f) (n.toNat - 1)))
  | [], _, C => C
  | _ :: _, [], C => C

theorem ofP_ne {p : List Mn} (h : ¬ p.length = 0) : ofP p ≠ [] := by
  cases p with
  | nil => exact absurd rfl h
  | cons m p => simp [ofP]

theorem wT_good : ∀ {es : List Int} {fs : List (List Mn)} {C : Tm}, (∀ f ∈ fs, Pol f) → (∀ x ∈ es, 0 ≤ x) → noughtB es fs = false → GT C → C ≠ [] → OkF (tot (wT es fs C)) → OkF (tot C)
  | [], _, C, _, _, _, _, _, h => h
  | _ :: _, [], C, _, _, _, _, _, h => h
  | n :: es, f :: fs, C, hf, hx, hn, hC, hne, h => by
    have hn2 : (decide (0 < n) && f.length == 0) = false ∧ noughtB es fs = false := by
      simp only [noughtB, List.zip_cons_cons, List.any_cons, Bool.or_eq_false_iff] at hn
      exact hn
    unfold wT at h
    by_cases h0 : n = 0
    · rw [if_pos h0] at h
      exact wT_good (fun x hx => hf x (List.mem_cons_of_mem _ hx)) (fun x hx' => hx x (List.mem_cons_of_mem _ hx')) hn2.2 hC hne h
    · rw [if_neg h0] at h
      have hpos : 0 < n := by have := hx n (by simp); omega
      have hfl : ¬ f.length = 0 := fun e => by
        have := hn2.1
        rw [decide_eq_true hpos, e] at this
        exact absurd this (by decide)
      have hg := gt_pwT (gt_ofP (hf f (by simp))) (n.toNat - 1)
      have hp := pwT_ne (ofP_ne hfl) (n.toNat - 1)
      exact ok_left hC hg hp (wT_good (fun x hx => hf x (List.mem_cons_of_mem _ hx)) (fun x hx' => hx x (List.mem_cons_of_mem _ hx')) hn2.2 (gt_mul hC hg) (mul_ne hne hp) h)

/-- Worth, by powers. -/
theorem worth_ring : ∀ {es : List Int} {fs : List (List Mn)} {c : List Mn} {C : Tm}, (∀ f ∈ fs, Ch f) → (∀ x ∈ es, 0 ≤ x ∧ x ≤ 64) → noughtB es fs = false → Rp c C → GT C → C ≠ [] →
    (OkF (tot (wT es fs C)) → (worthGo prodL prodE es fs c).2 = 0 ∧ Rp (worthGo prodL prodE es fs c).1 (wT es fs C)) ∧ (¬ OkF (tot (wT es fs C)) → (worthGo prodL prodE es fs c).2 = 2)
  | [], _, c, C, _, _, _, hc, _, _ => by
    unfold worthGo wT
    exact ⟨fun _ => ⟨rfl, hc⟩, fun h => absurd hc.ok h⟩
  | _ :: _, [], c, C, _, _, _, hc, _, _ => by
    unfold worthGo wT
    exact ⟨fun _ => ⟨rfl, hc⟩, fun h => absurd hc.ok h⟩
  | n :: es, f :: fs, c, C, hf, hx, hn, hc, hC, hne => by
    have hn2 : (decide (0 < n) && f.length == 0) = false ∧ noughtB es fs = false := by
      simp only [noughtB, List.zip_cons_cons, List.any_cons, Bool.or_eq_false_iff] at hn
      exact hn
    have hf2 : ∀ g ∈ fs, Ch g := fun x hx => hf x (List.mem_cons_of_mem _ hx)
    have hf3 : ∀ g ∈ fs, Pol g := fun x hx => (hf2 x hx).1
    have hx2 : ∀ x ∈ es, 0 ≤ x ∧ x ≤ 64 := fun x hx' => hx x (List.mem_cons_of_mem _ hx')
    have hx3 : ∀ x ∈ es, 0 ≤ x := fun x hx' => (hx2 x hx').1
    unfold worthGo wT
    by_cases h0 : n = 0
    · rw [if_pos h0, if_pos h0]
      exact worth_ring hf2 hx2 hn2.2 hc hC hne
    · rw [if_neg h0, if_neg h0]
      have hb := hx n (by simp)
      have hfl : ¬ f.length = 0 := fun e => by
        have := hn2.1
        rw [decide_eq_true (show 0 < n by omega), e] at this
        exact absurd this (by decide)
      have hfc := hf f (by simp)
      have hrf : Rp f (ofP f) := ⟨hfc.1, hfc.2, rfl⟩
      have hgf := gt_ofP hfc.1
      have hnf := ofP_ne hfl
      have hg := gt_pwT hgf (n.toNat - 1)
      have hp := pwT_ne hnf (n.toNat - 1)
      obtain ⟨p1, p2⟩ := pow_ring hrf hgf hnf (n := n.toNat) (Lib.bitLen n.toNat - 1) f 0 hrf (by rw [bit_top (by omega) (by omega)])
      by_cases ho : OkF (tot (pwT (ofP f) (n.toNat - 1)))
      · obtain ⟨q1, q2⟩ := p1 ho
        rw [if_pos q1]
        rcases hc.mul q2 with ⟨e2, o2, r2⟩ | ⟨e2, o2⟩
        · rw [if_pos e2]
          exact worth_ring hf2 hx2 hn2.2 r2 (gt_mul hC hg) (mul_ne hne hp)
        · rw [if_neg (by rw [e2]; decide)]
          exact ⟨fun h => absurd (wT_good hf3 hx3 hn2.2 (gt_mul hC hg) (mul_ne hne hp) h) o2, fun _ => e2⟩
      · have q1 := p2 ho
        rw [if_neg (by rw [q1]; decide)]
        refine ⟨fun h => absurd (ok_right hC hg hne (wT_good hf3 hx3 hn2.2 (gt_mul hC hg) (mul_ne hne hp) h)) ho, fun _ => q1⟩

/-- The document's factors, one at a time. -/
def mulN (f : List Mn) : Nat → List Mn → List Mn × Int
  | 0, x => (x, 0)
  | n + 1, x => if mulPE x f = 0 then mulN f n (mulPL x f) else ([], mulPE x f)

def facR : List Int → List (List Mn) → List Mn → List Mn × Int
  | n :: es, f :: fs, x => if (mulN f n.toNat x).2 = 0 then facR es fs (mulN f n.toNat x).1 else ([], (mulN f n.toNat x).2)
  | [], _, x => (x, 0)
  | _ :: _, [], x => (x, 0)

theorem mulN_ring {f : List Mn} (hf : Ch f) (hne : ¬ f.length = 0) : ∀ (n : Nat) {x : List Mn} {X : Tm}, Rp x X → GT X → X ≠ [] →
    (OkF (tot (mulT X (pwT (ofP f) n))) → (mulN f (n + 1) x).2 = 0 ∧ Rp (mulN f (n + 1) x).1 (mulT X (pwT (ofP f) n))) ∧ (¬ OkF (tot (mulT X (pwT (ofP f) n))) → (mulN f (n + 1) x).2 = 2)
  | n, x, X, hx, hX, hXn => by
    have hrf : Rp f (ofP f) := ⟨hf.1, hf.2, rfl⟩
    have hgf := gt_ofP hf.1
    have hnf := ofP_ne hne
    obtain ⟨_, _, f1, f2⟩ := addP_of hx.chk hf.2
    unfold mulN
    rw [f1, f2]
    cases n with
    | zero =>
      rcases hx.mul hrf with ⟨e, o, r⟩ | ⟨e, o⟩
      · rw [if_pos e]
        exact ⟨fun _ => ⟨rfl, r⟩, fun h => absurd o h⟩
      · rw [if_neg (by rw [e]; decide)]
        exact ⟨fun h => absurd h o, fun _ => e⟩
    | succ n =>
      have hst : mulT (mulT X (ofP f)) (pwT (ofP f) n) = mulT X (pwT (ofP f) (n + 1)) := by
        rw [mulT_assoc]
        congr 1
        have := pwT_add (ofP f) 0 n
        rw [show 0 + n + 1 = n + 1 by omega] at this
        exact this
      rcases hx.mul hrf with ⟨e, o, r⟩ | ⟨e, o⟩
      · rw [if_pos e]
        have := mulN_ring hf hne n r (gt_mul hX hgf) (mul_ne hXn hnf)
        rw [hst] at this
        exact this
      · rw [if_neg (by rw [e]; decide)]
        refine ⟨fun h => absurd ?_ o, fun _ => e⟩
        rw [← hst] at h
        exact ok_left (gt_mul hX hgf) (gt_pwT hgf n) (pwT_ne hnf n) h

theorem fac_ring : ∀ {es : List Int} {fs : List (List Mn)} {c : List Mn} {C : Tm}, (∀ f ∈ fs, Ch f) → (∀ x ∈ es, 0 ≤ x ∧ x ≤ 64) → noughtB es fs = false → Rp c C → GT C → C ≠ [] →
    (OkF (tot (wT es fs C)) → (facR es fs c).2 = 0 ∧ Rp (facR es fs c).1 (wT es fs C)) ∧ (¬ OkF (tot (wT es fs C)) → (facR es fs c).2 = 2)
  | [], _, c, C, _, _, _, hc, _, _ => by
    unfold facR wT
    exact ⟨fun _ => ⟨rfl, hc⟩, fun h => absurd hc.ok h⟩
  | _ :: _, [], c, C, _, _, _, hc, _, _ => by
    unfold facR wT
    exact ⟨fun _ => ⟨rfl, hc⟩, fun h => absurd hc.ok h⟩
  | n :: es, f :: fs, c, C, hf, hx, hn, hc, hC, hne => by
    have hn2 : (decide (0 < n) && f.length == 0) = false ∧ noughtB es fs = false := by
      simp only [noughtB, List.zip_cons_cons, List.any_cons, Bool.or_eq_false_iff] at hn
      exact hn
    have hf2 : ∀ g ∈ fs, Ch g := fun x hx => hf x (List.mem_cons_of_mem _ hx)
    have hf3 : ∀ g ∈ fs, Pol g := fun x hx => (hf2 x hx).1
    have hx2 : ∀ x ∈ es, 0 ≤ x ∧ x ≤ 64 := fun x hx' => hx x (List.mem_cons_of_mem _ hx')
    have hx3 : ∀ x ∈ es, 0 ≤ x := fun x hx' => (hx2 x hx').1
    unfold facR wT
    by_cases h0 : n = 0
    · subst h0
      rw [if_pos rfl]
      have e0 : mulN f (0 : Int).toNat c = (c, 0) := rfl
      rw [e0, if_pos rfl]
      exact fac_ring hf2 hx2 hn2.2 hc hC hne
    · rw [if_neg h0]
      have hb := hx n (by simp)
      have hfl : ¬ f.length = 0 := fun e => by
        have := hn2.1
        rw [decide_eq_true (show 0 < n by omega), e] at this
        exact absurd this (by decide)
      have hfc := hf f (by simp)
      have hg := gt_pwT (gt_ofP hfc.1) (n.toNat - 1)
      have hp := pwT_ne (ofP_ne hfl) (n.toNat - 1)
      have hm := mulN_ring hfc hfl (n.toNat - 1) hc hC hne
      rw [show n.toNat - 1 + 1 = n.toNat by omega] at hm
      by_cases ho : OkF (tot (mulT C (pwT (ofP f) (n.toNat - 1))))
      · obtain ⟨q1, q2⟩ := hm.1 ho
        rw [if_pos q1]
        exact fac_ring hf2 hx2 hn2.2 q2 (gt_mul hC hg) (mul_ne hne hp)
      · have q1 := hm.2 ho
        rw [if_neg (by rw [q1]; decide)]
        exact ⟨fun h => absurd (wT_good hf3 hx3 hn2.2 (gt_mul hC hg) (mul_ne hne hp) h) ho, fun _ => q1⟩

/-- The document's factors and the program's powers make the same. -/
theorem fac_worth {es : List Int} {fs : List (List Mn)} {c : List Mn} (hf : ∀ f ∈ fs, Ch f) (hx : ∀ x ∈ es, 0 ≤ x ∧ x ≤ 64) (hn : noughtB es fs = false) (hc : Ch c) (hne : ¬ c.length = 0) :
    (facR es fs c).2 = (worthGo prodL prodE es fs c).2 ∧ ((facR es fs c).2 = 0 → (facR es fs c).1 = (worthGo prodL prodE es fs c).1 ∧ Ch (facR es fs c).1) ∧ ((facR es fs c).2 = 0 ∨ (facR es fs c).2 = 2) := by
  have hr : Rp c (ofP c) := ⟨hc.1, hc.2, rfl⟩
  obtain ⟨a1, a2⟩ := worth_ring hf hx hn hr (gt_ofP hc.1) (ofP_ne hne)
  obtain ⟨b1, b2⟩ := fac_ring hf hx hn hr (gt_ofP hc.1) (ofP_ne hne)
  by_cases ho : OkF (tot (wT es fs (ofP c)))
  · obtain ⟨x1, x2⟩ := a1 ho
    obtain ⟨y1, y2⟩ := b1 ho
    exact ⟨y1.trans x1.symm, fun _ => ⟨y2.eq x2, y2.pol, y2.chk⟩, .inl y1⟩
  · have x1 := a2 ho
    have y1 := b2 ho
    exact ⟨y1.trans x1.symm, fun h => absurd (y1.symm.trans h) (by decide), .inr y1⟩

/-- The document's Compose, monomial by monomial. -/
def docGo (args : List (List Mn)) : List Mn → List Mn → List Mn × Int
  | out, [] => (out, 0)
  | out, m :: r =>
    if noughtB m.2 args then docGo args out r
    else if (facR m.2 args [(m.1, [])]).2 = 0 then
      if addPE out (facR m.2 args [(m.1, [])]).1 = 0 then docGo args (addPL out (facR m.2 args [(m.1, [])]).1) r
      else ([], addPE out (facR m.2 args [(m.1, [])]).1)
    else ([], (facR m.2 args [(m.1, [])]).2)

theorem ch_const {m : Mn} (hm : monB m = true) (hl : Lim m.1) : Ch [(m.1, [])] := by
  have h1 := monB_parts hm
  have hb : monB (m.1, []) = true := by
    unfold monB
    rw [h1.2.1]
    simpa using h1.1
  have hc : checkE [(m.1, [])] 9223372036854775807 = 0 := by
    rw [check_iff (by omega)]
    refine ⟨?_, by simp [boundsB, smallB]⟩
    rw [polyB_iff]
    intro k hk
    have : k = 0 := by simpa using hk
    subst this
    unfold okAt
    simp [hb]
  exact ⟨Pol.of (fun n hn => by simp at hn; subst hn; exact hl) (by decide) hc, hc⟩

theorem Pol.tail {m : Mn} {p : List Mn} (h : Pol (m :: p)) : Pol p :=
  ⟨fun x hx => h.lim x (List.mem_cons_of_mem _ hx), fun x hx => h.mon x (List.mem_cons_of_mem _ hx), SortedX.tail h.sort, fun x hx => h.small x (List.mem_cons_of_mem _ hx), by have := h.len; simp at this; omega⟩

theorem docGo_eq {args : List (List Mn)} (ha : ∀ f ∈ args, Ch f) : ∀ {p : List Mn} {L : LkY} {F : List Nat → Nat}, Pol p → StY L F → OkF F → KeysLe L →
    (docGo args (rowLY L) p).2 = (compGo args L p).2 ∧ ((docGo args (rowLY L) p).2 = 0 → (docGo args (rowLY L) p).1 = rowLY (compGo args L p).1)
  | [], L, F, _, _, _, _ => by
    unfold docGo compGo
    exact ⟨rfl, fun _ => rfl⟩
  | m :: p, L, F, hp, hs, ho, hk => by
    have hpt : Pol p := hp.tail
    have hmb := hp.mon m (by simp)
    have hmg := hp.good (m := m) (by simp)
    have hxs : ∀ x ∈ m.2, 0 ≤ x ∧ x ≤ 64 := hmg.2.2.2
    unfold docGo compGo
    cases hn : noughtB m.2 args
    · rw [if_neg (by decide)]
      have ev : worthV prodL prodE m.2 args [(m.1, [])] = worthGo prodL prodE m.2 args [(m.1, [])] := by unfold worthV; rw [hn]; rfl
      rw [ev]
      obtain ⟨e1, e2, e3⟩ := fac_worth ha hxs hn (ch_const hmb (hp.lim m (by simp))) (by simp)
      rw [← e1]
      by_cases h0 : (facR m.2 args [(m.1, [])]).2 = 0
      · obtain ⟨x1, x2⟩ := e2 h0
        rw [if_pos h0, if_pos h0, ← x1]
        obtain ⟨X, hX⟩ : ∃ X, X = (facR m.2 args [(m.1, [])]).1 := ⟨_, rfl⟩
        rw [← hX] at x2 ⊢
        have hrow := hs.row ho fun q hq => (hk q hq).1
        obtain ⟨f1, f2, _, _⟩ := addP_of hrow.2.1 x2.2
        rw [f1, f2]
        have hps := puts_spec (fun m hm => x2.1.good hm) x2.1.dom hs ho
        have hk2 := keysLe_puts x2.1.dom hk
        rcases sum_spec hrow.1 x2.1 with ⟨a1, a2, L2, a3, a4⟩ | ⟨a1, a2, a3⟩
        · rw [hrow.2.2] at a2 a3
          rcases hps with ⟨b1, b2, b3⟩ | ⟨b1, b2⟩
          · rw [if_pos a1, if_pos b1, a4, a3.eq b3]
            exact docGo_eq ha hpt b3 b2 hk2
          · exact absurd a2 b2
        · rw [hrow.2.2] at a2
          rcases hps with ⟨b1, b2, b3⟩ | ⟨b1, b2⟩
          · exact absurd b2 a2
          · rw [if_neg (by rw [a1]; decide), if_neg (by rw [b1]; decide)]
            exact ⟨a1.trans b1.symm, fun h => absurd (a1.symm.trans h) (by decide)⟩
      · rw [if_neg h0, if_neg h0]
        exact ⟨rfl, fun h => absurd h h0⟩
    · rw [if_pos rfl]
      have ev : worthV prodL prodE m.2 args [(m.1, [])] = ([], 0) := by unfold worthV; rw [hn]; rfl
      rw [ev]
      have ep : puts L [] = (L, 0) := rfl
      simp only [ep, if_true]
      exact docGo_eq ha hpt hs ho hk

end Go.Proofs.YtdjmjhlbjcgoiaaGreatDoor

/- The document's examples at the head of layer 2's statements: they come out true. -/
namespace Go.Proofs.YtdjmjhlbjcgoiaaGreatDoor
open Go.RowKit Go.Maps

theorem Ms.shape {w : World} {v : Value} {p : List Mn} (h : Ms w v p) : ∃ a n c, v = .slice a n c := by
  obtain ⟨ao, cap, rfl, _⟩ := Row.flat h
  exact ⟨_, _, _, rfl⟩

theorem sl_oneN {w : World} {g x : Nat} (hx : x < 4294967296) (h : w.cell? ⟨g, 0, none⟩ = some (.int .u32 (x : Int))) : Sl w (.slice (some ⟨g, 0, none⟩) 1 1) [x] := by
  refine ⟨by intro y hy; simp at hy; omega, _, 1, rfl, by simp, by simp [maxLen], fun _ => ⟨g, 0, rfl, World.block_lt_of_cell? w _ h, ?_⟩⟩
  intro k y hk
  have hlt := (List.getElem?_eq_some_iff.1 hk).1
  match k, hlt with
  | 0, _ =>
    simp only [List.getElem?_cons_zero, Option.some.injEq] at hk
    subst hk
    exact h

theorem is_oneI {w : World} {g : Nat} {a : Int} (ha : -9223372036854775808 ≤ a ∧ a ≤ 9223372036854775807) (h : w.cell? ⟨g, 0, none⟩ = some (.int .i64 a)) : Is w (.slice (some ⟨g, 0, none⟩) 1 1) [a] := by
  refine ⟨_, 1, rfl, by simp, by simp [maxLen], fun _ => ⟨g, 0, rfl, World.block_lt_of_cell? w _ h, ?_⟩⟩
  intro k x hk
  have hlt := (List.getElem?_eq_some_iff.1 hk).1
  match k, hlt with
  | 0, _ =>
    simp only [List.getElem?_cons_zero, Option.some.injEq] at hk
    subst hk
    exact ⟨ha.1, ha.2, h⟩

/-- Monomials one behind the other. -/
def EMs (w : World) (g : Nat) : Nat → List Mn → Prop
  | _, [] => True
  | o, m :: r => EM w g o m ∧ EMs w g (o + 2) r

theorem EMs.get {w : World} {g : Nat} : ∀ {p : List Mn} {o k : Nat} {m : Mn}, EMs w g o p → p[k]? = some m → EM w g (o + k * 2) m
  | [], _, _, _, _, h => by simp at h
  | x :: r, o, 0, m, h, hk => by
    simp at hk
    subst hk
    exact h.1
  | x :: r, o, k + 1, m, h, hk => by
    have := EMs.get h.2 (k := k) (by simpa using hk)
    rw [show o + (k + 1) * 2 = o + 2 + k * 2 by omega]
    exact this

theorem ms_lit {w : World} {g n : Nat} {p : List Mn} (hg : g < w.heap.size) (hn : n = p.length ∧ p.length ≤ 9) (h : EMs w g 0 p) : Ms w (.slice (some ⟨g, 0, none⟩) n n) p := by
  obtain ⟨rfl, hl⟩ := hn
  refine ⟨_, p.length, rfl, Nat.le_refl _, by unfold maxLen; omega, fun _ => ⟨g, 0, rfl, hg, fun k m hk => ?_⟩⟩
  have := h.get hk
  rwa [Nat.zero_add] at this ⊢

end Go.Proofs.YtdjmjhlbjcgoiaaGreatDoor

/- What the laws on sums, products and compositions share. -/
namespace Go.Proofs.YtdjmjhlbjcgoiaaGreatDoor
open Go.RowKit Go.Maps

/-- The blocks that are not an answer's: from b on and below t. -/
def awayB (b t : Nat) (g : Nat) : Bool := decide (g < b ∨ t ≤ g)

theorem away_new {b t g : Nat} (h : t ≤ g) : awayB b t g = true := by unfold awayB; rw [decide_eq_true_eq]; exact .inr h

/-- What was there ahead of the answer, behind it. -/
theorem away_old {w3 w4 : World} (h : Below w3.heap.size w3 w4) : Kp w3 (onlyY (awayB w3.heap.size w4.heap.size) w4) :=
  (only_old fun g hg => by unfold awayB; rw [decide_eq_true_eq]; exact .inl hg).trans (only_below h)

theorem away_spl {b t : Nat} {w w' : World} (h : Spl b t w w') : Kp (onlyY (awayB b t) w) (onlyY (awayB b t) w') :=
  only_step h.size fun g hg hA => h.block g hg (by unfold awayB at hA; rw [decide_eq_true_eq] at hA; exact hA)

/-- What an answer is spoilt by lies above b. -/
theorem spl_below {b t : Nat} {w0 w w' : World} (h : Below b w0 w) (hs : Spl b t w w') (hb : b ≤ w.heap.size) : Below b w0 w' :=
  ⟨hs.os.trans h.os, hs.tape.trans h.tape, hs.output.trans h.output, Nat.le_trans h.size hs.size, fun k hk => (hs.block k (by omega) (.inl hk)).trans (h.block k hk)⟩

theorem Ch.lens {p : List Mn} (h : Ch p) : p.length ≤ 256 ∧ ∀ m ∈ p, m.1.length ≤ 64 ∧ m.2.length ≤ 512 :=
  ⟨h.1.len, fun m hm => ⟨length_le_of_right (monB_parts (h.1.mon m hm)).2.1, (h.1.small m hm).1⟩⟩

theorem nil_lens : ([] : List Mn).length ≤ 256 ∧ ∀ m ∈ ([] : List Mn), m.1.length ≤ 64 ∧ m.2.length ≤ 512 := ⟨by simp, fun m hm => (by cases hm)⟩

theorem addPL_lens {p q : List Mn} (hp : ∀ m ∈ p, Lim m.1) (hq : ∀ m ∈ q, Lim m.1) : (addPL p q).length ≤ 256 ∧ ∀ m ∈ addPL p q, m.1.length ≤ 64 ∧ m.2.length ≤ 512 := by
  by_cases h : checkE p 9223372036854775807 = 0 ∧ checkE q 9223372036854775807 = 0
  · have cp : Ch p := ⟨Pol.of hp (by decide) h.1, h.1⟩
    have cq : Ch q := ⟨Pol.of hq (by decide) h.2, h.2⟩
    by_cases h0 : addPE p q = 0
    · exact (cp.add cq h0).lens
    · obtain ⟨f1, f2, _, _⟩ := addP_of h.1 h.2
      rcases sum_spec cp.1 cq.1 with ⟨e, _⟩ | ⟨_, _, e⟩
      · exact absurd (f1.trans e) h0
      · rw [f2, e]
        exact nil_lens
  · rw [(addP_no h).2.1]
    exact nil_lens

theorem mulPL_lens {p q : List Mn} (hp : ∀ m ∈ p, Lim m.1) (hq : ∀ m ∈ q, Lim m.1) : (mulPL p q).length ≤ 256 ∧ ∀ m ∈ mulPL p q, m.1.length ≤ 64 ∧ m.2.length ≤ 512 := by
  by_cases h : checkE p 9223372036854775807 = 0 ∧ checkE q 9223372036854775807 = 0
  · have cp : Ch p := ⟨Pol.of hp (by decide) h.1, h.1⟩
    have cq : Ch q := ⟨Pol.of hq (by decide) h.2, h.2⟩
    by_cases h0 : mulPE p q = 0
    · exact (cp.mul cq h0).lens
    · obtain ⟨_, _, f1, f2⟩ := addP_of h.1 h.2
      rcases prod_spec cp.1 cq.1 with ⟨e, _⟩ | ⟨_, _, e⟩
      · exact absurd (f1.trans e) h0
      · rw [f2, e]
        exact nil_lens
  · rw [(addP_no h).2.2.2]
    exact nil_lens

end Go.Proofs.YtdjmjhlbjcgoiaaGreatDoor
