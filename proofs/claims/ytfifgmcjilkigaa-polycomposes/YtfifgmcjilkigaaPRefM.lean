/- What the document's Mul answers. -/
import Derived.Test.YtfifgmcjilkigaaPRefT
namespace Go.Proofs.Ytfifgmcjilkigaa
open Go.RowKit Go.Maps

/-- A monomial laid into a variable of two cells. -/
theorem box_fin {W1 : World} {gb bs bo : Nat} {c x q0 q2 : Value} {cs : List Nat} {xs : List Int} (hc : Ow W1 bs c cs) (hx : OwI W1 bo x xs) (hs : Shp W1 gb 46 2) (h0 : W1.cell? ⟨gb, 0, none⟩ = some q0) (h1 : (W1.setCell ⟨gb, 0, none⟩ c).cell? ⟨gb, 1, none⟩ = some q2) :
    Hid ((((W1.setCell ⟨gb, 0, none⟩ c).setCell ⟨gb, 1, none⟩ x).cell? ⟨gb, 0, none⟩ = some c ∧ ((W1.setCell ⟨gb, 0, none⟩ c).setCell ⟨gb, 1, none⟩ x).cell? ⟨gb, 1, none⟩ = some x) ∧
      Ow ((W1.setCell ⟨gb, 0, none⟩ c).setCell ⟨gb, 1, none⟩ x) bs c cs ∧ OwI ((W1.setCell ⟨gb, 0, none⟩ c).setCell ⟨gb, 1, none⟩ x) bo x xs ∧ ∀ (B : Nat) (w : World), Below B w W1 → B ≤ gb → Below B w ((W1.setCell ⟨gb, 0, none⟩ c).setCell ⟨gb, 1, none⟩ x)) := by
  have hg : W1.grownBy ((W1.setCell ⟨gb, 0, none⟩ c).setCell ⟨gb, 1, none⟩ x) (some gb) := ⟨rfl, rfl, rfl, by simp [World.setCell], fun k _ hk => by
    have hk2 : k ≠ gb := fun e => hk (by rw [e])
    rw [heap_setCell_other _ _ _ _ hk2, heap_setCell_other _ _ _ _ hk2]⟩
  refine ⟨⟨?_, World.cell?_setCell_same _ _ _ h1⟩, hc.held hg (own_far hc.2 hs (by decide)), hx.kept hg (own_far hx.2 hs (by decide)), fun B w hb hle => (hb.setCell (p := ⟨gb, 0, none⟩) hle _).setCell (p := ⟨gb, 1, none⟩) hle _⟩
  rw [World.cell?_setCell_other _ _ _ _ (by simp)]
  exact World.cell?_setCell_same _ _ _ h0

theorem shp_new (w : World) (a b : Value) (t : TypeId) : Shp (w.alloc (.cells #[a, b] t)) w.heap.size t 2 := ⟨_, heap_alloc_new _ _, rfl⟩

set_option maxRecDepth 100000 in
set_option maxHeartbeats 6400000 in
theorem refMulP_any (A : Nat → Bool) (v u : Value) (p q : List Mn) (w : World) (h : Ms (only A w) v p) (h' : Ms (only A w) u q) (hA : ∀ g, w.heap.size ≤ g → A g = true) (hl : ∀ m ∈ p, m.2.length ≤ 4611686018427387904) (hl' : ∀ m ∈ q, m.2.length ≤ 4611686018427387904) :
    Calls Try.prog 22 #[v, u] w fun e w' => ∃ v', e = .returned (.tuple #[v', .int .i64 (mulPE p q)]) ∧ Ms (only A w') v' (mulPL p q) ∧ Below w.heap.size w w' := by
  obtain ⟨ao, cap, rfl, hao, hca, q0⟩ := Row.flat h
  obtain ⟨bo, cap', rfl, hbo, hcb, q0'⟩ := Row.flat h'
  unfold maxLen at hca hcb
  have HP : Hid (Ms (only A w) (.slice ao p.length cap) p) := h
  have HQ : Hid (Ms (only A w) (.slice bo q.length cap') q) := h'
  have HA : Hid (∀ g, w.heap.size ≤ g → A g = true) := hA
  have HLp : Hid (checkR p 4611686018427387904 = checkE p 9223372036854775807) := by show _ = _; rw [checkR_eq, check_long hl]
  have HLq : Hid (checkR q 4611686018427387904 = checkE q 9223372036854775807) := by show _ = _; rw [checkR_eq, check_long hl']
  clear h h' q0 q0' hA hl hl'
  go_enter Try.func22, Try.ntmps22
  go_wp2_with fail
  refine (refCheck_any _ p 4611686018427387904 _ (HP.out.kp (only_kp A w)) (by omega) (by omega)).mono ?_
  rw [HLp.out]
  rintro e w1 ⟨rfl, hb1⟩
  have HB1 : Hid (Below w.heap.size w w1) := hb1
  clear hb1
  by_cases hp0 : checkE p 9223372036854775807 = 0
  · rw [hp0]
    go_wp2_with fail
    refine (refCheck_any _ q 4611686018427387904 _ (HQ.out.kp ((only_kp A w).trans (Kp.of_below HB1.out))) (by omega) (by omega)).mono ?_
    rw [HLq.out]
    rintro e w2 ⟨rfl, hb2⟩
    have HB2 : Hid (Below w.heap.size w w2) := below_step HB1.out hb2
    clear hb2 HB1
    by_cases hq0 : checkE q 9223372036854775807 = 0
    · rw [hq0]
      have hpp : Pol p := Pol.of HP.out.limA (by decide) hp0
      have hqq : Pol q := Pol.of HQ.out.limA (by decide) hq0
      obtain ⟨_, _, f1, f2⟩ := addP_of hp0 hq0
      have HR : Hid (mulR q [] p = if prodE p q = 0 then some (prodL p q) else none) := mulR_eq hpp hqq
      have HE : Hid (prodE p q = 0 ∨ prodE p q = 2 ∧ prodL p q = []) := by
        rcases prod_spec hpp hqq with ⟨e, _⟩ | ⟨e, _, e2⟩
        · exact .inl e
        · exact .inr ⟨e, e2⟩
      have hplen := hpp.len
      have hqlen := hqq.len
      have HDp : Hid (DomM p) := hpp.dom
      have HDq : Hid (DomM q) := hqq.dom
      have HF : Hid (mulPE p q = prodE p q ∧ mulPL p q = prodL p q) := ⟨f1, f2⟩
      have HNo : Hid (mulR q [] p = none → mulPE p q = 2 ∧ mulPL p q = []) := fun hn => by
        rcases HE.out with h0 | h0
        · have := HR.out
          rw [if_pos h0, hn] at this
          cases this
        · exact ⟨HF.out.1.trans h0.1, HF.out.2.trans h0.2⟩
      have HYes : Hid (∀ O, mulR q [] p = some O → mulPE p q = 0 ∧ mulPL p q = O) := fun O hs => by
        have := HR.out
        rw [hs] at this
        split at this
        · cases this
          exact ⟨HF.out.1.trans (by assumption), HF.out.2⟩
        · cases this
      clear hpp hqq f1 f2 HE HR HF
      go_wp2
      go_loopw [7, 8] (fun x i wr => ∃ (k : Nat) (O : List Mn), k ≤ p.length ∧ O.length ≤ 256 ∧ i = .int .i64 k ∧ Ms (only A wr) x O ∧ mulR q [] p = mulR q O (p.drop k) ∧ Below w.heap.size w wr) (fun _ i _ => p.length - (intOf i).toNat)
      case atStart => exact ⟨0, [], Nat.zero_le _, by simp, rfl, Row.nil (Nat.zero_le _), rfl, below_step HB2.out (below_alloc _)⟩
      case round =>
        obtain ⟨k, O, hk, hO, rfl, hms, hmul, hbl⟩ := hrel
        obtain ⟨wA, rfl⟩ : ∃ X, X = wr := ⟨wr, rfl⟩
        have HMs : Hid (Ms (only A wA) u7 O) := hms
        have HMu : Hid (mulR q [] p = mulR q O (p.drop k)) := hmul
        have HB : Hid (Below w.heap.size w wA) := hbl
        clear hms hmul hbl
        by_cases hlt : k < p.length
        · obtain ⟨g, off, c, es, a1, c1, a2, c2, rfl, hm1, hc0', hc1', hmo, hn1, hn2, hn3, hn4⟩ := HP.out.at hlt
          have HX : Hid (p[k]? = some (c, es)) := hm1
          have HMp : Hid (Mo (only A w) (.slice a1 c.length c1) (.slice a2 es.length c2) (c, es)) := hmo
          have HC0 : Hid ((only A w).cell? ⟨g, off + k * 2, none⟩ = some (.slice a1 c.length c1)) := hc0'
          have HC1 : Hid ((only A w).cell? ⟨g, off + k * 2 + 1, none⟩ = some (.slice a2 es.length c2)) := hc1'
          have HIn : Hid (mulR q [] p = match mulInR (c, es) O (q.drop 0) with | none => none | some r => mulR q r (p.drop (k + 1))) := by
            show _ = _
            rw [HMu.out, drop_get HX.out]
            rfl
          clear hm1 hmo hc0' hc1'
          go_wp2
          go_loopw [7, 9] (fun x i ws => ∃ (l : Nat) (O2 : List Mn), l ≤ q.length ∧ O2.length ≤ 256 ∧ i = .int .i64 l ∧ Ms (only A ws) x O2 ∧ (mulR q [] p = match mulInR (c, es) O2 (q.drop l) with | none => none | some r => mulR q r (p.drop (k + 1))) ∧ Below w.heap.size w ws) (fun _ i _ => q.length - (intOf i).toNat)
          case atStart => exact ⟨0, O, Nat.zero_le _, hO, rfl, HMs.out, HIn.out, HB.out⟩
          case round =>
            clear HMs HMu HB HIn
            obtain ⟨l, O2, hl, hO2, rfl, hms, hmul, hbl⟩ := hrel
            obtain ⟨wB, rfl⟩ : ∃ X, X = wr := ⟨wr, rfl⟩
            have HMs : Hid (Ms (only A wB) u7 O2) := hms
            have HIn : Hid (mulR q [] p = match mulInR (c, es) O2 (q.drop l) with | none => none | some r => mulR q r (p.drop (k + 1))) := hmul
            have HB : Hid (Below w.heap.size w wB) := hbl
            have KW : Kp (only A w) wB := (only_kp A w).trans (Kp.of_below hbl)
            have hc0 := KW.cell _ _ HC0.out
            have hc1 := KW.cell _ _ HC1.out
            clear hms hmul hbl
            by_cases hll : l < q.length
            · obtain ⟨g2, off2, d, fs, b1, d1, b2, d2, rfl, hm1, he0', he1', hmo, hq1, hq2, hq3, hq4⟩ := HQ.out.at hll
              have he0 := KW.cell _ _ he0'
              have he1 := KW.cell _ _ he1'
              have HY : Hid (q[l]? = some (d, fs)) := hm1
              have HMq : Hid (Mo (only A w) (.slice b1 d.length d1) (.slice b2 fs.length d2) (d, fs)) := hmo
              have HKW : Hid (Kp (only A w) wB) := KW
              have hd : mulInR (c, es) O2 (q.drop l) = if timesB (c, es) (d, fs) = true then (match laidR O2 (mulMn (c, es) (d, fs)) with | none => none | some r => mulInR (c, es) r (q.drop (l + 1))) else none := by rw [drop_get hm1]; rfl
              have HD : Hid (mulInR (c, es) O2 (q.drop l) = if timesB (c, es) (d, fs) = true then (match laidR O2 (mulMn (c, es) (d, fs)) with | none => none | some r => mulInR (c, es) r (q.drop (l + 1))) else none) := hd
              clear hm1 hmo he0' he1' KW hd
              go_wp2_with fail
              have hS : Below wB.heap.size wB wB.drew := (Below.refl _ _).drew
              refine wp_region_held_drew (S := fun w' => Below wB.heap.size wB w') (by kernel_rfl) hS (fun _ => ?_)
              obtain ⟨W0, hW0⟩ : ∃ X, X = wB.drew := ⟨_, rfl⟩
              rw [← hW0] at hS ⊢
              clear hW0
              refine wpAnyH_take (i := 0) (v := .slice (some ⟨g, off, none⟩) p.length cap) rfl (by kernel_rfl) (by kernel_rfl) (by kernel_rfl) (fun _ _ _ h => h) (Or.inl ⟨by rfl, fun w' _ => by go_simp⟩) hS ?_
              simp only [Act.put, List.setIfInBounds_toArray]
              refine wpAnyH_take (i := 1) (v := .int .i64 (k : Int)) rfl (by kernel_rfl) (by kernel_rfl) (by kernel_rfl) (fun _ _ _ h => h) (Or.inl ⟨by rfl, fun w' _ => by go_simp⟩) hS ?_
              simp only [Act.put]
              refine wpAnyH_take (i := 2) (v := .pointer (some ⟨g, off + k * 2, none⟩)) rfl (by kernel_rfl) (by kernel_rfl) (by kernel_rfl) (fun _ _ _ h => h) (Or.inl ⟨by rfl, fun w' _ => by go_simp⟩) hS ?_
              simp only [Act.put]
              refine wpAnyH_take (i := 3) (v := .agg #[.slice a1 c.length c1, .slice a2 es.length c2]) rfl (by kernel_rfl) (by kernel_rfl) (by kernel_rfl) (fun _ _ _ h => h) (Or.inl ⟨by rfl, fun w' h => by have hh := (Kp.of_below h).cell _ _ hc0; have hh2 := (Kp.of_below h).cell _ _ hc1; go_simp⟩) hS ?_
              simp only [Act.put]
              refine wpAnyH_take (i := 4) (v := .slice (some ⟨g2, off2, none⟩) q.length cap') rfl (by kernel_rfl) (by kernel_rfl) (by kernel_rfl) (fun _ _ _ h => h) (Or.inl ⟨by rfl, fun w' _ => by go_simp⟩) hS ?_
              simp only [Act.put]
              refine wpAnyH_take (i := 5) (v := .int .i64 (l : Int)) rfl (by kernel_rfl) (by kernel_rfl) (by kernel_rfl) (fun _ _ _ h => h) (Or.inl ⟨by rfl, fun w' _ => by go_simp⟩) hS ?_
              simp only [Act.put]
              refine wpAnyH_take (i := 6) (v := .pointer (some ⟨g2, off2 + l * 2, none⟩)) rfl (by kernel_rfl) (by kernel_rfl) (by kernel_rfl) (fun _ _ _ h => h) (Or.inl ⟨by rfl, fun w' _ => by go_simp⟩) hS ?_
              simp only [Act.put]
              refine wpAnyH_take (i := 7) (v := .agg #[.slice b1 d.length d1, .slice b2 fs.length d2]) rfl (by kernel_rfl) (by kernel_rfl) (by kernel_rfl) (fun _ _ _ h => h) (Or.inl ⟨by rfl, fun w' h => by have hh := (Kp.of_below h).cell _ _ he0; have hh2 := (Kp.of_below h).cell _ _ he1; go_simp⟩) hS ?_
              simp only [Act.put]
              refine wpAnyH_ready (rs := [8, 12]) (by kernel_rfl) (by simp) (AllReadyH.cons rfl (fun K hK => ?_) (AllReadyH.cons rfl (fun K hK => ?_) (AllReadyH.nil)))
              · skip
                go_simp
                refine (refTimes_any _ _ _ _ (c, es) (d, fs) _ (HMp.out.kp (HKW.out.trans (Kp.of_below hS))) (HMq.out.kp (HKW.out.trans (Kp.of_below hS))) (HDp.out _ _ HX.out) (HDq.out _ _ HY.out)).mono ?_
                rintro e W1 ⟨cv, ev, rfl, ocv, oev, hbs⟩
                refine hK.out _ _ (below_step hS hbs) (fun hS1 => ?_)
                clear hK K
                obtain ⟨co, nc, cc, rfl⟩ := ocv.slice
                obtain ⟨xo, xc, rfl, _, _⟩ := oev.shape
                obtain ⟨NX, hNX⟩ : ∃ N, N = (addX es fs).length := ⟨_, rfl⟩
                obtain ⟨T, hT⟩ : ∃ T, T = timesB (c, es) (d, fs) := ⟨_, rfl⟩
                rw [← hNX] at oev ⊢
                rw [← hT] at HD ⊢
                clear hNX hT
                have hAW : Hid (∀ g, W0.heap.size ≤ g → A g = true) := fun g hg => HA.out g (Nat.le_trans HB.out.size (Nat.le_trans hS.size hg))
                clear hS hbs
                have hS := hS1
                clear hS1
                refine wpAnyH_take (i := 9) (v := .tuple #[.agg #[.slice co nc cc, .slice xo NX xc], .bool T]) rfl (by kernel_rfl) (by kernel_rfl) (by kernel_rfl) (fun _ _ _ h => h) (Or.inl ⟨by rfl, fun w' _ => by go_simp⟩) hS ?_
                simp only [Act.put, List.setIfInBounds_toArray]
                refine wpAnyH_take (i := 10) (v := .agg #[.slice co nc cc, .slice xo NX xc]) rfl (by kernel_rfl) (by kernel_rfl) (by kernel_rfl) (fun _ _ _ h => h) (Or.inl ⟨by rfl, fun w' _ => by go_simp⟩) hS ?_
                simp only [Act.put]
                refine wpAnyH_take (i := 11) (v := .bool T) rfl (by kernel_rfl) (by kernel_rfl) (by kernel_rfl) (fun _ _ _ h => h) (Or.inl ⟨by rfl, fun w' _ => by go_simp⟩) hS ?_
                simp only [Act.put]
                refine wpAnyH_ready (rs := [12]) (by kernel_rfl) (by simp) (AllReadyH.cons rfl (fun K hK => ?_) (AllReadyH.nil))
                go_simp
                refine hK.out _ _ (below_step hS (below_alloc _)) (fun hS1 => ?_)
                clear hK K
                have hgb : wB.heap.size ≤ W1.heap.size := hS.size
                have hsb := shp_new W1 (.slice none 0 0) (.slice none 0 0) 46
                have ocv2 := ocv.since (below_alloc (.cells #[.slice none 0 0, .slice none 0 0] 46))
                have oev2 := oev.later (below_alloc (.cells #[.slice none 0 0, .slice none 0 0] 46))
                obtain ⟨gb, hgbe⟩ : ∃ X, X = W1.heap.size := ⟨_, rfl⟩
                rw [← hgbe] at hsb hgb ⊢
                clear ocv oev hS hgbe
                have hS := hS1
                clear hS1
                have ocv := ocv2
                have oev := oev2
                clear ocv2 oev2
                obtain ⟨W2, hW2⟩ : ∃ X, X = W1.alloc (.cells #[.slice none 0 0, .slice none 0 0] 46) := ⟨_, rfl⟩
                rw [← hW2] at hS hsb ocv oev ⊢
                clear hW2
                obtain ⟨⟨q0, hq0⟩, hq0f⟩ := hsb.cell (k := 0) (by omega)
                obtain ⟨⟨q2, hq2⟩, hq2f⟩ := (hsb.setCell (gb) 0 (.slice co nc cc)).cell (k := 1) (by omega)
                refine wpAnyH_ready (rs := [13]) (by kernel_rfl) (by simp) (AllReadyH.cons rfl (fun K hK => ?_) (AllReadyH.nil))
                go_simp
                have HFi := box_fin ocv oev hsb hq0 hq2
                refine hK.out _ _ (HFi.out.2.2.2 _ _ hS hgb) (fun hS1 => ?_)
                clear hK K hS
                have hS := hS1
                clear hS1
                refine wpAnyH_take (i := 14) (v := .bool T) rfl (by kernel_rfl) (by kernel_rfl) (by kernel_rfl) (fun _ _ _ h => h) (Or.inl ⟨by rfl, fun w' _ => by go_simp⟩) hS ?_
                simp only [Act.put, List.setIfInBounds_toArray]
                simp only [List.getElem_toArray, List.getElem_cons_succ, List.getElem_cons_zero, List.set_cons_zero, List.set_cons_succ]
                refine wpAnyH_done (by kernel_rfl) ?_ _
                have HMs1 : Hid (Ms (only A _) u7 O2) := HMs.out.kp (only_below hS)
                have HB1 : Hid (Below w.heap.size w _) := below_step HB.out hS
                obtain ⟨f0, f1⟩ := HFi.out.1
                have HMt : Hid (Mo (only A _) (.slice co nc cc) (.slice xo NX xc) (mulMn (c, es) (d, fs))) := ⟨Ow.sl (⟨HFi.out.2.1.1, only_owns HFi.out.2.1.2 hAW.out⟩ : Ow (only A _) W0.heap.size _ _), OwI.is (⟨HFi.out.2.2.1.1, only_owns HFi.out.2.2.1.2 hAW.out⟩ : OwI (only A _) W0.heap.size _ _)⟩
                obtain ⟨WF, hWF⟩ : ∃ X, X = ((W2.setCell ⟨gb, 0, none⟩ (.slice co nc cc)).setCell ⟨gb, 1, none⟩ (.slice xo NX xc)) := ⟨_, rfl⟩
                rw [← hWF] at HMs1 HB1 HMt f0 f1 ⊢
                clear hWF hS HFi ocv oev hsb hq0 hq0f hq2 hq2f hgb hc0 hc1 he0 he1 hAW
                cases T
                · have HFF : Hid (mulPE p q = 2 ∧ mulPL p q = []) := HNo.out (by rw [HIn.out, HD.out]; rfl)
                  clear HIn HD
                  go_wp2
                  go_ret2
                  exact ⟨_, ret2i HFF.out.1.symm, by rw [HFF.out.2]; exact Row.nil (Nat.zero_le _), HB1.out⟩
                · go_wp2_with fail
                  refine (refLaid_any A _ _ _ O2 (mulMn (c, es) (d, fs)) _ HMs1.out HMt.out hO2 (fun g hg => HA.out g (Nat.le_trans HB1.out.size hg))).mono ?_
                  rintro e w3 ⟨hb3, h3⟩
                  have HB3 : Hid (Below w.heap.size w w3) := below_step HB1.out hb3
                  rcases h3 with ⟨hnone, x3, rfl⟩ | ⟨r, hr, x3, rfl, hms3⟩
                  · have HFF : Hid (mulPE p q = 2 ∧ mulPL p q = []) := HNo.out (by rw [HIn.out, HD.out, if_pos trivial, hnone])
                    clear hnone hb3 HIn HD
                    go_wp2
                    go_ret2
                    exact ⟨_, ret2i HFF.out.1.symm, by rw [HFF.out.2]; exact Row.nil (Nat.zero_le _), HB3.out⟩
                  · have HIn3 : Hid (mulR q [] p = match mulInR (c, es) r (q.drop (l + 1)) with | none => none | some r => mulR q r (p.drop (k + 1))) := by
                      show _ = _
                      rw [HIn.out, HD.out, if_pos trivial, hr]
                    have HMs3 : Hid (Ms (only A w3) x3 r) := hms3
                    have hlr := laidR_len hr
                    clear hr hms3 hb3 HIn HD
                    go_wp2
                    go_roundw
                    case rel => exact ⟨l + 1, r, by omega, hlr, by go_num, HMs3.out, HIn3.out, HB3.out⟩
                    case measure => simp [intOf]; omega
              · skip
                go_simp
                refine hK.out _ _ (below_step hS (below_alloc _)) (fun hS1 => ?_)
                clear hK K
                have hgb : wB.heap.size ≤ W0.heap.size := hS.size
                have hsb0 := shp_new W0 (.slice none 0 0) (.slice none 0 0) 46
                obtain ⟨gb, hgbe⟩ : ∃ X, X = W0.heap.size := ⟨_, rfl⟩
                rw [← hgbe] at hsb0 hgb ⊢
                clear hS hgbe
                have hS := hS1
                clear hS1
                obtain ⟨W2, hW2⟩ : ∃ X, X = W0.alloc (.cells #[.slice none 0 0, .slice none 0 0] 46) := ⟨_, rfl⟩
                rw [← hW2] at hS hsb0 ⊢
                clear hW2
                refine wpAnyH_ready (rs := [8]) (by kernel_rfl) (by simp) (AllReadyH.cons rfl (fun K hK => ?_) (AllReadyH.nil))
                go_simp
                refine (refTimes_any _ _ _ _ (c, es) (d, fs) _ (HMp.out.kp (HKW.out.trans (Kp.of_below hS))) (HMq.out.kp (HKW.out.trans (Kp.of_below hS))) (HDp.out _ _ HX.out) (HDq.out _ _ HY.out)).mono ?_
                rintro e W1 ⟨cv, ev, rfl, ocv, oev, hbs⟩
                refine hK.out _ _ (below_step hS hbs) (fun hS1 => ?_)
                clear hK K
                obtain ⟨co, nc, cc, rfl⟩ := ocv.slice
                obtain ⟨xo, xc, rfl, _, _⟩ := oev.shape
                obtain ⟨NX, hNX⟩ : ∃ N, N = (addX es fs).length := ⟨_, rfl⟩
                obtain ⟨T, hT⟩ : ∃ T, T = timesB (c, es) (d, fs) := ⟨_, rfl⟩
                rw [← hNX] at oev ⊢
                rw [← hT] at HD ⊢
                clear hNX hT
                have hAW : Hid (∀ g, W2.heap.size ≤ g → A g = true) := fun g hg => HA.out g (Nat.le_trans HB.out.size (Nat.le_trans hS.size hg))
                have hsb := (Spl.below (b := 0) (t := 0) hbs).shape _ _ _ hsb0
                clear hS hbs hsb0
                have hS := hS1
                clear hS1
                refine wpAnyH_take (i := 9) (v := .tuple #[.agg #[.slice co nc cc, .slice xo NX xc], .bool T]) rfl (by kernel_rfl) (by kernel_rfl) (by kernel_rfl) (fun _ _ _ h => h) (Or.inl ⟨by rfl, fun w' _ => by go_simp⟩) hS ?_
                simp only [Act.put, List.setIfInBounds_toArray]
                refine wpAnyH_take (i := 10) (v := .agg #[.slice co nc cc, .slice xo NX xc]) rfl (by kernel_rfl) (by kernel_rfl) (by kernel_rfl) (fun _ _ _ h => h) (Or.inl ⟨by rfl, fun w' _ => by go_simp⟩) hS ?_
                simp only [Act.put]
                refine wpAnyH_take (i := 11) (v := .bool T) rfl (by kernel_rfl) (by kernel_rfl) (by kernel_rfl) (fun _ _ _ h => h) (Or.inl ⟨by rfl, fun w' _ => by go_simp⟩) hS ?_
                simp only [Act.put]
                obtain ⟨⟨q0, hq0⟩, hq0f⟩ := hsb.cell (k := 0) (by omega)
                obtain ⟨⟨q2, hq2⟩, hq2f⟩ := (hsb.setCell (gb) 0 (.slice co nc cc)).cell (k := 1) (by omega)
                refine wpAnyH_ready (rs := [13]) (by kernel_rfl) (by simp) (AllReadyH.cons rfl (fun K hK => ?_) (AllReadyH.nil))
                go_simp
                have HFi := box_fin ocv oev hsb hq0 hq2
                refine hK.out _ _ (HFi.out.2.2.2 _ _ hS hgb) (fun hS1 => ?_)
                clear hK K hS
                have hS := hS1
                clear hS1
                refine wpAnyH_take (i := 14) (v := .bool T) rfl (by kernel_rfl) (by kernel_rfl) (by kernel_rfl) (fun _ _ _ h => h) (Or.inl ⟨by rfl, fun w' _ => by go_simp⟩) hS ?_
                simp only [Act.put, List.setIfInBounds_toArray]
                simp only [List.getElem_toArray, List.getElem_cons_succ, List.getElem_cons_zero, List.set_cons_zero, List.set_cons_succ]
                refine wpAnyH_done (by kernel_rfl) ?_ _
                have HMs1 : Hid (Ms (only A _) u7 O2) := HMs.out.kp (only_below hS)
                have HB1 : Hid (Below w.heap.size w _) := below_step HB.out hS
                obtain ⟨f0, f1⟩ := HFi.out.1
                have HMt : Hid (Mo (only A _) (.slice co nc cc) (.slice xo NX xc) (mulMn (c, es) (d, fs))) := ⟨Ow.sl (⟨HFi.out.2.1.1, only_owns HFi.out.2.1.2 hAW.out⟩ : Ow (only A _) W2.heap.size _ _), OwI.is (⟨HFi.out.2.2.1.1, only_owns HFi.out.2.2.1.2 hAW.out⟩ : OwI (only A _) W2.heap.size _ _)⟩
                obtain ⟨WF, hWF⟩ : ∃ X, X = ((W1.setCell ⟨gb, 0, none⟩ (.slice co nc cc)).setCell ⟨gb, 1, none⟩ (.slice xo NX xc)) := ⟨_, rfl⟩
                rw [← hWF] at HMs1 HB1 HMt f0 f1 ⊢
                clear hWF hS HFi ocv oev hsb hq0 hq0f hq2 hq2f hgb hc0 hc1 he0 he1 hAW
                cases T
                · have HFF : Hid (mulPE p q = 2 ∧ mulPL p q = []) := HNo.out (by rw [HIn.out, HD.out]; rfl)
                  clear HIn HD
                  go_wp2
                  go_ret2
                  exact ⟨_, ret2i HFF.out.1.symm, by rw [HFF.out.2]; exact Row.nil (Nat.zero_le _), HB1.out⟩
                · go_wp2_with fail
                  refine (refLaid_any A _ _ _ O2 (mulMn (c, es) (d, fs)) _ HMs1.out HMt.out hO2 (fun g hg => HA.out g (Nat.le_trans HB1.out.size hg))).mono ?_
                  rintro e w3 ⟨hb3, h3⟩
                  have HB3 : Hid (Below w.heap.size w w3) := below_step HB1.out hb3
                  rcases h3 with ⟨hnone, x3, rfl⟩ | ⟨r, hr, x3, rfl, hms3⟩
                  · have HFF : Hid (mulPE p q = 2 ∧ mulPL p q = []) := HNo.out (by rw [HIn.out, HD.out, if_pos trivial, hnone])
                    clear hnone hb3 HIn HD
                    go_wp2
                    go_ret2
                    exact ⟨_, ret2i HFF.out.1.symm, by rw [HFF.out.2]; exact Row.nil (Nat.zero_le _), HB3.out⟩
                  · have HIn3 : Hid (mulR q [] p = match mulInR (c, es) r (q.drop (l + 1)) with | none => none | some r => mulR q r (p.drop (k + 1))) := by
                      show _ = _
                      rw [HIn.out, HD.out, if_pos trivial, hr]
                    have HMs3 : Hid (Ms (only A w3) x3 r) := hms3
                    have hlr := laidR_len hr
                    clear hr hms3 hb3 HIn HD
                    go_wp2
                    go_roundw
                    case rel => exact ⟨l + 1, r, by omega, hlr, by go_num, HMs3.out, HIn3.out, HB3.out⟩
                    case measure => simp [intOf]; omega
            · have hle : l = q.length := by omega
              subst hle
              have HMu : Hid (mulR q [] p = mulR q O2 (p.drop (k + 1))) := by
                show _ = _
                rw [HIn.out, List.drop_of_length_le (Nat.le_refl _)]
                rfl
              clear HIn KW hc0 hc1
              go_wp2
              go_roundw
              case rel => exact ⟨k + 1, O2, by omega, hO2, by go_num, HMs.out, HMu.out, HB.out⟩
              case measure => simp [intOf]; omega
        · have hke : k = p.length := by omega
          subst hke
          have HFF : Hid (mulPE p q = 0 ∧ mulPL p q = O) := HYes.out O (by rw [HMu.out, List.drop_of_length_le (Nat.le_refl _)]; rfl)
          clear HMu
          go_wp2
          go_ret2
          exact ⟨_, ret2i HFF.out.1.symm, by rw [HFF.out.2]; exact HMs.out, HB.out⟩
    · have HF := addP_second (p := p) hp0 hq0
      obtain ⟨E, hE⟩ : ∃ E, E = checkE q 9223372036854775807 := ⟨_, rfl⟩
      have HF2 : Hid (mulPE p q = E ∧ mulPL p q = []) := by show _ ∧ _; rw [hE]; exact ⟨HF.2.2.1, HF.2.2.2⟩
      rw [← hE] at hq0 ⊢
      clear hE HF
      go_wp2
      go_ret2
      exact ⟨_, ret2i HF2.out.1.symm, by rw [HF2.out.2]; exact Row.nil (Nat.zero_le _), HB2.out⟩
  · have HF := addP_first (q := q) hp0
    obtain ⟨E, hE⟩ : ∃ E, E = checkE p 9223372036854775807 := ⟨_, rfl⟩
    have HF2 : Hid (mulPE p q = E ∧ mulPL p q = []) := by show _ ∧ _; rw [hE]; exact ⟨HF.2.2.1, HF.2.2.2⟩
    rw [← hE] at hp0 ⊢
    clear hE HF
    go_wp2
    go_ret2
    exact ⟨_, ret2i HF2.out.1.symm, by rw [HF2.out.2]; exact Row.nil (Nat.zero_le _), HB1.out⟩

end Go.Proofs.Ytfifgmcjilkigaa
