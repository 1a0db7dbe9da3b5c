/- Proved: for every row of monomials and every row of rows of monomials, the law PolyComposes answers true (compositions are told as the document tells them, what is handed in stays, and what comes out is the caller's), and its arguments read afterwards as before. No condition. -/
import Derived.Test.YtfifgmcjilkigaaPRefP
namespace Go.Proofs.Ytfifgmcjilkigaa
open Go.ChangeShapes Go.WideShapes Go.ChangeAt Go.RowKit Go.Maps

theorem info_monos : (Try.prog.info? 22).map (fun i => (i.zero, i.size, i.bytes)) = some (some (.slice none 0 0), 1, 24) := by kernel_rfl
theorem under_polys : Try.prog.underlying 32 = some (.slice 22) := by kernel_rfl

theorem OM.keptBy {w w' : World} {base b2 n : Nat} {v x : Value} {p : List Mn} {xs : List Value} (h : OM w base v p) (hx : w.ownsRow b2 22 1 x n xs) (hg : w.grownBy w' x.ownBlock) : OM w' base v p := by
  obtain ⟨cs, hl, hc, ho⟩ := h
  exact ⟨cs, hl, fun i c m h1 h2 => ⟨(hc i c m h1 h2).1.held hg (ownsRow_apart (hc i c m h1 h2).1.2 hx (by decide)), (hc i c m h1 h2).2.kept hg (ownsRow_apart (hc i c m h1 h2).2.2 hx (by decide))⟩, ho.kept hg (ownsRow_apart ho hx (by decide))⟩

/-- A row of polynomials that the call owns. -/
def OP (w : World) (base : Nat) (v : Value) (fs : List (List Mn)) : Prop :=
  ∃ cs : List Value, cs.length = fs.length ∧ (∀ (i : Nat) (c : Value) (f : List Mn), cs[i]? = some c → fs[i]? = some f → OM w base c f) ∧ w.ownsRow base 22 1 v fs.length cs

theorem OP.empty {w : World} {base : Nat} (hb : base ≤ w.heap.size) : OP (w.alloc (.cells #[] 22)) base (.slice (some ⟨w.heap.size, 0, none⟩) 0 0) [] :=
  ⟨[], rfl, fun i c x h => (by simp at h), rfl, .inr ⟨w.heap.size, 0, #[], rfl, hb, heap_alloc_new _ _, Nat.le_refl _, Nat.zero_le _, rfl, rfl⟩⟩

theorem OP.ps {w : World} {base : Nat} {v : Value} {fs : List (List Mn)} (h : OP w base v fs) : Ps w v fs := by
  obtain ⟨cs, hl, hc, ho⟩ := h
  have ho2 := ho
  rcases ho2.2 with ⟨rfl, hn⟩ | ⟨g, cap, cur, rfl, hb, hg, hcap, hm, hs, ht⟩
  · exact ⟨none, 0, by rw [hn], by omega, by simp [maxLen], by omega⟩
  · refine ⟨_, cap, rfl, hcap, hm, fun _ => ⟨g, 0, rfl, (Array.getElem?_eq_some_iff.1 hg).1, ?_⟩⟩
    intro k x hk
    have hlt : k < fs.length := (List.getElem?_eq_some_iff.1 hk).1
    have hck : cs[k]? = some cs[k] := List.getElem?_eq_getElem (by omega)
    refine ⟨cs[k], ?_, (hc k _ x hck hk).ms⟩
    rw [Nat.zero_add, Nat.mul_one, World.ownsRow.cellAt ho2 k (by omega)]
    exact hck

theorem OP.snoc {w w' : World} {base : Nat} {v v' : Value} {fs : List (List Mn)} {cs : List Value} {cv : Value} {f : List Mn}
    (hl : cs.length = fs.length) (hc : ∀ (i : Nat) (c : Value) (f : List Mn), cs[i]? = some c → fs[i]? = some f → OM w base c f) (ho : w.ownsRow base 22 1 v fs.length cs)
    (h1 : OM w base cv f) (ho' : w'.ownsRow base 22 1 v' (fs.length + 1) (cs ++ [cv])) (hg : w.grownBy w' v.ownBlock) : OP w' base v' (fs ++ [f]) := by
  refine ⟨cs ++ [cv], by simp [hl], fun i c q hi hq => ?_, by simpa using ho'⟩
  by_cases hi2 : i < cs.length
  · rw [List.getElem?_append_left hi2] at hi
    rw [List.getElem?_append_left (by omega)] at hq
    exact (hc i c q hi hq).keptBy ho hg
  · rw [List.getElem?_append_right (by omega)] at hi
    rw [List.getElem?_append_right (by omega)] at hq
    have e0 : i - cs.length = 0 := by
      have := (List.getElem?_eq_some_iff.1 hi).1
      simp at this
      omega
    rw [e0] at hi
    rw [← hl, e0] at hq
    simp only [List.getElem?_cons_zero, Option.some.injEq] at hi hq
    subst hi
    subst hq
    exact h1.keptBy ho hg

theorem docGo_ch {args : List (List Mn)} (ha : ∀ f ∈ args, Ch f) : ∀ {p O : List Mn}, Pol p → Ch O → (docGo args O p).2 = 0 → Ch (docGo args O p).1
  | [], O, _, hO, _ => hO
  | m :: p, O, hp, hO, h => by
    have hxs : ∀ x ∈ m.2, 0 ≤ x ∧ x ≤ 64 := (hp.good (m := m) (by simp)).2.2.2
    unfold docGo at h ⊢
    cases hn : noughtB m.2 args
    · rw [hn, if_neg (by decide)] at h
      rw [if_neg (by decide)]
      obtain ⟨_, e2, _⟩ := fac_worth ha hxs hn (ch_const (hp.mon m (by simp)) (hp.lim m (by simp))) (by simp)
      by_cases h0 : (facR m.2 args [(m.1, [])]).2 = 0
      · rw [if_pos h0] at h ⊢
        have hX := (e2 h0).2
        by_cases h1 : addPE O (facR m.2 args [(m.1, [])]).1 = 0
        · rw [if_pos h1] at h ⊢
          exact docGo_ch ha hp.tail (hO.add hX h1) h
        · rw [if_neg h1] at h
          exact absurd h h1
      · rw [if_neg h0] at h
        exact absurd h h0
    · rw [hn, if_pos rfl] at h
      rw [if_pos rfl]
      exact docGo_ch ha hp.tail hO h

theorem checkAll_inv : ∀ {args : List (List Mn)}, checkAllE args = 0 → ∀ x ∈ args, checkE x 9223372036854775807 = 0
  | [], _, x, hx => by cases hx
  | a :: args, h, x, hx => by
    simp only [checkAllE] at h
    by_cases ha : checkE a 9223372036854775807 = 0
    · rw [if_pos ha] at h
      rcases List.mem_cons.1 hx with rfl | hx
      · exact ha
      · exact checkAll_inv h x hx
    · rw [if_neg ha] at h
      exact absurd h ha

theorem compL_lens {p : List Mn} {args : List (List Mn)} (hp : ∀ m ∈ p, Lim m.1) (ha : ∀ f ∈ args, ∀ m ∈ f, Lim m.1) : (compL p args).length ≤ 256 ∧ ∀ m ∈ compL p args, m.1.length ≤ 64 ∧ m.2.length ≤ 512 := by
  by_cases h0 : compE p args = 0
  · have h1 := h0
    unfold compE at h1
    by_cases c1 : checkAllE [p] = 0
    · rw [if_pos c1] at h1
      by_cases c2 : checkAllE args = 0
      · rw [if_pos c2] at h1
        by_cases c3 : varsN p ≤ args.length
        · rw [if_pos c3] at h1
          have hcp := checkAll1_iff.1 c1
          have hpp : Pol p := Pol.of hp (by decide) hcp
          have hca := checkAll_inv c2
          have hch : ∀ f ∈ args, Ch f := fun f hf => ⟨Pol.of (ha f hf) (by decide) (hca f hf), hca f hf⟩
          have hd := docGo_eq hch hpp St.nil okF_zero keysLe_nil
          have e0 : rowL [] = [] := rfl
          rw [e0] at hd
          have hz : (docGo args [] p).2 = 0 := hd.1.trans h1
          have hl : compL p args = (docGo args [] p).1 := by
            unfold compL
            rw [if_pos h0, hd.2 hz]
          rw [hl]
          exact (docGo_ch hch hpp ch_nil hz).lens
        · rw [if_neg c3] at h1
          exact absurd h1 (by decide)
      · rw [if_neg c2] at h1
        exact absurd h1 c2
    · rw [if_neg c1] at h1
      exact absurd h1 c1
  · unfold compL
    rw [if_neg h0]
    exact nil_lens

set_option maxRecDepth 100000 in
set_option maxHeartbeats 3200000 in
theorem polyComposes_any (v u : Value) (p : List Mn) (args : List (List Mn)) (w : World) (h : Ms w v p) (h' : Ps w u args) (hf : Fit 140737488351232 p) (hf' : FitP 140737488351232 args) :
    Calls Try.prog 6 #[v, u] w fun e w' => e = .returned (.bool true) ∧ Below w.heap.size w w' := by
  obtain ⟨i1, hi1, hy0, hy1, hy2⟩ := info_parts info_monos
  obtain ⟨bo, cap', rfl, hbo, hcb, q0'⟩ := Row.flat h'
  unfold maxLen at hcb
  have HL : Hid (∀ m ∈ p, m.2.length ≤ 4611686018427387904) := fun m hm => by have := (hf.2 m hm).2; omega
  have HL' : Hid (∀ f ∈ args, ∀ m ∈ f, m.2.length ≤ 4611686018427387904) := fun f hff m hm => by have := ((hf'.2 f hff).2 m hm).2; omega
  have HS : Hid ((compL p args).length ≤ 256 ∧ ∀ m ∈ compL p args, m.1.length ≤ 64 ∧ m.2.length ≤ 512) := compL_lens h.limA h'.limA
  have hal : args.length * 24 ≤ 140737488351232 := hf'.1
  have HP : Hid (Ms w v p) := h
  have HQ : Hid (Ps w (.slice bo args.length cap') args) := h'
  have HF : Hid (Fit 140737488351232 p) := hf
  have HF' : Hid (∀ f ∈ args, Fit 140737488351232 f) := hf'.2
  clear h h' hf hf' q0'
  go_enter Try.func6, Try.ntmps6
  go_wp2_with fail
  refine (shown_any _).mono ?_
  rintro e w1 ⟨rfl, hb1⟩
  have HP1 : Hid (Ms w1 v p) := HP.out.kp (Kp.of_below hb1)
  have HQ1 : Hid (Ps w1 (.slice bo args.length cap') args) := HQ.out.kp (Kp.of_below hb1)
  have HB1 : Hid (Below w.heap.size w w1) := hb1
  clear hb1 HP HQ
  go_wp2_with fail
  refine (copied_any v p _ HP1.out HF.out).mono ?_
  rintro e w2 ⟨va, rfl, oa, hb2⟩
  have HA2 : Hid (Ms w2 va p) := oa.ms
  have HP2 : Hid (Ms w2 v p) := HP1.out.kp (Kp.of_below hb2)
  have HQ2 : Hid (Ps w2 (.slice bo args.length cap') args) := HQ1.out.kp (Kp.of_below hb2)
  have HB2 : Hid (Below w.heap.size w w2) := below_step HB1.out hb2
  clear hb2 oa HP1 HQ1 HB1
  go_wp2
  go_loopw [7, 8] (fun x i wr => ∃ k : Nat, k ≤ args.length ∧ i = .int .i64 k ∧ OP wr w2.heap.size x (args.take k) ∧ Below w2.heap.size w2 wr) (fun _ i _ => args.length - (intOf i).toNat)
  case atStart => exact ⟨0, Nat.zero_le _, rfl, OP.empty (Nat.le_refl _), below_alloc _⟩
  case round =>
    obtain ⟨k, hk, rfl, hop, hbl⟩ := hrel
    have HO : Hid (OP wr w2.heap.size u7 (args.take k)) := hop
    have HBr : Hid (Below w2.heap.size w2 wr) := hbl
    have HQr : Hid (Ps wr (.slice bo args.length cap') args) := HQ2.out.kp (Kp.of_below hbl)
    clear hop hbl
    by_cases hlt : k < args.length
    · obtain ⟨g, off, f, a1, c1, rfl, hm1, hc0, hmo, hl1, hl2⟩ := HQr.out.at hlt
      have HX : Hid (args[k]? = some f) := hm1
      have HFf : Hid (Fit 140737488351232 f) := HF'.out f (List.mem_of_getElem? hm1)
      clear hm1
      go_wp2_with fail
      refine (copied_any _ f _ hmo HFf.out).mono ?_
      rintro e w3 ⟨vc, rfl, oc, hb3⟩
      obtain ⟨b1, d1, rfl⟩ := oc.slice
      have HV : Hid (OM w3 w2.heap.size (.slice b1 f.length d1) f) := oc.mono HBr.out.size
      have HB1 : Hid (Below wr.heap.size wr w3) := hb3
      have HBw : Hid (Below w2.heap.size w2 w3) := below_step HBr.out hb3
      clear oc hb3 hmo hc0
      obtain ⟨cs, hcl, hcc, hcow⟩ := HO.out
      have htk : (args.take k).length = k := by simp; omega
      have HCl : Hid (cs.length = (args.take k).length) := hcl
      have HCC : Hid (∀ (i : Nat) (c : Value) (f : List Mn), cs[i]? = some c → (args.take k)[i]? = some f → OM wr w2.heap.size c f) := hcc
      have hb2 := below_step HB1.out (below_alloc (w := w3) (.cells #[.slice b1 f.length d1] 22))
      have hb4 := below_alloc (w := w3) (.cells #[.slice b1 f.length d1] 22)
      obtain ⟨W2, hW2⟩ : ∃ X, X = w3.alloc (.cells #[.slice b1 f.length d1] 22) := ⟨_, rfl⟩
      have HNew : Hid (∀ (j : Nat) (u : Value), [Value.slice b1 f.length d1][j]? = some u → W2.cell? ((⟨w3.heap.size, 0, none⟩ : Addr).add j) = some u) := by
        intro j u hu
        rw [hW2, Addr.add_lit, Nat.zero_add, cell_of_row _ _ _ _ _ _ (heap_alloc_new _ _)]
        simpa using hu
      rw [← hW2] at hb2 hb4
      have HOw : Hid (W2.ownsRow w2.heap.size 22 1 u7 (args.take k).length cs) := ownsRow_later hcow hb2
      have HW2 : Hid (Below w2.heap.size w2 W2) := below_step HBr.out hb2
      have HB2' : Hid (Below wr.heap.size wr W2) := hb2
      have HV2 : Hid (OM W2 w2.heap.size (.slice b1 f.length d1) f) := HV.out.later hb4
      have HTk : Hid ((args.take k).length = k) := htk
      clear hcl hcc hcow hb2 hb4 htk
      subst hW2
      go_wp2_with (at_builtin; refine wpList_append_own _ rfl _ _ 32 rfl w2.heap.size 22 i1 _ 1 24 under_polys hi1 hy0 hy1 hy2 rfl (by decide) u7 (args.take k).length cs rfl HOw.out _ 1 1 [.slice b1 f.length d1] rfl rfl HNew.out (by intro u hu; simp at hu; subst hu; rfl) (by rw [HTk.out]; unfold maxLen; omega) (by rw [HTk.out]; omega) HW2.out.size ?_; intro v5 w5 hown5 hgrow5 _)
      have hor5 := OP.snoc HCl.out (fun i c x h1 h2 => (HCC.out i c x h1 h2).later HB2'.out) HOw.out HV2.out hown5 hgrow5
      have HO5 : Hid (OP w5 w2.heap.size v5 (args.take (k + 1))) := by
        show OP _ _ _ _
        rw [take_get HX.out]
        exact hor5
      have HB5 : Hid (Below w2.heap.size w2 w5) := HW2.out.grown hgrow5 HW2.out.size (fun j hj => own_blk HOw.out hj)
      clear hor5 hown5 hgrow5
      try go_wp2
      go_roundw
      case rel => exact ⟨k + 1, by omega, by go_num, HO5.out, HB5.out⟩
      case measure => simp [intOf]; omega
    · have hop := HO.out
      rw [List.take_of_length_le (by omega)] at hop
      obtain ⟨w3, hw3⟩ : ∃ X, X = wr := ⟨wr, rfl⟩
      have HC3 : Hid (Ps wr u7 args) := hop.ps
      have HA3 : Hid (Ms wr va p) := HA2.out.kp (Kp.of_below HBr.out)
      have HP3 : Hid (Ms wr v p) := HP2.out.kp (Kp.of_below HBr.out)
      have HB3 : Hid (Below w.heap.size w wr) := below_step HB2.out HBr.out
      rw [← hw3] at HC3 HA3 HP3 HQr HB3 ⊢
      clear hop hw3 HO HBr HA2 HP2 HQ2 HB2
      obtain ⟨oo, oc, rfl, hoc1, hoc2, _⟩ := Row.flat HC3.out
      unfold maxLen at hoc2
      go_wp2_with fail
      refine (compose_any _ _ p args _ HA3.out HC3.out).mono ?_
      rintro e w4 ⟨vs, rfl, os, hb4⟩
      obtain ⟨A, hA⟩ : ∃ A, A = awayB w3.heap.size w4.heap.size := ⟨_, rfl⟩
      have HAe : Hid (A = awayB w3.heap.size w4.heap.size) := hA
      have HAn : Hid (∀ g, w4.heap.size ≤ g → A g = true) := by intro g hg; rw [hA]; exact away_new hg
      have K34 : Kp w3 (only A w4) := by rw [hA]; exact away_old hb4
      have HP4 : Hid (Ms (only A w4) v p) := HP3.out.kp K34
      have HQ4 : Hid (Ps (only A w4) (.slice bo args.length cap') args) := HQr.out.kp K34
      have HA4 : Hid (Ms (only A w4) va p) := HA3.out.kp K34
      have HC4 : Hid (Ps (only A w4) (.slice oo args.length oc) args) := HC3.out.kp K34
      have HO4 : Hid (OM w4 w3.heap.size vs (compL p args)) := os
      have HB34 : Hid (Below w3.heap.size w3 w4) := hb4
      have HB4 : Hid (Below w.heap.size w w4) := below_step HB3.out hb4
      obtain ⟨E, hE⟩ : ∃ E, E = compE p args := ⟨_, rfl⟩
      have HE : Hid (E = compE p args) := hE
      rw [← hE]
      clear hE os hb4 hA K34 HP3 HQr HA3 HC3
      go_wp2_with fail
      refine (refCompose_any A _ _ p args _ HP4.out HQ4.out HAn.out HL.out HL'.out).mono ?_
      rw [← HE.out]
      rintro e w5 ⟨vw, rfl, hw5, hb5⟩
      have HW5 : Hid (Ms (only A w5) vw (compL p args)) := hw5
      have HB45 : Hid (Below w4.heap.size w4 w5) := hb5
      have hEE : (E == E) = true := by simp
      have hEN : (E != E) = false := by simp
      clear hw5 hb5
      go_wp2_with fail
      refine (same_any _ _ (compL p args) (compL p args) _ (HO4.out.later HB45.out).ms (HW5.out.kp (only_kp A w5))).mono ?_
      rw [show decide (compL p args = compL p args) = true by simp]
      rintro e w6 ⟨rfl, n6, hw6⟩
      have HB46 : Hid (Below w4.heap.size w4 w6) := below_step HB45.out (below_drawn hw6)
      have HB56 : Hid (Below w5.heap.size w5 w6) := below_drawn hw6
      clear hw6
      go_wp2_with fail
      refine (pspoil_any vs (compL p args) w3.heap.size w4 _ HO4.out HB46.out HS.out.2 HS.out.1).mono ?_
      rintro e w11 ⟨rfl, hs11⟩
      have K11 : Kp (only A w6) (only A w11) := by rw [HAe.out]; exact away_spl hs11
      have K4 : Kp (only A w4) (only A w11) := (only_below HB46.out).trans K11
      have HP11 : Hid (Ms w11 v p) := (HP4.out.kp K4).kp (only_kp A w11)
      have HQ11 : Hid (Ps w11 (.slice bo args.length cap') args) := (HQ4.out.kp K4).kp (only_kp A w11)
      have HA11 : Hid (Ms w11 va p) := (HA4.out.kp K4).kp (only_kp A w11)
      have HC11 : Hid (Ps w11 (.slice oo args.length oc) args) := (HC4.out.kp K4).kp (only_kp A w11)
      have HW11 : Hid (Ms w11 vw (compL p args)) := (HW5.out.kp ((only_below HB56.out).trans K11)).kp (only_kp A w11)
      have HB11 : Hid (Below w.heap.size w w11) := HB3.out.trans ((spl_below (HB34.out.trans (HB46.out.mono HB34.out.size)) hs11 (Nat.le_trans HB34.out.size HB46.out.size)).mono HB3.out.size)
      clear hs11 K11 K4 HP4 HQ4 HA4 HC4 HW5 HO4
      go_wp2
      go_loopw [13] (fun i wr => ∃ k : Nat, k ≤ args.length ∧ i = .int .i64 k ∧ Below w11.heap.size w11 wr) (fun i _ => args.length - (intOf i).toNat)
      case atStart => exact ⟨0, Nat.zero_le _, rfl, Below.refl _ _⟩
      case round =>
        obtain ⟨k2, hk2, rfl, hbl⟩ := hrel
        obtain ⟨wX, rfl⟩ : ∃ X, X = wr := ⟨wr, rfl⟩
        have HBx : Hid (Below w11.heap.size w11 wX) := hbl
        by_cases hlt2 : k2 < args.length
        · obtain ⟨g2, off2, f2, a2, c2, rfl, hm2, hc2, hmo2, hq1, hq2⟩ := (HQ11.out.kp (Kp.of_below hbl)).at hlt2
          obtain ⟨g3, off3, f3, a3, c3, rfl, hm3, hc3, hmo3, hq3, hq4⟩ := (HC11.out.kp (Kp.of_below hbl)).at hlt2
          rw [hm2] at hm3
          cases hm3
          have HM2 : Hid (Ms wX (.slice a2 f2.length c2) f2) := hmo2
          have HM3 : Hid (Ms wX (.slice a3 f2.length c3) f2) := hmo3
          clear hm2 hmo2 hmo3 hbl
          go_wp2_with fail
          have hS : Below wX.heap.size wX wX.drew := (Below.refl _ _).drew
          refine wp_region_held_drew (S := fun w' => Below wX.heap.size wX w') (by kernel_rfl) hS (fun _ => ?_)
          obtain ⟨W0, hW0⟩ : ∃ X, X = wX.drew := ⟨_, rfl⟩
          rw [← hW0] at hS ⊢
          clear hW0
          refine wpAnyH_take (i := 0) (v := .slice (some ⟨g3, off3, none⟩) args.length oc) rfl (by kernel_rfl) (by kernel_rfl) (by kernel_rfl) (fun _ _ _ h => h) (Or.inl ⟨by rfl, fun w' _ => by go_simp⟩) hS ?_
          simp only [Act.put, List.setIfInBounds_toArray]
          refine wpAnyH_take (i := 1) (v := .int .i64 (k2 : Int)) rfl (by kernel_rfl) (by kernel_rfl) (by kernel_rfl) (fun _ _ _ h => h) (Or.inl ⟨by rfl, fun w' _ => by go_simp⟩) hS ?_
          simp only [Act.put]
          refine wpAnyH_take (i := 2) (v := .pointer (some ⟨g3, off3 + k2, none⟩)) rfl (by kernel_rfl) (by kernel_rfl) (by kernel_rfl) (fun _ _ _ h => h) (Or.inl ⟨by rfl, fun w' _ => by go_simp⟩) hS ?_
          simp only [Act.put]
          refine wpAnyH_take (i := 3) (v := .slice a3 f2.length c3) rfl (by kernel_rfl) (by kernel_rfl) (by kernel_rfl) (fun _ _ _ h => h) (Or.inl ⟨by rfl, fun w' h => by have hh := (Kp.of_below h).cell _ _ hc3; go_simp⟩) hS ?_
          simp only [Act.put]
          refine wpAnyH_take (i := 4) (v := .slice (some ⟨g2, off2, none⟩) args.length cap') rfl (by kernel_rfl) (by kernel_rfl) (by kernel_rfl) (fun _ _ _ h => h) (Or.inl ⟨by rfl, fun w' _ => by go_simp⟩) hS ?_
          simp only [Act.put]
          refine wpAnyH_take (i := 5) (v := .int .i64 (k2 : Int)) rfl (by kernel_rfl) (by kernel_rfl) (by kernel_rfl) (fun _ _ _ h => h) (Or.inl ⟨by rfl, fun w' _ => by go_simp⟩) hS ?_
          simp only [Act.put]
          refine wpAnyH_take (i := 6) (v := .pointer (some ⟨g2, off2 + k2, none⟩)) rfl (by kernel_rfl) (by kernel_rfl) (by kernel_rfl) (fun _ _ _ h => h) (Or.inl ⟨by rfl, fun w' _ => by go_simp⟩) hS ?_
          simp only [Act.put]
          refine wpAnyH_take (i := 7) (v := .slice a2 f2.length c2) rfl (by kernel_rfl) (by kernel_rfl) (by kernel_rfl) (fun _ _ _ h => h) (Or.inl ⟨by rfl, fun w' h => by have hh := (Kp.of_below h).cell _ _ hc2; go_simp⟩) hS ?_
          simp only [Act.put]
          refine wpAnyH_ready (rs := [8]) (by kernel_rfl) (by simp) (AllReadyH.cons rfl (fun K hK => ?_) (AllReadyH.nil))
          go_simp
          refine (same_any _ _ f2 f2 _ (HM3.out.kp (Kp.of_below hS)) (HM2.out.kp (Kp.of_below hS))).mono ?_
          rw [show decide (f2 = f2) = true by simp]
          rintro e w7 ⟨rfl, n7, hw7⟩
          have hb7 := below_drawn hw7
          refine hK.out _ _ (below_step hS hb7) (fun hS1 => ?_)
          clear hK K
          have HB7 : Hid (Below w11.heap.size w11 w7) := below_step HBx.out (below_step hS hb7)
          clear hw7 hb7 hS hc2 hc3
          have hS := hS1
          clear hS1
          refine wpAnyH_take (i := 9) (v := .bool false) rfl (by kernel_rfl) (by kernel_rfl) (by kernel_rfl) (fun _ _ _ h => h) (Or.inl ⟨by rfl, fun w' _ => by go_simp⟩) hS ?_
          simp only [Act.put, List.setIfInBounds_toArray]
          refine wpAnyH_done (by kernel_rfl) ?_ _
          clear hS
          go_wp2
          go_roundw
          case rel => exact ⟨k2 + 1, by omega, by go_num, HB7.out⟩
          case measure => simp [intOf]; omega
        · have KX := Kp.of_below hbl
          have HPx : Hid (Ms wX v p) := HP11.out.kp KX
          have HAx : Hid (Ms wX va p) := HA11.out.kp KX
          have HCx : Hid (Ps wX (.slice oo args.length oc) args) := HC11.out.kp KX
          have HWx : Hid (Ms wX vw (compL p args)) := HW11.out.kp KX
          have HBX : Hid (Below w.heap.size w wX) := below_step HB11.out hbl
          clear KX hbl
          go_wp2_with fail
          refine (compose_any _ _ p args _ HAx.out HCx.out).mono ?_
          rw [← HE.out]
          rintro e w12 ⟨vt, rfl, ot, hb12⟩
          have K12 := Kp.of_below hb12
          have HP12 : Hid (Ms w12 v p) := HPx.out.kp K12
          have HA12 : Hid (Ms w12 va p) := HAx.out.kp K12
          have HW12 : Hid (Ms w12 vw (compL p args)) := HWx.out.kp K12
          have HT12 : Hid (Ms w12 vt (compL p args)) := ot.ms
          have HB12 : Hid (Below w.heap.size w w12) := below_step HBX.out hb12
          clear hb12 ot K12
          go_wp2_with fail
          refine (same_any _ _ p p _ HA12.out HP12.out).mono ?_
          rw [show decide (p = p) = true by simp]
          rintro e w13 ⟨rfl, n13, hw13⟩
          have HB13 : Hid (Below w12.heap.size w12 w13) := below_drawn hw13
          clear hw13
          go_wp2_with fail
          refine (same_any _ _ (compL p args) (compL p args) _ (HT12.out.kp (Kp.of_below HB13.out)) (HW12.out.kp (Kp.of_below HB13.out))).mono ?_
          rw [show decide (compL p args = compL p args) = true by simp]
          rintro e w15 ⟨rfl, n15, hw15⟩
          have HB15 : Hid (Below w.heap.size w w15) := below_step HB12.out (below_step HB13.out (below_drawn hw15))
          clear hw15
          go_wp2
          go_ret
          exact ⟨rfl, HB15.out⟩

set_option maxRecDepth 100000 in
theorem polyComposes_lifted (os : Os) (started : os.Started) (H : Type) (enc : TypeId × Value → H) :
    ReturnsInHanded {} Try.checked os 6 .any (Rows.polyComposesSpec.pre6 enc Try.prog Try.f6 Rows.polyComposesRow.domain false) (Rows.polyComposesSpec.post enc Try.prog Try.f6 false true false false) := by
  refine returnsInHanded_of_change_sized (C := Try.checked) own started (by kernel_rfl) Try.func6
    (ChangeSpec.witness6 (enc := enc) (C := Try.checked) false ⟨#[], #[.slice none 0 0, .slice none 0 0], []⟩ 8 (by kernel_rfl) (by kernel_rfl) (by kernel_rfl) (by kernel_rfl)) ?_
  intro W base args ds gs before hval0 hW hcnd hsz0 _
  have hsz : (DataW.weightsEach Try.prog (Try.f6.params.toList ++ Rows.polyComposesSpec.plain.varTypes Try.prog) (ds ++ gs)).all (· ≤ reachBytes) = true := hsz0
  have hval : ∀ (j : Nat) t v, Try.f6.params[j]? = some t → args[j]? = some v → Value.okWide Try.prog W .any base t v := hval0
  have hW' := hW
  obtain ⟨p, q, hA0, hV, rfl, hfz, hnd⟩ := hW
  have hA : DataW.TrodAll enc Try.prog W 0 (fun _ => true) true Try.f6.params.toList args.toList ds p := hA0
  rw [Try.params6] at hA hval hsz
  obtain ⟨v0, vs0, d0, ds0, p0, q0, hargs, rfl, rfl, h0, r0⟩ := trodAll_cons hA
  obtain ⟨v1, vs1, d1, ds1, p1, q1, rfl, rfl, rfl, h1, r1⟩ := trodAll_cons r0
  obtain ⟨rfl, rfl, rfl⟩ := trodAll_nil r1
  obtain rfl : args = #[v0, v1] := by cases args; simp_all
  obtain ⟨rfl, rfl⟩ := trodVars_none hV
  obtain ⟨a0, len0, cap0, rfl⟩ := okWide_slice Try.underlying22 (hval 0 22 v0 rfl rfl)
  have k0 := h0
  have lt0 : ∀ x ∈ p0, x.block < W.heap.size := by obtain ⟨m, hm⟩ := k0; exact DataW.trod_lt m _ _ _ hm
  obtain ⟨z0, w0, g0⟩ : ∃ zs, Ms W (.slice a0 len0 cap0) zs ∧ Fit reachBytes zs := by
    obtain ⟨fuel, hf⟩ := h0
    obtain ⟨v, zs, e, hz, hfit⟩ := open_monos hf
    simp [Value.cells] at e
    subst e
    exact ⟨zs, hz, hfit _ fun n hn => of_decide_eq_true (List.all_eq_true.1 hsz _ (DataW.weights_mem_each (j := 0) (t := 22) rfl rfl n hn))⟩
  obtain ⟨a1, len1, cap1, rfl⟩ := okWide_slice Try.underlying32 (hval 1 32 v1 rfl rfl)
  have k1 := h1
  have lt1 : ∀ x ∈ p1, x.block < W.heap.size := by obtain ⟨m, hm⟩ := k1; exact DataW.trod_lt m _ _ _ hm
  obtain ⟨z1, w1, g1⟩ : ∃ zs, Ps W (.slice a1 len1 cap1) zs ∧ FitP reachBytes zs := by
    obtain ⟨fuel, hf⟩ := h1
    obtain ⟨v, zs, e, hz, hfit⟩ := open_polys hf
    simp [Value.cells] at e
    subst e
    exact ⟨zs, hz, hfit _ fun n hn => of_decide_eq_true (List.all_eq_true.1 hsz _ (DataW.weights_mem_each (j := 1) (t := 32) rfl rfl n hn))⟩
  clear hA0 hval0
  refine (polyComposes_any _ _ z0 z1 W w0 w1 g0 g1).mono fun e W' ⟨he, bel⟩ => ?_
  subst he
  exact ⟨_, rfl, _, _, _, [], _, [], hW', trodAll_mk1 (shut_bool Try.underlying4 _), (trodAll_cons_mk (Below.trod laidOut (by kernel_rfl) (of_decide_eq_true (by kernel_rfl)) k0 bel lt0) (trodAll_cons_mk (Below.trod laidOut (by kernel_rfl) (of_decide_eq_true (by kernel_rfl)) k1 bel lt1) trodAll_mk0)), rfl, bel.frame _, fun h => by cases h⟩

theorem polyComposes_holds : Rows.PolyComposesSaid :=
  OpenClaim.holds_of_wide 6 Try.f6 rfl rfl rfl rfl rfl rfl rfl ⟨rfl, rfl, rfl, rfl, rfl⟩ rfl rfl rfl rfl rfl (by kernel_rfl) Try.func6 (by kernel_rfl)
    (of_decide_eq_true (by kernel_rfl)) (by unfold Func.isWrapper; first | (rw [if_pos (by decide +kernel)]; kernel_rfl) | (rw [if_neg (by decide +kernel)]; exact ⟨rfl, rfl⟩))
    (fun os started H enc _ => polyComposes_lifted os started H enc)

#print axioms polyComposes_holds

end Go.Proofs.Ytfifgmcjilkigaa
