/- What the document's laid answers. -/
import Derived.Test.YtfifgmcjilkigaaPAway
import Derived.Test.YtfifgmcjilkigaaPAddR
import Derived.Test.YtfifgmcjilkigaaRefAdd
import Derived.Test.YtfifgmcjilkigaaPRefD
namespace Go.Proofs.Ytfifgmcjilkigaa
open Go.RowKit Go.Maps

theorem addL_short (xs ys : List Nat) : (addL xs ys).length ≤ 64 := by
  unfold addL resL
  split
  · split
    · assumption
    · simp
  · simp

theorem ret2b {v : Value} {a b : Bool} (h : a = b) : Ending.returned (.tuple #[v, .bool a]) = .returned (.tuple #[v, .bool b]) := by rw [h]

theorem grown_own {w w' : World} {base : Nat} {e : TypeId} {s n : Nat} {v : Value} {xs : List Value} (ho : w.ownsRow base e s v n xs) (hb : base ≤ w.heap.size) (hg : w.grownBy w' v.ownBlock) : Below base w w' :=
  ⟨hg.os, hg.tape, hg.output, hg.size, fun k hk => hg.block k (by omega) (fun e => by
    have := own_blk ho e.symm
    omega)⟩

theorem cells2_new (w : World) (cv ev : Value) (t : TypeId) (j : Nat) (u : Value) (hj : [cv, ev][j]? = some u) : (w.alloc (.cells #[cv, ev] t)).cell? ((⟨w.heap.size, 0, none⟩ : Addr).add j) = some u := by
  rw [Addr.add_lit, Nat.zero_add, cell_of_row _ _ _ _ _ _ (heap_alloc_new _ _)]
  simpa using hj

/-- A monomial appended to such a row. -/
theorem wpList_lay {w0 w : World} {base : Nat} {v cv ev : Value} {O : List Mn} {m : Mn} {ops : Array Oper} {rest : List Oper} {o : Oper} {a : Act} {Q : Exit → Act → World → Prop} (hgd : o.guard = none) (s x : Operand) (t : TypeId) (ht : t = 22)
    (ho : o.op = .call { callee := .builtin .append, args := #[s, x], argTypes := #[t, t] }) (hs : a.eval s = v) (hol : OL w0 w base v O) (ad : Addr) (c : Nat) (hx : a.eval x = .slice (some ad) 1 c)
    (hcell : ∀ (j : Nat) (u : Value), [cv, ev][j]? = some u → w.cell? (ad.add j) = some u) (h1 : cv.oneCell' = true) (h2 : ev.oneCell' = true) (hc : Sl w0 cv m.1 ∨ Ow w base cv m.1) (he : Is w0 ev m.2) (hl : O.length ≤ 1000) (hb : base ≤ w.heap.size)
    (hK : ∀ v' w', OL w0 w' base v' (O ++ [m]) → Below base w w' → wpList Try.prog ops Q rest (a.put o.dst v') w') : wpList Try.prog ops Q (o :: rest) a w := by
  subst ht
  obtain ⟨i1, hi1, hy0, hy1, hy2⟩ := info_parts info_mono
  obtain ⟨cs, hcl, hcc, hown⟩ := hol
  refine wpList_append_own w hgd s x 22 ho base 46 i1 _ 2 48 under_monos hi1 hy0 hy1 hy2 rfl (by decide) v O.length (cs.flatMap fun c => [c.1, c.2]) hs hown ad 1 c [cv, ev] hx rfl hcell ?_ (by unfold maxLen; omega) (by omega) hb ?_
  · intro u hu
    simp only [List.mem_cons, List.not_mem_nil, or_false] at hu
    rcases hu with rfl | rfl
    · exact h1
    · exact h2
  · intro v' w' hown' hgrow' _
    exact hK v' w' (OL.snoc hcl hcc hown hc he hown' hgrow' rfl) (grown_own hown hb hgrow')

set_option maxRecDepth 100000 in
set_option maxHeartbeats 6400000 in
theorem refLaid_any (A : Nat → Bool) (v cv ev : Value) (p : List Mn) (m : Mn) (w : World) (h : Ms (only A w) v p) (hm : Mo (only A w) cv ev m) (hp : p.length ≤ 256) (hA : ∀ g, w.heap.size ≤ g → A g = true) :
    Calls Try.prog 38 #[v, .agg #[cv, ev]] w fun e w' => Below w.heap.size w w' ∧
      ((laidR p m = none ∧ ∃ u, e = .returned (.tuple #[u, .bool false])) ∨ (∃ r, laidR p m = some r ∧ ∃ u, e = .returned (.tuple #[u, .bool true]) ∧ Ms (only A w') u r)) := by
  obtain ⟨i1, hi1, hy0, hy1, hy2⟩ := info_parts info_mono
  obtain ⟨ao, cap, rfl, hao, hca, q0⟩ := Row.flat h
  unfold maxLen at hca
  obtain ⟨a1, c1, rfl, hl1, hl2, _⟩ := hm.1.flat
  obtain ⟨a2, c2, rfl, hl3, hl4, _⟩ := Row.flat hm.2
  unfold maxLen at hl2 hl4
  have HM : Hid (Ms (only A w) (.slice ao p.length cap) p) := h
  have HMo : Hid (Mo (only A w) (.slice a1 m.1.length c1) (.slice a2 m.2.length c2) m) := hm
  have HA : Hid (∀ g, w.heap.size ≤ g → A g = true) := hA
  clear h q0 hm hA
  go_enter Try.func38, Try.ntmps38
  go_wp2_with fail
  refine (refSmall_any _ _ m _ (HMo.out.kp ((only_kp A w).trans (Kp.of_below (below_alloc _))))).mono ?_
  rintro e w1 ⟨rfl, hb1⟩
  obtain ⟨hx0, hx1, hbw⟩ := box2 hb1
  cases hsm : smallR m
  · have HF : Hid (laidR p m = none) := by show _ = _; unfold laidR; rw [if_neg (by rw [hsm]; decide)]
    go_wp2
    go_ret2
    exact ⟨hbw, .inl ⟨HF.out, _, rfl⟩⟩
  have HSm : Hid (smallR m = true) := hsm
  clear hsm
  have hsz1 : w.heap.size < w1.heap.size := Nat.lt_of_lt_of_le (by simp) hb1.size
  have HX0 : Hid (w1.cell? ⟨w.heap.size, 0, none⟩ = some (.slice a1 m.1.length c1)) := hx0
  have HX1 : Hid (w1.cell? ⟨w.heap.size, 1, none⟩ = some (.slice a2 m.2.length c2)) := hx1
  have HBW : Hid (Below w.heap.size w w1) := hbw
  clear hb1 hx0 hx1 hbw
  go_wp2
  go_loopw [6, 7, 8] (fun x d i wr => ∃ (k : Nat) (O : List Mn) (b : Bool), k ≤ p.length ∧ O.length ≤ k + b.toNat ∧ d = .bool b ∧ i = .int .i64 k ∧ OL (only A w) wr w1.heap.size x O ∧ lay m p false = (lay m (p.drop k) b).map (fun t => O ++ t) ∧ Below w1.heap.size w1 wr) (fun _ _ i _ => p.length - (intOf i).toNat)
  case atStart => exact ⟨0, [], false, Nat.zero_le _, by simp, rfl, rfl, OL.empty (Nat.le_refl _), by simp, below_alloc _⟩
  case round =>
    obtain ⟨k, O, b, hk, hO, rfl, rfl, hol, hlay, hbl⟩ := hrel
    have HLay : Hid (lay m p false = (lay m (p.drop k) b).map (fun t => O ++ t)) := hlay
    have hO3 : O.length ≤ 300 := by cases b <;> simp at hO <;> omega
    have HOl : Hid (OL (only A w) wr w1.heap.size u6 O) := hol
    clear hlay hol
    have HB : Hid (Below w1.heap.size w1 wr) := hbl
    have hx0 := (Kp.of_below hbl).cell _ _ HX0.out
    have hx1 := (Kp.of_below hbl).cell _ _ HX1.out
    have hbw : Below w.heap.size w wr := below_step HBW.out hbl
    have KW : Kp (only A w) wr := (only_kp A w).trans (Kp.of_below hbw)
    by_cases hlt : k < p.length
    · obtain ⟨g, off, c, es, b1, d1, b2, d2, rfl, hm1, hc0', hc1', hmo, hn1, hn2, hn3, hn4⟩ := HM.out.at hlt
      have hc0 := KW.cell _ _ hc0'
      have hc1 := KW.cell _ _ hc1'
      have HC0 : Hid (w1.cell? ⟨g, off + k * 2, none⟩ = some (.slice b1 c.length d1)) := ((only_kp A w).trans (Kp.of_below HBW.out)).cell _ _ hc0'
      have HC1 : Hid (w1.cell? ⟨g, off + k * 2 + 1, none⟩ = some (.slice b2 es.length d2)) := ((only_kp A w).trans (Kp.of_below HBW.out)).cell _ _ hc1'
      have HX : Hid (p[k]? = some (c, es)) := hm1
      have HMe : Hid (Mo (only A w) (.slice b1 c.length d1) (.slice b2 es.length d2) (c, es)) := hmo
      have HKW : Hid (Kp (only A w) wr) := KW
      clear hm1 hmo hc0' hc1' KW
      go_wp2_with fail
      refine region_below (by kernel_rfl) (by kernel_rfl) ?_
      go_big_quiet_want
      refine ⟨.pointer (some ⟨w.heap.size, 1, none⟩), fun w' hw' => ?_, ?_⟩
      · unfold Oper.quietAt; go_simp
      simp only [Act.put, List.setIfInBounds_toArray, List.set_cons_zero, List.set_cons_succ]
      go_big_quiet_on
      go_big_quiet_want
      refine ⟨.slice a2 m.2.length c2, fun w' hw' => ?_, ?_⟩
      · have hh := (Kp.of_below hw').cell _ _ hx1; unfold Oper.quietAt; go_simp
      simp only [Act.put, List.setIfInBounds_toArray, List.set_cons_zero, List.set_cons_succ]
      go_big_quiet_on
      (go_big_quiet_want; go_big_quiet_op; go_big_quiet_on)
      (go_big_quiet_want; go_big_quiet_op; go_big_quiet_on)
      go_big_quiet_want
      refine ⟨.pointer (some ⟨g, off + k * 2, none⟩), fun w' hw' => ?_, ?_⟩
      · unfold Oper.quietAt; go_simp
      simp only [Act.put, List.setIfInBounds_toArray, List.set_cons_zero, List.set_cons_succ]
      go_big_quiet_on
      go_big_quiet_want
      refine ⟨.pointer (some ⟨g, off + k * 2 + 1, none⟩), fun w' hw' => ?_, ?_⟩
      · unfold Oper.quietAt; go_simp
      simp only [Act.put, List.setIfInBounds_toArray, List.set_cons_zero, List.set_cons_succ]
      go_big_quiet_on
      go_big_quiet_want
      refine ⟨.slice b2 es.length d2, fun w' hw' => ?_, ?_⟩
      · have hh := (Kp.of_below hw').cell _ _ hc1; unfold Oper.quietAt; go_simp
      simp only [Act.put, List.setIfInBounds_toArray, List.set_cons_zero, List.set_cons_succ]
      go_big_quiet_on
      go_big_quiet_want
      refine ⟨.int .i64 (ordX m.2 es), fun w' hw' => ?_, ?_⟩
      · unfold Oper.quietAt; go_simp; exact (refOrder_any _ _ m.2 es _ (HMo.out.2.kp (HKW.out.trans (Kp.of_below hw'))) (HMe.out.2.kp (HKW.out.trans (Kp.of_below hw')))).mono (fun e w1 ⟨he, hb⟩ => ⟨he, by rw [hb]; exact hw'⟩)
      simp only [Act.put, List.setIfInBounds_toArray, List.set_cons_zero, List.set_cons_succ]
      go_big_quiet_on
      (go_big_quiet_want; go_big_quiet_op; go_big_quiet_on)
      refine wpQuiet_nil ?_
      intro w2 hb2
      have hxa := (Kp.of_below hb2).cell _ _ hx0
      have hxb := (Kp.of_below hb2).cell _ _ hx1
      have hca := (Kp.of_below hb2).cell _ _ hc0
      have hcb := (Kp.of_below hb2).cell _ _ hc1
      clear hx0 hx1 hc0 hc1
      have HO2 : Hid (OL (only A w) w2 w1.heap.size u6 O) := HOl.out.later hb2
      have HB2 : Hid (Below w1.heap.size w1 w2) := below_step HB.out hb2
      have hd : p.drop k = (c, es) :: p.drop (k + 1) := drop_get HX.out
      have HD : Hid (p.drop k = (c, es) :: p.drop (k + 1)) := hd
      clear hd HOl HB HKW hb2 hbw hbl
      by_cases ho0 : ordX m.2 es = 0
      · go_wp2_with fail
        have hS : Below w1.heap.size w1 w2.drew := HB2.out.drew
        have bW : Below w2.heap.size w2 w2.drew := (Below.refl _ _).drew
        refine wp_region_held_drew (S := fun w' => Below w1.heap.size w1 w') (by kernel_rfl) hS (fun _ => ?_)
        obtain ⟨W0, hW0⟩ : ∃ X, X = w2.drew := ⟨_, rfl⟩
        rw [← hW0] at hS bW ⊢
        clear hW0
        refine wpAnyH_take (i := 0) (v := .slice (some ⟨g, off, none⟩) p.length cap) rfl (by kernel_rfl) (by kernel_rfl) (by kernel_rfl) (fun _ _ _ h => h) (Or.inl ⟨by rfl, fun w' _ => by go_simp⟩) hS ?_
        simp only [Act.put, List.setIfInBounds_toArray]
        refine wpAnyH_take (i := 1) (v := .int .i64 (k : Int)) rfl (by kernel_rfl) (by kernel_rfl) (by kernel_rfl) (fun _ _ _ h => h) (Or.inl ⟨by rfl, fun w' _ => by go_simp⟩) hS ?_
        simp only [Act.put]
        refine wpAnyH_take (i := 2) (v := .pointer (some ⟨g, off + k * 2, none⟩)) rfl (by kernel_rfl) (by kernel_rfl) (by kernel_rfl) (fun _ _ _ h => h) (Or.inl ⟨by rfl, fun w' _ => by go_simp⟩) hS ?_
        simp only [Act.put]
        refine wpAnyH_take (i := 3) (v := .pointer (some ⟨g, off + k * 2, none⟩)) rfl (by kernel_rfl) (by kernel_rfl) (by kernel_rfl) (fun _ _ _ h => h) (Or.inl ⟨by rfl, fun w' _ => by go_simp⟩) hS ?_
        simp only [Act.put]
        refine wpAnyH_take (i := 4) (v := .slice b1 c.length d1) rfl (by kernel_rfl) (by kernel_rfl) (by kernel_rfl) (fun _ _ _ h => h) (Or.inl ⟨by rfl, fun w' h => by have hh := (Kp.of_below h).cell _ _ HC0.out; go_simp⟩) hS ?_
        simp only [Act.put]
        refine wpAnyH_take (i := 5) (v := .pointer (some ⟨w.heap.size, 0, none⟩)) rfl (by kernel_rfl) (by kernel_rfl) (by kernel_rfl) (fun _ _ _ h => h) (Or.inl ⟨by rfl, fun w' _ => by go_simp⟩) hS ?_
        simp only [Act.put]
        refine wpAnyH_take (i := 6) (v := .slice a1 m.1.length c1) rfl (by kernel_rfl) (by kernel_rfl) (by kernel_rfl) (fun _ _ _ h => h) (Or.inl ⟨by rfl, fun w' h => by have hh := (Kp.of_below h).cell _ _ HX0.out; go_simp⟩) hS ?_
        simp only [Act.put]
        refine wpAnyH_ready (rs := [7]) (by kernel_rfl) (by simp) (AllReadyH.cons rfl (fun K hK => ?_) AllReadyH.nil)
        go_simp
        refine (refAdd_any _ _ c m.1 _ (HMe.out.1.kp (((only_kp A w).trans (Kp.of_below HBW.out)).trans (Kp.of_below hS))) (HMo.out.1.kp (((only_kp A w).trans (Kp.of_below HBW.out)).trans (Kp.of_below hS)))).mono ?_
        rintro e W1 ⟨vs, rfl, hvs, hbs⟩
        refine hK.out _ _ (below_step hS hbs) (fun hS1 => ?_)
        clear hK K
        have bW1 := below_step bW hbs
        obtain ⟨b3, d3, rfl, hd3, hd4, _⟩ := hvs.sl.flat
        unfold maxLen at hd4
        have HVs : Hid (Ow W1 w1.heap.size (.slice b3 (addL c m.1).length d3) (addL c m.1)) := hvs.mono hS.size
        clear hvs hbs hS bW
        have hS := hS1
        clear hS1
        have HB5 : Hid (Below w1.heap.size w1 W1) := hS
        have HO5 : Hid (OL (only A w) W1 w1.heap.size u6 O) := HO2.out.later bW1
        clear bW1
        have hxa := (Kp.of_below hS).cell _ _ HX0.out
        have hxb := (Kp.of_below hS).cell _ _ HX1.out
        refine wpAnyH_take (i := 8) (v := .tuple #[.slice b3 (addL c m.1).length d3, .int .i64 (addE c m.1)]) rfl (by kernel_rfl) (by kernel_rfl) (by kernel_rfl) (fun _ _ _ h => h) (Or.inl ⟨by rfl, fun w' _ => by go_simp⟩) hS ?_
        simp only [Act.put, List.setIfInBounds_toArray]
        refine wpAnyH_take (i := 9) (v := .slice b3 (addL c m.1).length d3) rfl (by kernel_rfl) (by kernel_rfl) (by kernel_rfl) (fun _ _ _ h => h) (Or.inl ⟨by rfl, fun w' _ => by go_simp⟩) hS ?_
        simp only [Act.put]
        refine wpAnyH_take (i := 10) (v := .int .i64 (addE c m.1)) rfl (by kernel_rfl) (by kernel_rfl) (by kernel_rfl) (fun _ _ _ h => h) (Or.inl ⟨by rfl, fun w' _ => by go_simp⟩) hS ?_
        simp only [Act.put]
        refine wpAnyH_take (i := 11) (v := .slice b3 (addL c m.1).length d3) rfl (by kernel_rfl) (by kernel_rfl) (by kernel_rfl) (fun _ _ _ h => h) (Or.inl ⟨by rfl, fun w' _ => by go_simp⟩) hS ?_
        simp only [Act.put]
        refine wpAnyH_take (i := 12) (v := .int .i64 (addE c m.1)) rfl (by kernel_rfl) (by kernel_rfl) (by kernel_rfl) (fun _ _ _ h => h) (Or.inl ⟨by rfl, fun w' _ => by go_simp⟩) hS ?_
        simp only [Act.put]
        refine wpAnyH_done (by kernel_rfl) ?_ _
        clear hS
        have h64 := addL_short c m.1
        by_cases hae : addE c m.1 = 0
        · have HL2 : Hid (lay m p false = (lay m (p.drop (k + 1)) true).map (fun t => (O ++ [(addL c m.1, m.2)]) ++ t)) := by
            show _ = _
            rw [HLay.out, HD.out, lay, if_pos ho0, if_pos hae]
            cases lay m (p.drop (k + 1)) true with
            | none => rfl
            | some t => simp
          clear HLay HD
          go_wp2_with (first
            | (at_builtin; refine wpList_lay (w0 := only A w) (v := u6) (O := O) (m := (addL c m.1, m.2)) (base := w1.heap.size) rfl _ _ _ rfl rfl rfl (HO5.out.later (below_alloc _)) ⟨W1.heap.size, 0, none⟩ 1 rfl (cells2_new _ _ _ _) rfl rfl (.inr (HVs.out.since (below_alloc _))) HMo.out.2 (by omega) (Nat.le_trans HB5.out.size (below_alloc _).size) ?_; intro v3 w3 hol3 hb3; have HO3 : Hid (OL (only A w) w3 w1.heap.size v3 (O ++ [(addL c m.1, m.2)])) := hol3; have HB3 : Hid (Below w1.heap.size w1 w3) := (below_step HB5.out (below_alloc _)).trans hb3; clear hol3 hb3))
          go_roundw
          case rel => exact ⟨k + 1, _, _, by omega, by rw [List.length_append]; cases b <;> simp at hO ⊢ <;> omega, rfl, by go_num, HO3.out, HL2.out, HB3.out⟩
          case measure => simp [intOf]; omega
        · have HF : Hid (laidR p m = none) := by
            show _ = _
            unfold laidR
            rw [if_pos HSm.out, HLay.out, HD.out, lay, if_pos ho0, if_neg hae]
            rfl
          clear HLay HD
          go_wp2
          go_ret2
          exact ⟨below_step HBW.out HB5.out, .inl ⟨HF.out, _, rfl⟩⟩
      · by_cases hneg : ordX m.2 es < 0
        · cases b
          · have HL2 : Hid (lay m p false = (lay m (p.drop (k + 1)) true).map (fun t => (O ++ [m] ++ [(c, es)]) ++ t)) := by
              show _ = _
              rw [HLay.out, HD.out, lay, if_neg ho0, if_pos ⟨hneg, rfl⟩]
              cases lay m (p.drop (k + 1)) true with
              | none => rfl
              | some t => simp
            clear HD HLay
            go_wp2_with (first
              | (at_builtin; refine wpList_lay (w0 := only A w) (v := u6) (O := O) (m := m) (base := w1.heap.size) rfl _ _ _ rfl rfl rfl (HO2.out.later (below_alloc _)) ⟨w2.heap.size, 0, none⟩ 1 rfl (cells2_new _ _ _ _) rfl rfl (.inl HMo.out.1) HMo.out.2 (by omega) (Nat.le_trans HB2.out.size (below_alloc _).size) ?_; intro v3 w3 hol3 hb3; have HO3 : Hid (OL (only A w) w3 w1.heap.size v3 (O ++ [m])) := hol3; have HB3 : Hid (Below w1.heap.size w1 w3) := (below_step HB2.out (below_alloc _)).trans hb3; have hca3 := (Kp.of_below HB3.out).cell _ _ HC0.out; have hcb3 := (Kp.of_below HB3.out).cell _ _ HC1.out; clear hol3 hb3)
              | (at_builtin; refine wpList_lay (w0 := only A w) (v := v3) (O := O ++ [m]) (m := (c, es)) (base := w1.heap.size) rfl _ _ _ rfl rfl rfl (HO3.out.later (below_alloc _)) ⟨w3.heap.size, 0, none⟩ 1 rfl (cells2_new _ _ _ _) rfl rfl (.inl HMe.out.1) HMe.out.2 (by rw [List.length_append]; simp; omega) (Nat.le_trans HB3.out.size (below_alloc _).size) ?_; intro v4 w4 hol4 hb4; have HO4 : Hid (OL (only A w) w4 w1.heap.size v4 (O ++ [m] ++ [(c, es)])) := hol4; have HB4 : Hid (Below w1.heap.size w1 w4) := (below_step HB3.out (below_alloc _)).trans hb4; clear hol4 hb4))
            go_roundw
            case rel => exact ⟨k + 1, _, _, by omega, by rw [List.length_append, List.length_append]; simp at hO ⊢; omega, rfl, by go_num, HO4.out, HL2.out, HB4.out⟩
            case measure => simp [intOf]; omega
          · have HL2 : Hid (lay m p false = (lay m (p.drop (k + 1)) true).map (fun t => (O ++ [(c, es)]) ++ t)) := by
              show _ = _
              rw [HLay.out, HD.out, lay, if_neg ho0, if_neg (fun hh => (by cases hh.2))]
              cases lay m (p.drop (k + 1)) true with
              | none => rfl
              | some t => simp
            clear HD HLay
            go_wp2_with (first
              | (at_builtin; refine wpList_lay (w0 := only A w) (v := u6) (O := O) (m := (c, es)) (base := w1.heap.size) rfl _ _ _ rfl rfl rfl (HO2.out.later (below_alloc _)) ⟨w2.heap.size, 0, none⟩ 1 rfl (cells2_new _ _ _ _) rfl rfl (.inl HMe.out.1) HMe.out.2 (by omega) (Nat.le_trans HB2.out.size (below_alloc _).size) ?_; intro v3 w3 hol3 hb3; have HO3 : Hid (OL (only A w) w3 w1.heap.size v3 (O ++ [(c, es)])) := hol3; have HB3 : Hid (Below w1.heap.size w1 w3) := (below_step HB2.out (below_alloc _)).trans hb3; clear hol3 hb3))
            go_roundw
            case rel => exact ⟨k + 1, _, _, by omega, by rw [List.length_append]; simp at hO ⊢; omega, rfl, by go_num, HO3.out, HL2.out, HB3.out⟩
            case measure => simp [intOf]; omega
        · cases b
          · have HL2 : Hid (lay m p false = (lay m (p.drop (k + 1)) false).map (fun t => (O ++ [(c, es)]) ++ t)) := by
              show _ = _
              rw [HLay.out, HD.out, lay, if_neg ho0, if_neg (fun hh => hneg hh.1)]
              cases lay m (p.drop (k + 1)) false with
              | none => rfl
              | some t => simp
            clear HD HLay
            go_wp2_with (first
              | (at_builtin; refine wpList_lay (w0 := only A w) (v := u6) (O := O) (m := (c, es)) (base := w1.heap.size) rfl _ _ _ rfl rfl rfl (HO2.out.later (below_alloc _)) ⟨w2.heap.size, 0, none⟩ 1 rfl (cells2_new _ _ _ _) rfl rfl (.inl HMe.out.1) HMe.out.2 (by omega) (Nat.le_trans HB2.out.size (below_alloc _).size) ?_; intro v3 w3 hol3 hb3; have HO3 : Hid (OL (only A w) w3 w1.heap.size v3 (O ++ [(c, es)])) := hol3; have HB3 : Hid (Below w1.heap.size w1 w3) := (below_step HB2.out (below_alloc _)).trans hb3; clear hol3 hb3))
            go_roundw
            case rel => exact ⟨k + 1, _, _, by omega, by rw [List.length_append]; simp at hO ⊢; omega, rfl, by go_num, HO3.out, HL2.out, HB3.out⟩
            case measure => simp [intOf]; omega
          · have HL2 : Hid (lay m p false = (lay m (p.drop (k + 1)) true).map (fun t => (O ++ [(c, es)]) ++ t)) := by
              show _ = _
              rw [HLay.out, HD.out, lay, if_neg ho0, if_neg (fun hh => hneg hh.1)]
              cases lay m (p.drop (k + 1)) true with
              | none => rfl
              | some t => simp
            clear HD HLay
            go_wp2_with (first
              | (at_builtin; refine wpList_lay (w0 := only A w) (v := u6) (O := O) (m := (c, es)) (base := w1.heap.size) rfl _ _ _ rfl rfl rfl (HO2.out.later (below_alloc _)) ⟨w2.heap.size, 0, none⟩ 1 rfl (cells2_new _ _ _ _) rfl rfl (.inl HMe.out.1) HMe.out.2 (by omega) (Nat.le_trans HB2.out.size (below_alloc _).size) ?_; intro v3 w3 hol3 hb3; have HO3 : Hid (OL (only A w) w3 w1.heap.size v3 (O ++ [(c, es)])) := hol3; have HB3 : Hid (Below w1.heap.size w1 w3) := (below_step HB2.out (below_alloc _)).trans hb3; clear hol3 hb3))
            go_roundw
            case rel => exact ⟨k + 1, _, _, by omega, by rw [List.length_append]; simp at hO ⊢; omega, rfl, by go_num, HO3.out, HL2.out, HB3.out⟩
            case measure => simp [intOf]; omega
    · have hke : k = p.length := by omega
      subst hke
      have hdn : p.drop p.length = [] := List.drop_of_length_le (Nat.le_refl _)
      have hz : p.length ≤ 9223372036854775807 := by omega
      cases b
      · have HL2 : Hid (lay m p false = some (O ++ [m])) := by
          show _ = _
          rw [HLay.out, hdn]
          rfl
        clear HLay hdn
        simp only [Bool.toNat_false] at hO
        go_wp2_with (first
          | (at_builtin; refine wpList_lay (w0 := only A w) (v := u6) (O := O) (m := m) (base := w1.heap.size) rfl _ _ _ rfl rfl rfl (HOl.out.later (below_alloc _)) ⟨wr.heap.size, 0, none⟩ 1 rfl (cells2_new _ _ _ _) rfl rfl (.inl HMo.out.1) HMo.out.2 (by omega) (Nat.le_trans HB.out.size (below_alloc _).size) ?_; intro v3 w3 hol3 hb3; have HO3 : Hid (OL (only A w) w3 w1.heap.size v3 (O ++ [m])) := hol3; have HB3 : Hid (Below w1.heap.size w1 w3) := (below_step HB.out (below_alloc _)).trans hb3; obtain ⟨ao3, cap3, rfl, hc3, hm3⟩ := hol3.slice; unfold maxLen at hm3; clear hol3 hb3))
        go_ret2
        refine ⟨below_step HBW.out HB3.out, ?_⟩
        have hms := HO3.out.ms (A := A) (only_below (below_step HBW.out HB3.out)) (fun g hg => HA.out g (by omega))
        by_cases h256 : O.length + 1 ≤ 256
        · refine .inr ⟨O ++ [m], ?_, _, ret2b (by simp; omega), ?_⟩
          · unfold laidR
            rw [if_pos HSm.out, HL2.out]
            simp only [List.length_append, List.length_singleton]
            rw [if_pos h256]
          · rw [show (O ++ [m]).length = O.length + 1 by simp] at hms
            exact hms
        · refine .inl ⟨?_, _, ret2b (by simp; omega)⟩
          unfold laidR
          rw [if_pos HSm.out, HL2.out]
          simp only [List.length_append, List.length_singleton]
          rw [if_neg h256]
      · have HL2 : Hid (lay m p false = some O) := by
          show _ = _
          rw [HLay.out, hdn]
          simp [lay]
        clear HLay hdn
        obtain ⟨ao3, cap3, rfl, hc3, hm3⟩ := HOl.out.slice
        unfold maxLen at hm3
        go_wp2
        go_ret2
        refine ⟨below_step HBW.out HB.out, ?_⟩
        have hms := HOl.out.ms (A := A) (only_below (below_step HBW.out HB.out)) (fun g hg => HA.out g (by omega))
        by_cases h256 : O.length ≤ 256
        · refine .inr ⟨O, ?_, _, ret2b (by simp; omega), hms⟩
          unfold laidR
          rw [if_pos HSm.out, HL2.out]
          simp only
          rw [if_pos h256]
        · refine .inl ⟨?_, _, ret2b (by simp; omega)⟩
          unfold laidR
          rw [if_pos HSm.out, HL2.out]
          simp only
          rw [if_neg h256]

end Go.Proofs.Ytfifgmcjilkigaa
