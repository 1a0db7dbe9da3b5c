/- Texts of the proof, one behind the other. -/
import Derived.Test.YtdjmjhlbjcgoiaaGreatDoorOwn10
import Derived.Test.YtdjmjhlbjcgoiaaGreatDoorOwn11
import Derived.Test.YtdjmjhlbjcgoiaaGreatDoorOwn12
import Derived.Test.YtdjmjhlbjcgoiaaGreatDoorOwn8
/- What the document's laid answers. -/
namespace Go.Proofs.YtdjmjhlbjcgoiaaGreatDoor
open Go.RowKit Go.Maps

theorem addL_short (xs ys : List Nat) : (addL xs ys).length ≤ 64 := by
  unfold addL resL
  split
  · split
    · assumption
    · simp
  · simp

theorem ret2b {v : Value} {a b : Bool} (h : a = b) : Ending.returned (.tuple #[v, .bool a]) = .returned (.tuple #[v, .bool b]) := by rw [h]

theorem grown_own {w w' : World} {base : Nat} {e : TypeId} {s n : Nat} {v : Value} {xs : List Value} (ho : w.ownsRow base e s v n xs) (hb : base ≤ w.heap.size) (hg : w.grownBy w' v.ownBlock) : Below base w w' :=
  ⟨hg.os, hg.tape, hg.output, hg.size, fun k hk => hg.block k (by omega) (fun e => by
    have := own_blk ho e.symm
    omega)⟩

theorem cells2_new (w : World) (cv ev : Value) (t : TypeId) (j : Nat) (u : Value) (hj : [cv, ev][j]? = some u) : (w.alloc (.cells #[cv, ev] t)).cell? ((⟨w.heap.size, 0, none⟩ : Addr).add j) = some u := by
  rw [Addr.add_lit, Nat.zero_add, cell_of_row _ _ _ _ _ _ (heap_alloc_new _ _)]
  simpa using hj

/-- A monomial appended to such a row. -/
theorem wpList_lay {w0 w : World} {base : Nat} {v cv ev : Value} {O : List Mn} {m : Mn} {ops : Array Oper} {rest : List Oper} {o : Oper} {a : Act} {Q : Exit → Act → World → Prop} (hgd : o.guard = none) (s x : Operand) (t : TypeId) (ht : t = 31)
    (ho : o.op = .call { callee := .builtin .append, args := #[s, x], argTypes := #[t, t] }) (hs : a.eval s = v) (hol : OL w0 w base v O) (ad : Addr) (c : Nat) (hx : a.eval x = .slice (some ad) 1 c)
    (hcell : ∀ (j : Nat) (u : Value), [cv, ev][j]? = some u → w.cell? (ad.add j) = some u) (h1 : cv.oneCell' = true) (h2 : ev.oneCell' = true) (hc : Sl w0 cv m.1 ∨ Ow w base cv m.1) (he : Is w0 ev m.2) (hl : O.length ≤ 1000) (hb : base ≤ w.heap.size)
    (hK : ∀ v' w', OL w0 w' base v' (O ++ [m]) → Below base w w' → wpList Tryz.prog ops Q rest (a.put o.dst v') w') : wpList Tryz.prog ops Q (o :: rest) a w := by
  subst ht
  obtain ⟨i1, hi1, hy0, hy1, hy2⟩ := info_parts info_mono
  obtain ⟨cs, hcl, hcc, hown⟩ := hol
  refine wpList_append_own w hgd s x 31 ho base 37 i1 _ 2 48 under_monos hi1 hy0 hy1 hy2 rfl (by decide) v O.length (cs.flatMap fun c => [c.1, c.2]) hs hown ad 1 c [cv, ev] hx rfl hcell ?_ (by unfold maxLen; omega) (by omega) hb ?_
  · intro u hu
    simp only [List.mem_cons, List.not_mem_nil, or_false] at hu
    rcases hu with rfl | rfl
    · exact h1
    · exact h2
  · intro v' w' hown' hgrow' _
    exact hK v' w' (OL.snoc hcl hcc hown hc he hown' hgrow' rfl) (grown_own hown hb hgrow')

set_option maxRecDepth 100000 in
set_option maxHeartbeats 6400000 in
theorem refLaid_anyY (A : Nat → Bool) (v cv ev : Value) (p : List Mn) (m : Mn) (w : World) (h : Ms (onlyY A w) v p) (hm : Mo (onlyY A w) cv ev m) (hp : p.length ≤ 256) (hA : ∀ g, w.heap.size ≤ g → A g = true) :
    Calls Tryz.prog 178 #[v, .agg #[cv, ev]] w fun e w' => Below w.heap.size w w' ∧
      ((laidR p m = none ∧ ∃ u, e = .returned (.tuple #[u, .bool false])) ∨ (∃ r, laidR p m = some r ∧ ∃ u, e = .returned (.tuple #[u, .bool true]) ∧ Ms (onlyY A w') u r)) := by
  obtain ⟨i1, hi1, hy0, hy1, hy2⟩ := info_parts info_mono
  obtain ⟨ao, cap, rfl, hao, hca, q0⟩ := Row.flat h
  unfold maxLen at hca
  obtain ⟨a1, c1, rfl, hl1, hl2, _⟩ := hm.1.flat
  obtain ⟨a2, c2, rfl, hl3, hl4, _⟩ := Row.flat hm.2
  unfold maxLen at hl2 hl4
  have HM : Hid (Ms (onlyY A w) (.slice ao p.length cap) p) := h
  have HMo : Hid (Mo (onlyY A w) (.slice a1 m.1.length c1) (.slice a2 m.2.length c2) m) := hm
  have HA : Hid (∀ g, w.heap.size ≤ g → A g = true) := hA
  clear h q0 hm hA
  go_enter Tryz.func178, Tryz.ntmps178
  go_wp2_with fail
  refine (refSmall_any _ _ m _ (HMo.out.kp ((only_kp A w).trans (Kp.of_below (below_alloc _))))).mono ?_
  rintro e w1 ⟨rfl, hb1⟩
  obtain ⟨hx0, hx1, hbw⟩ := box2Y hb1
  cases hsm : smallR m
  · have HF : Hid (laidR p m = none) := by show _ = _; unfold laidR; rw [if_neg (by rw [hsm]; decide)]
    go_wp2
    go_ret2
    exact ⟨hbw, .inl ⟨HF.out, _, rfl⟩⟩
  have HSm : Hid (smallR m = true) := hsm
  clear hsm
  have hsz1 : w.heap.size < w1.heap.size := Nat.lt_of_lt_of_le (by simp) hb1.size
  have HX0 : Hid (w1.cell? ⟨w.heap.size, 0, none⟩ = some (.slice a1 m.1.length c1)) := hx0
  have HX1 : Hid (w1.cell? ⟨w.heap.size, 1, none⟩ = some (.slice a2 m.2.length c2)) := hx1
  have HBW : Hid (Below w.heap.size w w1) := hbw
  clear hb1 hx0 hx1 hbw
  go_wp2
  go_loopw [6, 7, 8] (fun x d i wr => ∃ (k : Nat) (O : List Mn) (b : Bool), k ≤ p.length ∧ O.length ≤ k + b.toNat ∧ d = .bool b ∧ i = .int .i64 k ∧ OL (onlyY A w) wr w1.heap.size x O ∧ lay m p false = (lay m (p.drop k) b).map (fun t => O ++ t) ∧ Below w1.heap.size w1 wr) (fun _ _ i _ => p.length - (intOf i).toNat)
  case atStart => exact ⟨0, [], false, Nat.zero_le _, by simp, rfl, rfl, OL.empty (Nat.le_refl _), by simp, below_alloc _⟩
  case round =>
    obtain ⟨k, O, b, hk, hO, rfl, rfl, hol, hlay, hbl⟩ := hrel
    have HLay : Hid (lay m p false = (lay m (p.drop k) b).map (fun t => O ++ t)) := hlay
    have hO3 : O.length ≤ 300 := by cases b <;> simp at hO <;> omega
    have HOl : Hid (OL (onlyY A w) wr w1.heap.size u6 O) := hol
    clear hlay hol
    have HB : Hid (Below w1.heap.size w1 wr) := hbl
    have hx0 := (Kp.of_below hbl).cell _ _ HX0.out
    have hx1 := (Kp.of_below hbl).cell _ _ HX1.out
    have hbw : Below w.heap.size w wr := below_step HBW.out hbl
    have KW : Kp (onlyY A w) wr := (only_kp A w).trans (Kp.of_below hbw)
    by_cases hlt : k < p.length
    · obtain ⟨g, off, c, es, b1, d1, b2, d2, rfl, hm1, hc0', hc1', hmo, hn1, hn2, hn3, hn4⟩ := HM.out.at hlt
      have hc0 := KW.cell _ _ hc0'
      have hc1 := KW.cell _ _ hc1'
      have HC0 : Hid (w1.cell? ⟨g, off + k * 2, none⟩ = some (.slice b1 c.length d1)) := ((only_kp A w).trans (Kp.of_below HBW.out)).cell _ _ hc0'
      have HC1 : Hid (w1.cell? ⟨g, off + k * 2 + 1, none⟩ = some (.slice b2 es.length d2)) := ((only_kp A w).trans (Kp.of_below HBW.out)).cell _ _ hc1'
      have HX : Hid (p[k]? = some (c, es)) := hm1
      have HMe : Hid (Mo (onlyY A w) (.slice b1 c.length d1) (.slice b2 es.length d2) (c, es)) := hmo
      have HKW : Hid (Kp (onlyY A w) wr) := KW
      clear hm1 hmo hc0' hc1' KW
      go_wp2_with fail
      refine region_belowY (by kernel_rfl) (by kernel_rfl) ?_
      go_big_quiet_want
      refine ⟨.pointer (some ⟨w.heap.size, 1, none⟩), fun w' hw' => ?_, ?_⟩
      · unfold Oper.quietAt; go_simp
      simp only [Act.put, List.setIfInBounds_toArray, List.set_cons_zero, List.set_cons_succ]
      go_big_quiet_on
      go_big_quiet_want
      refine ⟨.slice a2 m.2.length c2, fun w' hw' => ?_, ?_⟩
      · have hh := (Kp.of_below hw').cell _ _ hx1; unfold Oper.quietAt; go_simp
      simp only [Act.put, List.setIfInBounds_toArray, List.set_cons_zero, List.set_cons_succ]
      go_big_quiet_on
      (go_big_quiet_want; go_big_quiet_op; go_big_quiet_on)
      (go_big_quiet_want; go_big_quiet_op; go_big_quiet_on)
      go_big_quiet_want
      refine ⟨.pointer (some ⟨g, off + k * 2, none⟩), fun w' hw' => ?_, ?_⟩
      · unfold Oper.quietAt; go_simp
      simp only [Act.put, List.setIfInBounds_toArray, List.set_cons_zero, List.set_cons_succ]
      go_big_quiet_on
      go_big_quiet_want
      refine ⟨.pointer (some ⟨g, off + k * 2 + 1, none⟩), fun w' hw' => ?_, ?_⟩
      · unfold Oper.quietAt; go_simp
      simp only [Act.put, List.setIfInBounds_toArray, List.set_cons_zero, List.set_cons_succ]
      go_big_quiet_on
      go_big_quiet_want
      refine ⟨.slice b2 es.length d2, fun w' hw' => ?_, ?_⟩
      · have hh := (Kp.of_below hw').cell _ _ hc1; unfold Oper.quietAt; go_simp
      simp only [Act.put, List.setIfInBounds_toArray, List.set_cons_zero, List.set_cons_succ]
      go_big_quiet_on
      go_big_quiet_want
      refine ⟨.int .i64 (ordX m.2 es), fun w' hw' => ?_, ?_⟩
      · unfold Oper.quietAt; go_simp; exact (refOrder_any _ _ m.2 es _ (HMo.out.2.kp (HKW.out.trans (Kp.of_below hw'))) (HMe.out.2.kp (HKW.out.trans (Kp.of_below hw')))).mono (fun e w1 ⟨he, hb⟩ => ⟨he, by rw [hb]; exact hw'⟩)
      simp only [Act.put, List.setIfInBounds_toArray, List.set_cons_zero, List.set_cons_succ]
      go_big_quiet_on
      (go_big_quiet_want; go_big_quiet_op; go_big_quiet_on)
      refine wpQuiet_nil ?_
      intro w2 hb2
      have hxa := (Kp.of_below hb2).cell _ _ hx0
      have hxb := (Kp.of_below hb2).cell _ _ hx1
      have hca := (Kp.of_below hb2).cell _ _ hc0
      have hcb := (Kp.of_below hb2).cell _ _ hc1
      clear hx0 hx1 hc0 hc1
      have HO2 : Hid (OL (onlyY A w) w2 w1.heap.size u6 O) := HOl.out.later hb2
      have HB2 : Hid (Below w1.heap.size w1 w2) := below_step HB.out hb2
      have hd : p.drop k = (c, es) :: p.drop (k + 1) := drop_getY HX.out
      have HD : Hid (p.drop k = (c, es) :: p.drop (k + 1)) := hd
      clear hd HOl HB HKW hb2 hbw hbl
      by_cases ho0 : ordX m.2 es = 0
      · go_wp2_with fail
        have hS : Below w1.heap.size w1 w2.drew := HB2.out.drew
        have bW : Below w2.heap.size w2 w2.drew := (Below.refl _ _).drew
        refine wp_region_held_drew (S := fun w' => Below w1.heap.size w1 w') (by kernel_rfl) hS (fun _ => ?_)
        obtain ⟨W0, hW0⟩ : ∃ X, X = w2.drew := ⟨_, rfl⟩
        rw [← hW0] at hS bW ⊢
        clear hW0
        refine wpAnyH_take (i := 0) (v := .slice (some ⟨g, off, none⟩) p.length cap) rfl (by kernel_rfl) (by kernel_rfl) (by kernel_rfl) (fun _ _ _ h => h) (Or.inl ⟨by rfl, fun w' _ => by go_simp⟩) hS ?_
        simp only [Act.put, List.setIfInBounds_toArray]
        refine wpAnyH_take (i := 1) (v := .int .i64 (k : Int)) rfl (by kernel_rfl) (by kernel_rfl) (by kernel_rfl) (fun _ _ _ h => h) (Or.inl ⟨by rfl, fun w' _ => by go_simp⟩) hS ?_
        simp only [Act.put]
        refine wpAnyH_take (i := 2) (v := .pointer (some ⟨g, off + k * 2, none⟩)) rfl (by kernel_rfl) (by kernel_rfl) (by kernel_rfl) (fun _ _ _ h => h) (Or.inl ⟨by rfl, fun w' _ => by go_simp⟩) hS ?_
        simp only [Act.put]
        refine wpAnyH_take (i := 3) (v := .pointer (some ⟨g, off + k * 2, none⟩)) rfl (by kernel_rfl) (by kernel_rfl) (by kernel_rfl) (fun _ _ _ h => h) (Or.inl ⟨by rfl, fun w' _ => by go_simp⟩) hS ?_
        simp only [Act.put]
        refine wpAnyH_take (i := 4) (v := .slice b1 c.length d1) rfl (by kernel_rfl) (by kernel_rfl) (by kernel_rfl) (fun _ _ _ h => h) (Or.inl ⟨by rfl, fun w' h => by have hh := (Kp.of_below h).cell _ _ HC0.out; go_simp⟩) hS ?_
        simp only [Act.put]
        refine wpAnyH_take (i := 5) (v := .pointer (some ⟨w.heap.size, 0, none⟩)) rfl (by kernel_rfl) (by kernel_rfl) (by kernel_rfl) (fun _ _ _ h => h) (Or.inl ⟨by rfl, fun w' _ => by go_simp⟩) hS ?_
        simp only [Act.put]
        refine wpAnyH_take (i := 6) (v := .slice a1 m.1.length c1) rfl (by kernel_rfl) (by kernel_rfl) (by kernel_rfl) (fun _ _ _ h => h) (Or.inl ⟨by rfl, fun w' h => by have hh := (Kp.of_below h).cell _ _ HX0.out; go_simp⟩) hS ?_
        simp only [Act.put]
        refine wpAnyH_ready (rs := [7]) (by kernel_rfl) (by simp) (AllReadyH.cons rfl (fun K hK => ?_) AllReadyH.nil)
        go_simp
        refine (refAdd_any _ _ c m.1 _ (HMe.out.1.kp (((only_kp A w).trans (Kp.of_below HBW.out)).trans (Kp.of_below hS))) (HMo.out.1.kp (((only_kp A w).trans (Kp.of_below HBW.out)).trans (Kp.of_below hS)))).mono ?_
        rintro e W1 ⟨vs, rfl, hvs, hbs⟩
        refine hK.out _ _ (below_step hS hbs) (fun hS1 => ?_)
        clear hK K
        have bW1 := below_step bW hbs
        obtain ⟨b3, d3, rfl, hd3, hd4, _⟩ := hvs.sl.flat
        unfold maxLen at hd4
        have HVs : Hid (Ow W1 w1.heap.size (.slice b3 (addL c m.1).length d3) (addL c m.1)) := hvs.mono hS.size
        clear hvs hbs hS bW
        have hS := hS1
        clear hS1
        have HB5 : Hid (Below w1.heap.size w1 W1) := hS
        have HO5 : Hid (OL (onlyY A w) W1 w1.heap.size u6 O) := HO2.out.later bW1
        clear bW1
        have hxa := (Kp.of_below hS).cell _ _ HX0.out
        have hxb := (Kp.of_below hS).cell _ _ HX1.out
        refine wpAnyH_take (i := 8) (v := .tuple #[.slice b3 (addL c m.1).length d3, .int .i64 (addE c m.1)]) rfl (by kernel_rfl) (by kernel_rfl) (by kernel_rfl) (fun _ _ _ h => h) (Or.inl ⟨by rfl, fun w' _ => by go_simp⟩) hS ?_
        simp only [Act.put, List.setIfInBounds_toArray]
        refine wpAnyH_take (i := 9) (v := .slice b3 (addL c m.1).length d3) rfl (by kernel_rfl) (by kernel_rfl) (by kernel_rfl) (fun _ _ _ h => h) (Or.inl ⟨by rfl, fun w' _ => by go_simp⟩) hS ?_
        simp only [Act.put]
        refine wpAnyH_take (i := 10) (v := .int .i64 (addE c m.1)) rfl (by kernel_rfl) (by kernel_rfl) (by kernel_rfl) (fun _ _ _ h => h) (Or.inl ⟨by rfl, fun w' _ => by go_simp⟩) hS ?_
        simp only [Act.put]
        refine wpAnyH_take (i := 11) (v := .slice b3 (addL c m.1).length d3) rfl (by kernel_rfl) (by kernel_rfl) (by kernel_rfl) (fun _ _ _ h => h) (Or.inl ⟨by rfl, fun w' _ => by go_simp⟩) hS ?_
        simp only [Act.put]
        refine wpAnyH_take (i := 12) (v := .int .i64 (addE c m.1)) rfl (by kernel_rfl) (by kernel_rfl) (by kernel_rfl) (fun _ _ _ h => h) (Or.inl ⟨by rfl, fun w' _ => by go_simp⟩) hS ?_
        simp only [Act.put]
        refine wpAnyH_done (by kernel_rfl) ?_ _
        clear hS
        have h64 := addL_short c m.1
        by_cases hae : addE c m.1 = 0
        · have HL2 : Hid (lay m p false = (lay m (p.drop (k + 1)) true).map (fun t => (O ++ [(addL c m.1, m.2)]) ++ t)) := by
            show _ = _
            rw [HLay.out, HD.out, lay, if_pos ho0, if_pos hae]
            cases lay m (p.drop (k + 1)) true with
            | none => rfl
            | some t => simp
          clear HLay HD
          go_wp2_with (first
            | (at_builtin; refine wpList_lay (w0 := onlyY A w) (v := u6) (O := O) (m := (addL c m.1, m.2)) (base := w1.heap.size) rfl _ _ _ rfl rfl rfl (HO5.out.later (below_alloc _)) ⟨W1.heap.size, 0, none⟩ 1 rfl (cells2_new _ _ _ _) rfl rfl (.inr (HVs.out.since (below_alloc _))) HMo.out.2 (by omega) (Nat.le_trans HB5.out.size (below_alloc _).size) ?_; intro v3 w3 hol3 hb3; have HO3 : Hid (OL (onlyY A w) w3 w1.heap.size v3 (O ++ [(addL c m.1, m.2)])) := hol3; have HB3 : Hid (Below w1.heap.size w1 w3) := (below_step HB5.out (below_alloc _)).trans hb3; clear hol3 hb3))
          go_roundw
          case rel => exact ⟨k + 1, _, _, by omega, by rw [List.length_append]; cases b <;> simp at hO ⊢ <;> omega, rfl, by go_num, HO3.out, HL2.out, HB3.out⟩
          case measure => simp [intOf]; omega
        · have HF : Hid (laidR p m = none) := by
            show _ = _
            unfold laidR
            rw [if_pos HSm.out, HLay.out, HD.out, lay, if_pos ho0, if_neg hae]
            rfl
          clear HLay HD
          go_wp2
          go_ret2
          exact ⟨below_step HBW.out HB5.out, .inl ⟨HF.out, _, rfl⟩⟩
      · by_cases hneg : ordX m.2 es < 0
        · cases b
          · have HL2 : Hid (lay m p false = (lay m (p.drop (k + 1)) true).map (fun t => (O ++ [m] ++ [(c, es)]) ++ t)) := by
              show _ = _
              rw [HLay.out, HD.out, lay, if_neg ho0, if_pos ⟨hneg, rfl⟩]
              cases lay m (p.drop (k + 1)) true with
              | none => rfl
              | some t => simp
            clear HD HLay
            go_wp2_with (first
              | (at_builtin; refine wpList_lay (w0 := onlyY A w) (v := u6) (O := O) (m := m) (base := w1.heap.size) rfl _ _ _ rfl rfl rfl (HO2.out.later (below_alloc _)) ⟨w2.heap.size, 0, none⟩ 1 rfl (cells2_new _ _ _ _) rfl rfl (.inl HMo.out.1) HMo.out.2 (by omega) (Nat.le_trans HB2.out.size (below_alloc _).size) ?_; intro v3 w3 hol3 hb3; have HO3 : Hid (OL (onlyY A w) w3 w1.heap.size v3 (O ++ [m])) := hol3; have HB3 : Hid (Below w1.heap.size w1 w3) := (below_step HB2.out (below_alloc _)).trans hb3; have hca3 := (Kp.of_below HB3.out).cell _ _ HC0.out; have hcb3 := (Kp.of_below HB3.out).cell _ _ HC1.out; clear hol3 hb3)
              | (at_builtin; refine wpList_lay (w0 := onlyY A w) (v := v3) (O := O ++ [m]) (m := (c, es)) (base := w1.heap.size) rfl _ _ _ rfl rfl rfl (HO3.out.later (below_alloc _)) ⟨w3.heap.size, 0, none⟩ 1 rfl (cells2_new _ _ _ _) rfl rfl (.inl HMe.out.1) HMe.out.2 (by rw [List.length_append]; simp; omega) (Nat.le_trans HB3.out.size (below_alloc _).size) ?_; intro v4 w4 hol4 hb4; have HO4 : Hid (OL (onlyY A w) w4 w1.heap.size v4 (O ++ [m] ++ [(c, es)])) := hol4; have HB4 : Hid (Below w1.heap.size w1 w4) := (below_step HB3.out (below_alloc _)).trans hb4; clear hol4 hb4))
            go_roundw
            case rel => exact ⟨k + 1, _, _, by omega, by rw [List.length_append, List.length_append]; simp at hO ⊢; omega, rfl, by go_num, HO4.out, HL2.out, HB4.out⟩
            case measure => simp [intOf]; omega
          · have HL2 : Hid (lay m p false = (lay m (p.drop (k + 1)) true).map (fun t => (O ++ [(c, es)]) ++ t)) := by
              show _ = _
              rw [HLay.out, HD.out, lay, if_neg ho0, if_neg (fun hh => (by cases hh.2))]
              cases lay m (p.drop (k + 1)) true with
              | none => rfl
              | some t => simp
            clear HD HLay
            go_wp2_with (first
              | (at_builtin; refine wpList_lay (w0 := onlyY A w) (v := u6) (O := O) (m := (c, es)) (base := w1.heap.size) rfl _ _ _ rfl rfl rfl (HO2.out.later (below_alloc _)) ⟨w2.heap.size, 0, none⟩ 1 rfl (cells2_new _ _ _ _) rfl rfl (.inl HMe.out.1) HMe.out.2 (by omega) (Nat.le_trans HB2.out.size (below_alloc _).size) ?_; intro v3 w3 hol3 hb3; have HO3 : Hid (OL (onlyY A w) w3 w1.heap.size v3 (O ++ [(c, es)])) := hol3; have HB3 : Hid (Below w1.heap.size w1 w3) := (below_step HB2.out (below_alloc _)).trans hb3; clear hol3 hb3))
            go_roundw
            case rel => exact ⟨k + 1, _, _, by omega, by rw [List.length_append]; simp at hO ⊢; omega, rfl, by go_num, HO3.out, HL2.out, HB3.out⟩
            case measure => simp [intOf]; omega
        · cases b
          · have HL2 : Hid (lay m p false = (lay m (p.drop (k + 1)) false).map (fun t => (O ++ [(c, es)]) ++ t)) := by
              show _ = _
              rw [HLay.out, HD.out, lay, if_neg ho0, if_neg (fun hh => hneg hh.1)]
              cases lay m (p.drop (k + 1)) false with
              | none => rfl
              | some t => simp
            clear HD HLay
            go_wp2_with (first
              | (at_builtin; refine wpList_lay (w0 := onlyY A w) (v := u6) (O := O) (m := (c, es)) (base := w1.heap.size) rfl _ _ _ rfl rfl rfl (HO2.out.later (below_alloc _)) ⟨w2.heap.size, 0, none⟩ 1 rfl (cells2_new _ _ _ _) rfl rfl (.inl HMe.out.1) HMe.out.2 (by omega) (Nat.le_trans HB2.out.size (below_alloc _).size) ?_; intro v3 w3 hol3 hb3; have HO3 : Hid (OL (onlyY A w) w3 w1.heap.size v3 (O ++ [(c, es)])) := hol3; have HB3 : Hid (Below w1.heap.size w1 w3) := (below_step HB2.out (below_alloc _)).trans hb3; clear hol3 hb3))
            go_roundw
            case rel => exact ⟨k + 1, _, _, by omega, by rw [List.length_append]; simp at hO ⊢; omega, rfl, by go_num, HO3.out, HL2.out, HB3.out⟩
            case measure => simp [intOf]; omega
          · have HL2 : Hid (lay m p false = (lay m (p.drop (k + 1)) true).map (fun t => (O ++ [(c, es)]) ++ t)) := by
              show _ = _
              rw [HLay.out, HD.out, lay, if_neg ho0, if_neg (fun hh => hneg hh.1)]
              cases lay m (p.drop (k + 1)) true with
              | none => rfl
              | some t => simp
            clear HD HLay
            go_wp2_with (first
              | (at_builtin; refine wpList_lay (w0 := onlyY A w) (v := u6) (O := O) (m := (c, es)) (base := w1.heap.size) rfl _ _ _ rfl rfl rfl (HO2.out.later (below_alloc _)) ⟨w2.heap.size, 0, none⟩ 1 rfl (cells2_new _ _ _ _) rfl rfl (.inl HMe.out.1) HMe.out.2 (by omega) (Nat.le_trans HB2.out.size (below_alloc _).size) ?_; intro v3 w3 hol3 hb3; have HO3 : Hid (OL (onlyY A w) w3 w1.heap.size v3 (O ++ [(c, es)])) := hol3; have HB3 : Hid (Below w1.heap.size w1 w3) := (below_step HB2.out (below_alloc _)).trans hb3; clear hol3 hb3))
            go_roundw
            case rel => exact ⟨k + 1, _, _, by omega, by rw [List.length_append]; simp at hO ⊢; omega, rfl, by go_num, HO3.out, HL2.out, HB3.out⟩
            case measure => simp [intOf]; omega
    · have hke : k = p.length := by omega
      subst hke
      have hdn : p.drop p.length = [] := List.drop_of_length_le (Nat.le_refl _)
      have hz : p.length ≤ 9223372036854775807 := by omega
      cases b
      · have HL2 : Hid (lay m p false = some (O ++ [m])) := by
          show _ = _
          rw [HLay.out, hdn]
          rfl
        clear HLay hdn
        simp only [Bool.toNat_false] at hO
        go_wp2_with (first
          | (at_builtin; refine wpList_lay (w0 := onlyY A w) (v := u6) (O := O) (m := m) (base := w1.heap.size) rfl _ _ _ rfl rfl rfl (HOl.out.later (below_alloc _)) ⟨wr.heap.size, 0, none⟩ 1 rfl (cells2_new _ _ _ _) rfl rfl (.inl HMo.out.1) HMo.out.2 (by omega) (Nat.le_trans HB.out.size (below_alloc _).size) ?_; intro v3 w3 hol3 hb3; have HO3 : Hid (OL (onlyY A w) w3 w1.heap.size v3 (O ++ [m])) := hol3; have HB3 : Hid (Below w1.heap.size w1 w3) := (below_step HB.out (below_alloc _)).trans hb3; obtain ⟨ao3, cap3, rfl, hc3, hm3⟩ := hol3.slice; unfold maxLen at hm3; clear hol3 hb3))
        go_ret2
        refine ⟨below_step HBW.out HB3.out, ?_⟩
        have hms := HO3.out.ms (A := A) (only_below (below_step HBW.out HB3.out)) (fun g hg => HA.out g (by omega))
        by_cases h256 : O.length + 1 ≤ 256
        · refine .inr ⟨O ++ [m], ?_, _, ret2b (by simp; omega), ?_⟩
          · unfold laidR
            rw [if_pos HSm.out, HL2.out]
            simp only [List.length_append, List.length_singleton]
            rw [if_pos h256]
          · rw [show (O ++ [m]).length = O.length + 1 by simp] at hms
            exact hms
        · refine .inl ⟨?_, _, ret2b (by simp; omega)⟩
          unfold laidR
          rw [if_pos HSm.out, HL2.out]
          simp only [List.length_append, List.length_singleton]
          rw [if_neg h256]
      · have HL2 : Hid (lay m p false = some O) := by
          show _ = _
          rw [HLay.out, hdn]
          simp [lay]
        clear HLay hdn
        obtain ⟨ao3, cap3, rfl, hc3, hm3⟩ := HOl.out.slice
        unfold maxLen at hm3
        go_wp2
        go_ret2
        refine ⟨below_step HBW.out HB.out, ?_⟩
        have hms := HOl.out.ms (A := A) (only_below (below_step HBW.out HB.out)) (fun g hg => HA.out g (by omega))
        by_cases h256 : O.length ≤ 256
        · refine .inr ⟨O, ?_, _, ret2b (by simp; omega), hms⟩
          unfold laidR
          rw [if_pos HSm.out, HL2.out]
          simp only
          rw [if_pos h256]
        · refine .inl ⟨?_, _, ret2b (by simp; omega)⟩
          unfold laidR
          rw [if_pos HSm.out, HL2.out]
          simp only
          rw [if_neg h256]

end Go.Proofs.YtdjmjhlbjcgoiaaGreatDoor

/- What the document's Value answers is what Value answers: plain data. -/
namespace Go.Proofs.YtdjmjhlbjcgoiaaGreatDoor
open Go.RowKit Go.Maps

theorem polyB_two {p : List Mn} {a b : Int} (ha : ∀ m ∈ p, (m.2.length : Int) ≤ a) (hb : ∀ m ∈ p, (m.2.length : Int) ≤ b) : polyB p a = polyB p b := by
  rw [Bool.eq_iff_iff, polyB_iff, polyB_iff]
  exact ⟨fun h k hk => okAt_vars (h k hk) fun m hm => hb m (List.mem_of_getElem? hm), fun h k hk => okAt_vars (h k hk) fun m hm => ha m (List.mem_of_getElem? hm)⟩

theorem check_long {p : List Mn} (h : ∀ m ∈ p, m.2.length ≤ 4611686018427387904) : checkE p 4611686018427387904 = checkE p 9223372036854775807 := by
  unfold checkE
  rw [polyB_two (a := 4611686018427387904) (b := 9223372036854775807) (fun m hm => by have := h m hm; omega) (fun m hm => by have := h m hm; omega)]
  simp

theorem check_len {p : List Mn} {n : Nat} (h : checkE p 9223372036854775807 = 0) : checkE p (n : Int) = 0 ↔ varsN p ≤ n := by
  obtain ⟨h1, h2⟩ := (check_iff (by omega)).1 h
  rw [check_iff (by omega), varsN_iff]
  constructor
  · rintro ⟨h3, _⟩ m hm
    have := (polyB_good h3 hm).2
    omega
  · intro h3
    refine ⟨?_, h2⟩
    rw [polyB_two (b := 9223372036854775807) (fun m hm => by have := h3 m hm; omega) (fun m hm => (polyB_good h1 hm).2)]
    exact h1

end Go.Proofs.YtdjmjhlbjcgoiaaGreatDoor

/- What the document's Add answers. -/
namespace Go.Proofs.YtdjmjhlbjcgoiaaGreatDoor
open Go.RowKit Go.Maps

theorem Ms.limA {w : World} {v : Value} {p : List Mn} (h : Ms w v p) : ∀ m ∈ p, Lim m.1 := by
  intro m hm
  obtain ⟨k, hk⟩ := List.mem_iff_getElem?.1 hm
  obtain ⟨ao, cap, rfl, _, _, hx⟩ := Row.flat h
  obtain ⟨g, off, x, _, hk2, cv, ev, _, _, hmo⟩ := hx k (List.getElem?_eq_some_iff.1 hk).1
  rw [hk] at hk2
  cases hk2
  exact hmo.1.1

theorem laidR_len {p r : List Mn} {m : Mn} (h : laidR p m = some r) : r.length ≤ 256 := by
  unfold laidR at h
  split at h
  · split at h
    · cases h
    · split at h
      · cases h; assumption
      · cases h
  · cases h

theorem addP_first {p q : List Mn} (h : ¬ checkE p 9223372036854775807 = 0) : addPE p q = checkE p 9223372036854775807 ∧ addPL p q = [] ∧ mulPE p q = checkE p 9223372036854775807 ∧ mulPL p q = [] := by
  have e : checkAllE [p, q] = checkE p 9223372036854775807 := by simp [checkAllE, h]
  unfold addPE addPL mulPE mulPL
  rw [e, if_neg h, if_neg h, if_neg h, if_neg h]
  exact ⟨rfl, rfl, rfl, rfl⟩

theorem addP_second {p q : List Mn} (h0 : checkE p 9223372036854775807 = 0) (h : ¬ checkE q 9223372036854775807 = 0) : addPE p q = checkE q 9223372036854775807 ∧ addPL p q = [] ∧ mulPE p q = checkE q 9223372036854775807 ∧ mulPL p q = [] := by
  have e : checkAllE [p, q] = checkE q 9223372036854775807 := by simp [checkAllE, h0, h]
  unfold addPE addPL mulPE mulPL
  rw [e, if_neg h, if_neg h, if_neg h, if_neg h]
  exact ⟨rfl, rfl, rfl, rfl⟩

set_option maxRecDepth 100000 in
set_option maxHeartbeats 6400000 in
theorem refAddP_any (A : Nat → Bool) (v u : Value) (p q : List Mn) (w : World) (h : Ms (onlyY A w) v p) (h' : Ms (onlyY A w) u q) (hA : ∀ g, w.heap.size ≤ g → A g = true) (hl : ∀ m ∈ p, m.2.length ≤ 4611686018427387904) (hl' : ∀ m ∈ q, m.2.length ≤ 4611686018427387904) :
    Calls Tryz.prog 152 #[v, u] w fun e w' => ∃ v', e = .returned (.tuple #[v', .int .i64 (addPE p q)]) ∧ Ms (onlyY A w') v' (addPL p q) ∧ Below w.heap.size w w' := by
  obtain ⟨ao, cap, rfl, hao, hca, q0⟩ := Row.flat h
  obtain ⟨bo, cap', rfl, hbo, hcb, q0'⟩ := Row.flat h'
  unfold maxLen at hca hcb
  have HP : Hid (Ms (onlyY A w) (.slice ao p.length cap) p) := h
  have HQ : Hid (Ms (onlyY A w) (.slice bo q.length cap') q) := h'
  have HA : Hid (∀ g, w.heap.size ≤ g → A g = true) := hA
  have HLp : Hid (checkR p 4611686018427387904 = checkE p 9223372036854775807) := by show _ = _; rw [checkR_eq, check_long hl]
  have HLq : Hid (checkR q 4611686018427387904 = checkE q 9223372036854775807) := by show _ = _; rw [checkR_eq, check_long hl']
  clear h h' q0 q0' hA hl hl'
  go_enter Tryz.func152, Tryz.ntmps152
  go_wp2_with fail
  refine (refCheck_anyY _ p 4611686018427387904 _ (HP.out.kp (only_kp A w)) (by omega) (by omega)).mono ?_
  rw [HLp.out]
  rintro e w1 ⟨rfl, hb1⟩
  have HB1 : Hid (Below w.heap.size w w1) := hb1
  clear hb1
  by_cases hp0 : checkE p 9223372036854775807 = 0
  · rw [hp0]
    go_wp2_with fail
    refine (refCheck_anyY _ q 4611686018427387904 _ (HQ.out.kp ((only_kp A w).trans (Kp.of_below HB1.out))) (by omega) (by omega)).mono ?_
    rw [HLq.out]
    rintro e w2 ⟨rfl, hb2⟩
    have HB2 : Hid (Below w.heap.size w w2) := below_step HB1.out hb2
    clear hb2 HB1
    by_cases hq0 : checkE q 9223372036854775807 = 0
    · rw [hq0]
      have hpp : Pol p := Pol.of HP.out.limA (by decide) hp0
      have hqq : Pol q := Pol.of HQ.out.limA (by decide) hq0
      obtain ⟨f1, f2, _, _⟩ := addP_of hp0 hq0
      have HR : Hid (addR p q = if sumE p q = 0 then some (sumL p q) else none) := addR_eq hpp hqq
      have HE : Hid (sumE p q = 0 ∨ sumE p q = 2 ∧ sumL p q = []) := by
        rcases sum_spec hpp hqq with ⟨e, _⟩ | ⟨e, _, e2⟩
        · exact .inl e
        · exact .inr ⟨e, e2⟩
      have hplen := hpp.len
      have hqlen := hqq.len
      have HF : Hid (addPE p q = sumE p q ∧ addPL p q = sumL p q) := ⟨f1, f2⟩
      clear hpp hqq f1 f2
      go_wp2
      go_loopw [7, 8] (fun x i wr => ∃ (k : Nat) (O : List Mn), k ≤ q.length ∧ O.length ≤ 256 ∧ i = .int .i64 k ∧ Ms (onlyY A wr) x O ∧ addR p q = addR O (q.drop k) ∧ Below w.heap.size w wr) (fun _ i _ => q.length - (intOf i).toNat)
      case atStart => exact ⟨0, p, Nat.zero_le _, hplen, rfl, HP.out.kp (only_below HB2.out), rfl, HB2.out⟩
      case round =>
        obtain ⟨k, O, hk, hO, rfl, hms, hadd, hbl⟩ := hrel
        have HMs : Hid (Ms (onlyY A wr) u7 O) := hms
        have HAd : Hid (addR p q = addR O (q.drop k)) := hadd
        have HB : Hid (Below w.heap.size w wr) := hbl
        have KW : Kp (onlyY A w) wr := (only_kp A w).trans (Kp.of_below hbl)
        clear hms hadd
        by_cases hlt : k < q.length
        · obtain ⟨g, off, c, es, b1, d1, b2, d2, rfl, hm1, hc0', hc1', hmo, hn1, hn2, hn3, hn4⟩ := HQ.out.at hlt
          have hc0 := KW.cell _ _ hc0'
          have hc1 := KW.cell _ _ hc1'
          have HX : Hid (q[k]? = some (c, es)) := hm1
          have HMo : Hid (Mo (onlyY A w) (.slice b1 c.length d1) (.slice b2 es.length d2) (c, es)) := hmo
          clear hm1 hmo hc0' hc1' hbl KW
          have hd : q.drop k = (c, es) :: q.drop (k + 1) := drop_getY HX.out
          go_wp2_with fail
          refine (refLaid_anyY A _ _ _ O (c, es) _ HMs.out (HMo.out.kp (only_below HB.out)) hO (fun g hg => HA.out g (Nat.le_trans HB.out.size hg))).mono ?_
          rintro e w3 ⟨hb3, h3⟩
          have HB3 : Hid (Below w.heap.size w w3) := below_step HB.out hb3
          rcases h3 with ⟨hnone, x3, rfl⟩ | ⟨r, hr, x3, rfl, hms3⟩
          · have hz : sumE p q = 2 ∧ sumL p q = [] := by
              rcases HE.out with h0 | h0
              · have := HR.out
                rw [if_pos h0, HAd.out, hd, addR, hnone] at this
                cases this
              · exact h0
            have HFF : Hid (addPE p q = 2 ∧ addPL p q = []) := ⟨HF.out.1.trans hz.1, HF.out.2.trans hz.2⟩
            clear hnone hz hb3 hd HR HE HF HAd
            go_wp2
            go_ret2
            exact ⟨_, ret2i HFF.out.1.symm, by rw [HFF.out.2]; exact Row.nil (Nat.zero_le _), HB3.out⟩
          · have HAd3 : Hid (addR p q = addR r (q.drop (k + 1))) := by
              show _ = _
              rw [HAd.out, hd, addR, hr]
            have HMs3 : Hid (Ms (onlyY A w3) x3 r) := hms3
            have hlr := laidR_len hr
            clear hr hms3 hb3 hd
            go_wp2
            go_roundw
            case rel => exact ⟨k + 1, r, by omega, hlr, by go_num, HMs3.out, HAd3.out, HB3.out⟩
            case measure => simp [intOf]; omega
        · have hke : k = q.length := by omega
          subst hke
          have hsum : addR p q = some O := by rw [HAd.out, List.drop_of_length_le (Nat.le_refl _)]; rfl
          have hz : sumE p q = 0 ∧ sumL p q = O := by
            have := HR.out
            rw [hsum] at this
            split at this
            · cases this; exact ⟨by assumption, rfl⟩
            · cases this
          have HFF : Hid (addPE p q = 0 ∧ addPL p q = O) := ⟨HF.out.1.trans hz.1, HF.out.2.trans hz.2⟩
          clear hsum hz HR HE HF HAd hbl KW
          go_wp2
          go_ret2
          exact ⟨_, ret2i HFF.out.1.symm, by rw [HFF.out.2]; exact HMs.out, HB.out⟩
    · have HF := addP_second (p := p) hp0 hq0
      obtain ⟨E, hE⟩ : ∃ E, E = checkE q 9223372036854775807 := ⟨_, rfl⟩
      have HF2 : Hid (addPE p q = E ∧ addPL p q = []) := by show _ ∧ _; rw [hE]; exact ⟨HF.1, HF.2.1⟩
      rw [← hE] at hq0 ⊢
      clear hE HF
      go_wp2
      go_ret2
      exact ⟨_, ret2i HF2.out.1.symm, by rw [HF2.out.2]; exact Row.nil (Nat.zero_le _), HB2.out⟩
  · have HF := addP_first (q := q) hp0
    obtain ⟨E, hE⟩ : ∃ E, E = checkE p 9223372036854775807 := ⟨_, rfl⟩
    have HF2 : Hid (addPE p q = E ∧ addPL p q = []) := by show _ ∧ _; rw [hE]; exact ⟨HF.1, HF.2.1⟩
    rw [← hE] at hp0 ⊢
    clear hE HF
    go_wp2
    go_ret2
    exact ⟨_, ret2i HF2.out.1.symm, by rw [HF2.out.2]; exact Row.nil (Nat.zero_le _), HB1.out⟩

end Go.Proofs.YtdjmjhlbjcgoiaaGreatDoor

/- The document's Mul as a plain function: plain data. -/
namespace Go.Proofs.YtdjmjhlbjcgoiaaGreatDoor
open Go.RowKit Go.Maps

/-- Exponents added, as far as some place. -/
def addXk (es fs : List Int) (k : Nat) : List Int := (List.range k).map fun i => expI es i + expI fs i

def addX (es fs : List Int) : List Int := addXk es fs (max es.length fs.length)

/-- The document's times. -/
def mulMn (a b : Mn) : Mn := (mulL a.1 b.1, addX a.2 b.2)

def timesB (a b : Mn) : Bool := decide (mulE a.1 b.1 = 0) && smallR (mulMn a b)

/-- The document's products of a monomial, and of monomials, with a row. -/
def mulInR (m : Mn) : List Mn → List Mn → Option (List Mn)
  | out, [] => some out
  | out, n :: q => if timesB m n = true then (match laidR out (mulMn m n) with | none => none | some r => mulInR m r q) else none

def mulR (q : List Mn) : List Mn → List Mn → Option (List Mn)
  | out, [] => some out
  | out, m :: p => match mulInR m out q with | none => none | some r => mulR q r p

theorem addXk_get {es fs : List Int} {k i : Nat} (h : i < k) : (addXk es fs k)[i]? = some (expI es i + expI fs i) := by
  unfold addXk
  rw [List.getElem?_map, List.getElem?_range h]
  rfl

theorem addXk_len (es fs : List Int) (k : Nat) : (addXk es fs k).length = k := by unfold addXk; rw [List.length_map, List.length_range]

theorem addXk_succ (es fs : List Int) (k : Nat) : addXk es fs (k + 1) = addXk es fs k ++ [expI es k + expI fs k] := by
  unfold addXk
  rw [List.range_succ, List.map_append]
  rfl

theorem keyX_exp {es : List Int} {i : Nat} (hi : i < 512) : (keyX es)[i]? = some (expI es i).toNat := by
  unfold expI
  by_cases h : i < es.length
  · obtain ⟨y, hy⟩ : ∃ y, es[i]? = some y := ⟨es[i], List.getElem?_eq_getElem h⟩
    rw [keyX_get hy, hy]
    rfl
  · rw [keyX_high (by omega) hi, List.getElem?_eq_none (by omega)]
    rfl

theorem expI_small {es : List Int} (h : Small es) (i : Nat) : 0 ≤ expI es i ∧ expI es i ≤ 64 := by
  unfold expI
  by_cases hi : i < es.length
  · obtain ⟨y, hy⟩ : ∃ y, es[i]? = some y := ⟨es[i], List.getElem?_eq_getElem hi⟩
    rw [hy]
    exact h.2 i y hy
  · rw [List.getElem?_eq_none (by omega)]
    decide

theorem keyX_addX {es fs : List Int} (he : Small es) (hf : Small fs) : keyX (addX es fs) = addK (keyX es) (keyX fs) := by
  have h1 := he.1
  have h2 := hf.1
  have hl : (addX es fs).length ≤ 512 := by unfold addX; rw [addXk_len]; omega
  have hl2 : (addK (keyX es) (keyX fs)).length = 512 := by unfold addK; rw [List.length_zipWith, keyX_len h1, keyX_len h2]; rfl
  apply List.ext_getElem?
  intro i
  by_cases hi : i < 512
  · rw [keyX_exp hi, addK_get (keyX_exp hi) (keyX_exp hi)]
    obtain ⟨a1, a2⟩ := expI_small he i
    obtain ⟨b1, b2⟩ := expI_small hf i
    by_cases hm : i < max es.length fs.length
    · have : expI (addX es fs) i = expI es i + expI fs i := by
        show ((addX es fs)[i]?).getD 0 = _
        unfold addX
        rw [addXk_get hm]
        rfl
      rw [this]
      congr 1
      omega
    · have e0 : ∀ gs : List Int, gs.length ≤ i → expI gs i = 0 := fun gs hg => by unfold expI; rw [List.getElem?_eq_none hg]; rfl
      rw [e0 (addX es fs) (by unfold addX; rw [addXk_len]; omega), e0 es (by omega), e0 fs (by omega)]
      rfl
  · rw [List.getElem?_eq_none (by rw [keyX_len hl]; omega), List.getElem?_eq_none (by rw [hl2]; omega)]

theorem last_exp {m : Mn} (h : Gm m) (hl : 0 < m.2.length) : 1 ≤ expI m.2 (m.2.length - 1) := by
  have h1 := monB_partsX h.1
  have h2 := (expI_small h.2 (m.2.length - 1)).1
  rcases h1 with h1 | h1
  · omega
  · unfold expI at h2 ⊢
    rw [List.getElem?_eq_getElem (by omega)] at h1 h2 ⊢
    simp only [Option.getD_some] at h2 ⊢
    have : ¬ m.2[m.2.length - 1] = 0 := fun e => h1 (by rw [e])
    omega

theorem mulE_rt {a b : List Nat} {x y : Nat} (ha : RtY a x) (hb : RtY b y) (hx : 1 ≤ x) (hy : 1 ≤ y) (h : mulE a b = 0) : RtY (mulL a b) (x * y) ∧ 1 ≤ x * y := by
  refine ⟨?_, Nat.mul_pos hx hy⟩
  by_cases hb2 : x * y < bigN
  · exact (mul_ok ha hb hb2).2
  · have := (mul_no ha hb (by omega)).1
    rw [this] at h
    exact absurd h (by decide)

/-- A product of two monomials in bounds. -/
theorem times_ok {a b : Mn} (ha : GoodM a ∧ monB a = true) (hb : GoodM b ∧ monB b = true) (sa : Small a.2) (sb : Small b.2) :
    timesB a b = (decide (mulE a.1 b.1 = 0) && decide (raisedE (keyX a.2) b.2 = 0)) ∧ (timesB a b = true → monB (mulMn a b) = true ∧ Small (mulMn a b).2 ∧ (∃ n, RtY (mulMn a b).1 n ∧ 1 ≤ n) ∧ keyX (mulMn a b).2 = raisedK (keyX a.2) b.2 ∧ (mulMn a b).1 = mulL a.1 b.1) := by
  obtain ⟨⟨a1, a2, a3, a4⟩, am⟩ := ha
  obtain ⟨⟨b1, b2, b3, b4⟩, bm⟩ := hb
  have hk := keyX_addX sa sb
  have hlen : (addX a.2 b.2).length ≤ 512 := by
    have h1 := sa.1
    have h2 := sb.1
    unfold addX; rw [addXk_len]; omega
  have hall : (addX a.2 b.2).all (fun n => decide (n ≤ 64)) = true ↔ (addK (keyX a.2) (keyX b.2)).all (fun n => decide (n ≤ 64)) = true := by
    rw [← hk]
    have hn : ∀ (i : Nat) (x : Int), (addX a.2 b.2)[i]? = some x → 0 ≤ x := fun i x hx => by
      have hi := (List.getElem?_eq_some_iff.1 hx).1
      unfold addX at hx hi
      rw [addXk_len] at hi
      rw [addXk_get hi] at hx
      cases hx
      have := (expI_small sa i).1
      have := (expI_small sb i).1
      omega
    rw [List.all_eq_true, List.all_eq_true]
    constructor
    · intro h x hx
      obtain ⟨j, hj⟩ := List.mem_iff_getElem?.1 hx
      have hj2 := (List.getElem?_eq_some_iff.1 hj).1
      rw [keyX_len hlen] at hj2
      rw [keyX_exp hj2] at hj
      cases hj
      unfold expI
      by_cases hi : j < (addX a.2 b.2).length
      · have := h _ (List.getElem_mem hi)
        rw [List.getElem?_eq_getElem hi]
        rw [decide_eq_true_eq] at this ⊢
        simp only [Option.getD_some]
        omega
      · rw [List.getElem?_eq_none (by omega)]
        decide
    · intro h x hx
      obtain ⟨j, hj⟩ := List.mem_iff_getElem?.1 hx
      have h0 := hn j x hj
      have := h _ (List.mem_of_getElem? (keyX_get hj))
      rw [decide_eq_true_eq] at this ⊢
      omega
  have hmul : mulE a.1 b.1 = 0 → (mulL a.1 b.1).length ≤ 64 ∧ rightB (mulL a.1 b.1) = true ∧ mulL a.1 b.1 ≠ [] := by
    intro h
    obtain ⟨r1, r2⟩ := mulE_rt (RtY.of a1 a2) (RtY.of b1 b2) (val_pos a1 a2 a3) (val_pos b1 b2 b3) h
    refine ⟨length_le_of_right r1.right, r1.right, fun e => ?_⟩
    have := r1.val
    rw [e] at this
    have e0 : val [] = 0 := rfl
    omega
  have hB : timesB a b = (decide (mulE a.1 b.1 = 0) && decide (raisedE (keyX a.2) b.2 = 0)) := by
    unfold timesB mulMn smallR raisedE
    by_cases h0 : mulE a.1 b.1 = 0
    · rw [decide_eq_true h0, Bool.true_and, Bool.true_and]
      simp only
      rw [decide_eq_true (hmul h0).1, decide_eq_true hlen, Bool.and_true, Bool.and_true]
      by_cases hc : (addK (keyX a.2) (keyX b.2)).all (fun n => decide (n ≤ 64)) = true
      · rw [hall.2 hc, if_pos hc]
        rfl
      · rw [if_neg hc, Bool.eq_false_iff.2 (fun h => hc (hall.1 h))]
        rfl
    · rw [decide_eq_false h0, Bool.false_and, Bool.false_and]
  refine ⟨hB, fun h => ?_⟩
  rw [hB, Bool.and_eq_true, decide_eq_true_eq, decide_eq_true_eq] at h
  obtain ⟨h0, h1⟩ := h
  have hc : (addK (keyX a.2) (keyX b.2)).all (fun n => decide (n ≤ 64)) = true := by
    unfold raisedE at h1
    split at h1
    · assumption
    · exact absurd h1 (by decide)
  have hsm : Small (mulMn a b).2 := by
    refine ⟨hlen, fun i x hx => ?_⟩
    have hi := (List.getElem?_eq_some_iff.1 hx).1
    have h64 := List.all_eq_true.1 (hall.2 hc) x (List.mem_of_getElem? hx)
    rw [decide_eq_true_eq] at h64
    refine ⟨?_, h64⟩
    unfold mulMn addX at hx hi
    rw [addXk_len] at hi
    simp only at hx
    rw [addXk_get hi] at hx
    cases hx
    have := (expI_small sa i).1
    have := (expI_small sb i).1
    omega
  obtain ⟨r1, r2⟩ := mulE_rt (RtY.of a1 a2) (RtY.of b1 b2) (val_pos a1 a2 a3) (val_pos b1 b2 b3) h0
  refine ⟨?_, hsm, ⟨_, r1, r2⟩, ?_, rfl⟩
  · unfold monB
    rw [Bool.and_eq_true, Bool.and_eq_true, Bool.and_eq_true]
    refine ⟨⟨⟨?_, (hmul h0).2.1⟩, ?_⟩, ?_⟩
    · have := (hmul h0).2.2
      simpa [mulMn] using this
    · rw [List.all_eq_true]
      intro x hx
      obtain ⟨j, hj⟩ := List.mem_iff_getElem?.1 hx
      rw [decide_eq_true_eq]
      exact (hsm.2 j x hj).1
    · by_cases hz : max a.2.length b.2.length = 0
      · have : (mulMn a b).2.length = 0 := by unfold mulMn addX; simp only; rw [addXk_len, hz]
        rw [this]
        rfl
      · have hl : (mulMn a b).2.length = max a.2.length b.2.length := by unfold mulMn addX; simp only; rw [addXk_len]
        have hg : (mulMn a b).2[(mulMn a b).2.length - 1]? = some (expI a.2 (max a.2.length b.2.length - 1) + expI b.2 (max a.2.length b.2.length - 1)) := by
          rw [hl]
          unfold mulMn addX
          simp only
          rw [addXk_get (by omega)]
        rw [hg]
        have p1 := (expI_small sa (max a.2.length b.2.length - 1)).1
        have p2 := (expI_small sb (max a.2.length b.2.length - 1)).1
        have : ¬ expI a.2 (max a.2.length b.2.length - 1) + expI b.2 (max a.2.length b.2.length - 1) = 0 := by
          by_cases hab : b.2.length ≤ a.2.length
          · rw [Nat.max_eq_left hab] at hz p1 p2 ⊢
            have := last_exp ⟨am, sa⟩ (by omega)
            omega
          · rw [Nat.max_eq_right (by omega)] at hz p1 p2 ⊢
            have := last_exp ⟨bm, sb⟩ (by omega)
            omega
        rw [Bool.or_eq_true]
        right
        simpa using this
  · unfold mulMn raisedK
    rw [if_pos hc]
    exact hk

theorem mulInR_prodIn {m : Mn} (hgm : GoodM m ∧ monB m = true) (hm : Small m.2) : ∀ {q : List Mn} {L : LkY} {f : List Nat → Nat}, (∀ n ∈ q, GoodM n ∧ monB n = true) → DomM q → StY L f → OkF f → KeysLe L →
    mulInR m (rowLY L) q = if (prodIn m L q).2 = 0 then some (rowLY (prodIn m L q).1) else none
  | [], L, f, _, _, _, _, _ => by simp [mulInR, prodIn]
  | n :: q, L, f, hg, hd, hs, ho, hk => by
    have hgn := hg n (by simp)
    have hsn : Small n.2 := hd 0 n rfl
    obtain ⟨hB, hT⟩ := times_ok hgm hgn hm hsn
    unfold mulInR prodIn
    by_cases h0 : raisedE (keyX m.2) n.2 = 0
    · by_cases h1 : mulE m.1 n.1 = 0
      · have ht : timesB m n = true := by rw [hB, decide_eq_true h0, decide_eq_true h1]; rfl
        obtain ⟨t1, t2, ⟨x, t3, t4⟩, t5, t6⟩ := hT ht
        have hk64 := small_key t2
        rw [if_pos ht, if_pos h0, if_pos h1, laidR_put hs ho hk t1 t2 ⟨_, t3⟩, t5, t6]
        rw [t5] at hk64
        rw [t6] at t3
        rcases put_spec (k := raisedK (keyX m.2) n.2) (c := mulL m.1 n.1) (n := x) hs t3 t4 hk64.2 ho.2.1 with ⟨e, ho2, hs2⟩ | ⟨e, _⟩
        · rw [if_pos e, if_pos e]
          exact mulInR_prodIn hgm hm (fun y hy => hg y (List.mem_cons_of_mem _ hy)) (fun k y hy => hd (k + 1) y hy) hs2 ho2 (keysLe_putL hk hk64)
        · rw [e]
          simp
      · have ht : ¬ timesB m n = true := by rw [hB, decide_eq_false h1]; simp
        rw [if_neg ht, if_pos h0, if_neg h1, if_neg h1]
    · have ht : ¬ timesB m n = true := by rw [hB, decide_eq_false h0]; simp
      rw [if_neg ht, if_neg h0, if_neg h0]

theorem mulR_prods {q : List Mn} (hq : Pol q) : ∀ {p : List Mn} {L : LkY} {f : List Nat → Nat}, (∀ m ∈ p, GoodM m ∧ monB m = true) → DomM p → StY L f → OkF f → KeysLe L →
    mulR q (rowLY L) p = if (prods q L p).2 = 0 then some (rowLY (prods q L p).1) else none
  | [], L, f, _, _, _, _, _ => by simp [mulR, prods]
  | m :: p, L, f, hg, hd, hs, ho, hk => by
    unfold mulR prods
    rw [mulInR_prodIn (hg m (by simp)) (hd 0 m rfl) hq.both hq.dom hs ho hk]
    rcases prodIn_spec (hg m (by simp)).1 (hd 0 m rfl) (fun n hn => hq.good hn) hq.dom hs ho with ⟨e, ho2, hs2⟩ | ⟨e, hno⟩
    · rw [if_pos e, if_pos e]
      exact mulR_prods hq (fun y hy => hg y (List.mem_cons_of_mem _ hy)) (fun k y hy => hd (k + 1) y hy) hs2 ho2 (keysLe_prodIn (hd 0 m rfl) hq.dom hk)
    · have hne : ¬ (prodIn m L q).2 = 0 := by rw [e]; decide
      rw [if_neg hne, if_neg hne, if_neg hne]

theorem mulR_eq {p q : List Mn} (hp : Pol p) (hq : Pol q) : mulR q [] p = if prodE p q = 0 then some (prodL p q) else none := by
  have h := mulR_prods hq hp.both hp.dom StY.nil okF_zero keysLe_nil
  have e : rowLY [] = [] := rfl
  rw [e] at h
  rw [h]
  unfold prodL prodE
  by_cases h0 : (prods q [] p).2 = 0
  · rw [if_pos h0, if_pos h0, if_pos h0]
  · rw [if_neg h0, if_neg h0]

end Go.Proofs.YtdjmjhlbjcgoiaaGreatDoor

/- What the document's multiplying answers. -/
namespace Go.Proofs.YtdjmjhlbjcgoiaaGreatDoor
open Go.RowKit

theorem mul_done {Z : List Nat} {P i m x D E : Nat} (h : val Z + 4294967296 ^ (i + m) * 0 = P * D + 4294967296 ^ i * (x * D)) (hE : E = P + 4294967296 ^ i * x) : val Z = E * D := by
  subst hE
  rw [Nat.add_mul, Nat.mul_assoc]
  simpa using h

theorem cast_sum (C x y z : Nat) : ((C : Int) + z + (x : Int) * y) % 4294967296 = (((C + (x * y + z)) % 4294967296 : Nat) : Int) ∧ ((C : Int) + z + (x : Int) * y) / 4294967296 = (((C + (x * y + z)) / 4294967296 : Nat) : Int) := by
  have e : (C : Int) + z + (x : Int) * y = ((C + (x * y + z) : Nat) : Int) := by
    rw [Int.natCast_add, Int.natCast_add, Int.natCast_mul]; omega
  rw [e, Int.natCast_emod, Int.natCast_ediv]
  exact ⟨rfl, rfl⟩

set_option maxRecDepth 100000 in
set_option maxHeartbeats 2000000 in
theorem refMul_any (v u : Value) (xs ys : List Nat) (w : World) (h : Sl w v xs) (h' : Sl w u ys) :
    Calls Tryz.prog 196 #[v, u] w fun e w' => ∃ v', e = .returned (.tuple #[v', .int .i64 (mulE xs ys)]) ∧ Ow w' w.heap.size v' (mulL xs ys) ∧ Below w.heap.size w w' := by
  obtain ⟨i0, hi, hz0, hz1, hz2⟩ := info_parts info_u32
  go_enter Tryz.func196, Tryz.ntmps196
  go_wp2_with fail
  refine (refRight_anyY v xs _ h).mono ?_
  rintro e w1 ⟨rfl, rfl⟩
  cases hr : rightB xs
  · go_wp2
    go_ret2
    exact ⟨_, ret2i (by simp [mulE, hr]), by simp [mulL, hr]; exact Ow.nil _ _, Below.refl _ _⟩
  go_wp2_with fail
  refine (refRight_anyY u ys _ h').mono ?_
  rintro e w1 ⟨rfl, rfl⟩
  cases hr' : rightB ys
  · go_wp2
    go_ret2
    exact ⟨_, ret2i (by simp [mulE, hr']), by simp [mulL, hr']; exact Ow.nil _ _, Below.refl _ _⟩
  have h64 := length_le_of_right hr
  have h64' := length_le_of_right hr'
  have HE : Hid (mulE xs ys = resE (val xs * val ys)) := by show _ = _; simp [mulE, hr, hr']
  have HLL : Hid (mulL xs ys = resL (val xs * val ys)) := by show _ = _; simp [mulL, hr, hr']
  obtain ⟨ao, cap, rfl, hao, hca, q1⟩ := h.flat
  obtain ⟨bo, cap', rfl, hbo, hcb, q2⟩ := h'.flat
  unfold maxLen at hca hcb
  have HS : Hid (Sl w1 (.slice ao xs.length cap) xs) := h
  have HS' : Hid (Sl w1 (.slice bo ys.length cap') ys) := h'
  clear h h' hr hr' q1 q2
  go_wp2_with (first
    | (at_make; refine wpList_make_full _ rfl _ _ 35 rfl w1.heap.size 38 i0 (.int .u32 0) 1 under_rowY hi hz0 hz1 .i64 .i64 _ _ (xs.length + ys.length + 1) rfl rfl (by omega) (by omega) (by rw [hz2]; omega) (by unfold maxLen; omega) (Nat.le_refl _) ?_; intro w0 hown0 hgrow0))
  have hb0 : Below w1.heap.size w1 w0 := (Below.refl _ _).grown hgrow0 (Nat.le_refl _) (by intro k hk; cases hk)
  have HO : Hid (Ow w0 w1.heap.size (.slice (some ⟨w1.heap.size, 0, none⟩) (xs.length + ys.length + 1) (xs.length + ys.length + 1)) (List.replicate (xs.length + ys.length + 1) 0)) := Ow.made hown0
  clear hown0 hgrow0
  go_loopw [7] (fun i wr => ∃ (k : Nat) (Z : List Nat), k ≤ xs.length ∧ i = .int .i64 k ∧ Z.length = xs.length + ys.length + 1 ∧ val Z = val (xs.take k) * val ys ∧ (∀ p, k + ys.length ≤ p → p < xs.length + ys.length + 1 → Z[p]? = some 0) ∧
      Ow wr w1.heap.size (.slice (some ⟨w1.heap.size, 0, none⟩) (xs.length + ys.length + 1) (xs.length + ys.length + 1)) Z ∧ Below w1.heap.size w1 wr) (fun i _ => xs.length - (intOf i).toNat)
  case atStart => exact ⟨0, List.replicate (xs.length + ys.length + 1) 0, Nat.zero_le _, rfl, by simp, by simp [val, val_replicate_zero], fun p _ hp => by simp [hp], HO.out, hb0⟩
  case round =>
    obtain ⟨k, Z, hk, rfl, hZ, hval, hzero, hown, hbl⟩ := hrel
    have HV : Hid (val Z = val (xs.take k) * val ys) := hval
    have HZ : Hid (Z.length = xs.length + ys.length + 1) := hZ
    have H0 : Hid (∀ p, k + ys.length ≤ p → p < xs.length + ys.length + 1 → Z[p]? = some 0) := hzero
    have HW : Hid (Ow wr w1.heap.size (.slice (some ⟨w1.heap.size, 0, none⟩) (xs.length + ys.length + 1) (xs.length + ys.length + 1)) Z) := hown
    clear hval hZ hzero hown HO hb0
    by_cases hlt : k < xs.length
    · obtain ⟨ga, offa, x, rfl, hx1, hx2, hx3⟩ := HS.out.flat'.2 k hlt
      have HX : Hid (val (xs.take (k + 1)) = val (xs.take k) + 4294967296 ^ k * x) := by
        show _ = _
        rw [take_snoc? hx1, val_snoc, List.length_take, Nat.min_eq_left (by omega)]
      have hga : ga < w1.heap.size := World.block_lt_of_cell? w1 _ hx3
      have HXC : Hid (w1.cell? ⟨ga, offa + k, none⟩ = some (.int .u32 (x : Int))) := hx3
      clear hx1 hx3
      go_wp2
      go_loopw [8, 9] (fun c i wi => ∃ (j C : Nat) (Y : List Nat), i = .int .i64 j ∧ c = .int .u64 C ∧ C < 4294967296 ∧ Y.length = xs.length + ys.length + 1 ∧
          ((j ≤ ys.length ∧ val Y + 4294967296 ^ (k + j) * C = val (xs.take k) * val ys + 4294967296 ^ k * (x * val (ys.take j)) ∧ ∀ p, k + ys.length ≤ p → p < xs.length + ys.length + 1 → Y[p]? = some 0) ∨
           (j = ys.length + 1 ∧ C = 0 ∧ val Y = val (xs.take (k + 1)) * val ys ∧ ∀ p, k + 1 + ys.length ≤ p → p < xs.length + ys.length + 1 → Y[p]? = some 0)) ∧
          Ow wi w1.heap.size (.slice (some ⟨w1.heap.size, 0, none⟩) (xs.length + ys.length + 1) (xs.length + ys.length + 1)) Y ∧ Below w1.heap.size w1 wi) (fun _ i _ => ys.length + 1 - (intOf i).toNat)
      case atStart => exact ⟨0, 0, Z, rfl, rfl, by omega, HZ.out, .inl ⟨Nat.zero_le _, by simp [val, HV.out], H0.out⟩, HW.out, hbl⟩
      case round =>
        obtain ⟨j, C, Y, rfl, rfl, hC, hY, hinv, hyo, hyb⟩ := hrel
        have GZ : Hid (Y.length = xs.length + ys.length + 1) := hY
        have GW : Hid (Ow wr w1.heap.size (.slice (some ⟨w1.heap.size, 0, none⟩) (xs.length + ys.length + 1) (xs.length + ys.length + 1)) Y) := hyo
        clear hY hyo
        rcases hinv with ⟨hj, hyv, hyz⟩ | ⟨hj, hC0, hyv, hyz⟩
        · have GV : Hid (val Y + 4294967296 ^ (k + j) * C = val (xs.take k) * val ys + 4294967296 ^ k * (x * val (ys.take j))) := hyv
          have G0 : Hid (∀ p, k + ys.length ≤ p → p < xs.length + ys.length + 1 → Y[p]? = some 0) := hyz
          clear hyv hyz
          by_cases hjl : j < ys.length
          · obtain ⟨gb, offb, y, rfl, hy1, hy2, hy3⟩ := (HS'.out.later hyb).flat'.2 j hjl
            obtain ⟨z, hz⟩ := exists_get (xs := Y) (k := k + j) (by rw [GZ.out]; omega)
            have hz32 : z < 4294967296 := GW.out.1.get hz
            obtain ⟨hcell, hfr⟩ := GW.out.at hz
            have hxc := (hyb.cell (p := ⟨ga, offa + k, none⟩) hga).trans HXC.out
            obtain ⟨hxyI, hxy0⟩ := mul_prod_leI hx2 hy2
            have KY : Hid (ys.take (j + 1) = ys.take j ++ [y]) := take_snoc? hy1
            have KL : Hid ((ys.take j).length = j) := by show _ = _; simp; omega
            have KZ : Hid (Y[k + j]? = some z) := hz
            clear hy1 hz
            go_wp2
            go_quiet (fail)
            obtain ⟨hsum, hquo⟩ := cast_sum C x y z
            have hp := (GW.out.drewN nq).put (below_drewN hyb nq) (Nat.le_refl _) GZ.out.symm (k := k + j) (z := (C + (x * y + z)) % 4294967296) hsum (by omega) rfl
            have HP : Hid (Ow ((wr.drewN nq).setCell ⟨w1.heap.size, k + j, none⟩ (.int .u32 (((C : Int) + z + (x : Int) * y) % 4294967296))) w1.heap.size (.slice (some ⟨w1.heap.size, 0, none⟩) (xs.length + ys.length + 1) (xs.length + ys.length + 1)) (Y.set (k + j) ((C + (x * y + z)) % 4294967296)) ∧ Below w1.heap.size w1 ((wr.drewN nq).setCell ⟨w1.heap.size, k + j, none⟩ (.int .u32 (((C : Int) + z + (x : Int) * y) % 4294967296)))) := hp
            have HQ : Hid (((C : Int) + z + (x : Int) * y) / 4294967296 = (((C + (x * y + z)) / 4294967296 : Nat) : Int)) := hquo
            clear hp hquo hsum
            go_wp2
            go_roundw
            case rel =>
              refine ⟨j + 1, (C + (x * y + z)) / 4294967296, _, by go_num, by rw [HQ.out], ?_, by rw [List.length_set]; exact GZ.out, .inl ⟨by omega, ?_, ?_⟩, HP.out.1, HP.out.2⟩
              · have hxyN := mul_prod_le hx2 hy2
                omega
              · rw [KY.out, val_snoc, KL.out]
                exact mul_step KZ.out GV.out
              · intro p hp1 hp2
                rw [List.getElem?_set_ne (by omega)]
                exact G0.out p hp1 hp2
            case measure => simp [intOf]; omega
          · have hjm : j = ys.length := by omega
            subst hjm
            have hz := G0.out (k + ys.length) (Nat.le_refl _) (by omega)
            have KZ : Hid (Y[k + ys.length]? = some 0) := hz
            have hv := GV.out
            rw [List.take_length] at hv
            by_cases hC0 : C = 0
            · subst hC0
              have KE : Hid (val Y = val (xs.take (k + 1)) * val ys) := mul_done hv HX.out
              clear hz hv
              go_wp2
              go_roundw
              case rel => exact ⟨k + 1, Y, by omega, by go_num, GZ.out, KE.out, fun p hp1 hp2 => G0.out p (by omega) hp2, GW.out, hyb⟩
              case measure => simp [intOf]; omega
            · have KE : Hid (val (Y.set (k + ys.length) C) = val (xs.take (k + 1)) * val ys) := mul_last hz hv HX.out
              obtain ⟨hcell, hfr⟩ := GW.out.at hz
              have hcell0 : wr.cell? ⟨w1.heap.size, k + ys.length, none⟩ = some (.int .u32 0) := hcell
              have hp := GW.out.put hyb (Nat.le_refl _) GZ.out.symm (k := k + ys.length) (z := C) (V := (C : Int)) rfl hC rfl
              have HP : Hid (Ow (wr.setCell ⟨w1.heap.size, k + ys.length, none⟩ (.int .u32 (C : Int))) w1.heap.size (.slice (some ⟨w1.heap.size, 0, none⟩) (xs.length + ys.length + 1) (xs.length + ys.length + 1)) (Y.set (k + ys.length) C) ∧ Below w1.heap.size w1 (wr.setCell ⟨w1.heap.size, k + ys.length, none⟩ (.int .u32 (C : Int)))) := hp
              clear hp hz hcell hv
              go_wp2
              go_roundw
              case rel =>
                refine ⟨ys.length + 1, 0, _, by go_num, by go_num, by omega, by rw [List.length_set]; exact GZ.out, .inr ⟨rfl, rfl, KE.out, ?_⟩, HP.out.1, HP.out.2⟩
                intro p hp1 hp2
                rw [List.getElem?_set_ne (by omega)]
                exact G0.out p (by omega) hp2
              case measure => simp [intOf]
        · subst hC0
          subst hj
          have GV : Hid (val Y = val (xs.take (k + 1)) * val ys) := hyv
          have G0 : Hid (∀ p, k + 1 + ys.length ≤ p → p < xs.length + ys.length + 1 → Y[p]? = some 0) := hyz
          clear hyv hyz
          go_wp2
          go_roundw
          case rel => exact ⟨k + 1, Y, by omega, by go_num, GZ.out, GV.out, G0.out, GW.out, hyb⟩
          case measure => simp [intOf]; omega
    · have hk' : k = xs.length := by omega
      subst hk'
      have hv := HV.out
      rw [List.take_length] at hv
      have HVZ : Hid (val Z = val xs * val ys) := hv
      clear hv HV H0
      go_wp2_with fail
      refine (told_any _ Z _ _ HW.out).mono ?_
      rintro e w3 ⟨v3, rfl, ho3, hw3⟩
      rw [HVZ.out] at ho3 ⊢
      have hb3 : Below w1.heap.size w1 w3 := by rw [hw3]; exact hbl
      have ho4 : Ow w3 w1.heap.size v3 (resL (val xs * val ys)) := by rw [hw3]; exact ho3
      clear hw3 ho3
      go_wp2
      go_ret2
      exact ⟨_, ret2i HE.out.symm, by rw [HLL.out]; exact ho4, hb3⟩

end Go.Proofs.YtdjmjhlbjcgoiaaGreatDoor
