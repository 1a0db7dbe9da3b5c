/- Texts of the proof, one behind the other. -/
import Derived.Test.YtdjmjhlbjcgoiaaGreatDoorOwn10
import Derived.Test.YtdjmjhlbjcgoiaaGreatDoorOwn11
import Derived.Test.YtdjmjhlbjcgoiaaGreatDoorOwn12
/- What the document's laid answers. -/
namespace Go.Proofs.YtdjmjhlbjcgoiaaGreatDoor
open Go.RowKit Go.Maps

theorem addL_short (xs ys : List Nat) : (addL xs ys).length ≤ 64 := by
  unfold addL resL
  split
  · split
    · assumption
    · simp
  · simp

theorem ret2b {v : Value} {a b : Bool} (h : a = b) : Ending.returned (.tuple #[v, .bool a]) = .returned (.tuple #[v, .bool b]) := by rw [h]

theorem grown_own {w w' : World} {base : Nat} {e : TypeId} {s n : Nat} {v : Value} {xs : List Value} (ho : w.ownsRow base e s v n xs) (hb : base ≤ w.heap.size) (hg : w.grownBy w' v.ownBlock) : Below base w w' :=
  ⟨hg.os, hg.tape, hg.output, hg.size, fun k hk => hg.block k (by omega) (fun e => by
    have := own_blk ho e.symm
    omega)⟩

theorem cells2_new (w : World) (cv ev : Value) (t : TypeId) (j : Nat) (u : Value) (hj : [cv, ev][j]? = some u) : (w.alloc (.cells #[cv, ev] t)).cell? ((⟨w.heap.size, 0, none⟩ : Addr).add j) = some u := by
  rw [Addr.add_lit, Nat.zero_add, cell_of_row _ _ _ _ _ _ (heap_alloc_new _ _)]
  simpa using hj

/-- A monomial appended to such a row. -/
theorem wpList_lay {w0 w : World} {base : Nat} {v cv ev : Value} {O : List Mn} {m : Mn} {ops : Array Oper} {rest : List Oper} {o : Oper} {a : Act} {Q : Exit → Act → World → Prop} (hgd : o.guard = none) (s x : Operand) (t : TypeId) (ht : t = 31)
    (ho : o.op = .call { callee := .builtin .append, args := #[s, x], argTypes := #[t, t] }) (hs : a.eval s = v) (hol : OL w0 w base v O) (ad : Addr) (c : Nat) (hx : a.eval x = .slice (some ad) 1 c)
    (hcell : ∀ (j : Nat) (u : Value), [cv, ev][j]? = some u → w.cell? (ad.add j) = some u) (h1 : cv.oneCell' = true) (h2 : ev.oneCell' = true) (hc : Sl w0 cv m.1 ∨ Ow w base cv m.1) (he : Is w0 ev m.2) (hl : O.length ≤ 1000) (hb : base ≤ w.heap.size)
    (hK : ∀ v' w', OL w0 w' base v' (O ++ [m]) → Below base w w' → wpList Tryz.prog ops Q rest (a.put o.dst v') w') : wpList Tryz.prog ops Q (o :: rest) a w := by
  subst ht
  obtain ⟨i1, hi1, hy0, hy1, hy2⟩ := info_parts info_mono
  obtain ⟨cs, hcl, hcc, hown⟩ := hol
  refine wpList_append_own w hgd s x 31 ho base 37 i1 _ 2 48 under_monos hi1 hy0 hy1 hy2 rfl (by decide) v O.length (cs.flatMap fun c => [c.1, c.2]) hs hown ad 1 c [cv, ev] hx rfl hcell ?_ (by unfold maxLen; omega) (by omega) hb ?_
  · intro u hu
    simp only [List.mem_cons, List.not_mem_nil, or_false] at hu
    rcases hu with rfl | rfl
    · exact h1
    · exact h2
  · intro v' w' hown' hgrow' _
    exact hK v' w' (OL.snoc hcl hcc hown hc he hown' hgrow' rfl) (grown_own hown hb hgrow')

set_option maxRecDepth 100000 in
set_option maxHeartbeats 6400000 in
theorem refLaid_anyY (A : Nat → Bool) (v cv ev : Value) (p : List Mn) (m : Mn) (w : World) (h : Ms (onlyY A w) v p) (hm : Mo (onlyY A w) cv ev m) (hp : p.length ≤ 256) (hA : ∀ g, w.heap.size ≤ g → A g = true) :
    Calls Tryz.prog 178 #[v, .agg #[cv, ev]] w fun e w' => Below w.heap.size w w' ∧
      ((laidR p m = none ∧ ∃ u, e = .returned (.tuple #[u, .bool false])) ∨ (∃ r, laidR p m = some r ∧ ∃ u, e = .returned (.tuple #[u, .bool true]) ∧ Ms (onlyY A w') u r)) := by
  obtain ⟨i1, hi1, hy0, hy1, hy2⟩ := info_parts info_mono
  obtain ⟨ao, cap, rfl, hao, hca, q0⟩ := Row.flat h
  unfold maxLen at hca
  obtain ⟨a1, c1, rfl, hl1, hl2, _⟩ := hm.1.flat
  obtain ⟨a2, c2, rfl, hl3, hl4, _⟩ := Row.flat hm.2
  unfold maxLen at hl2 hl4
  have HM : Hid (Ms (onlyY A w) (.slice ao p.length cap) p) := h
  have HMo : Hid (Mo (onlyY A w) (.slice a1 m.1.length c1) (.slice a2 m.2.length c2) m) := hm
  have HA : Hid (∀ g, w.heap.size ≤ g → A g = true) := hA
  clear h q0 hm hA
  go_enter Tryz.func178, Tryz.ntmps178
  go_wp2_with fail
  refine (refSmall_any _ _ m _ (HMo.out.kp ((only_kp A w).trans (Kp.of_below (below_alloc _))))).mono ?_
  rintro e w1 ⟨rfl, hb1⟩
  obtain ⟨hx0, hx1, hbw⟩ := box2Y hb1
  cases hsm : smallR m
  · have HF : Hid (laidR p m = none) := by show _ = _; unfold laidR; rw [if_neg (by rw [hsm]; decide)]
    go_wp2
    go_ret2
    exact ⟨hbw, .inl ⟨HF.out, _, rfl⟩⟩
  have HSm : Hid (smallR m = true) := hsm
  clear hsm
  have hsz1 : w.heap.size < w1.heap.size := Nat.lt_of_lt_of_le (by simp) hb1.size
  have HX0 : Hid (w1.cell? ⟨w.heap.size, 0, none⟩ = some (.slice a1 m.1.length c1)) := hx0
  have HX1 : Hid (w1.cell? ⟨w.heap.size, 1, none⟩ = some (.slice a2 m.2.length c2)) := hx1
  have HBW : Hid (Below w.heap.size w w1) := hbw
  clear hb1 hx0 hx1 hbw
  go_wp2
  go_loopw [6, 7, 8] (fun x d i wr => ∃ (k : Nat) (O : List Mn) (b : Bool), k ≤ p.length ∧ O.length ≤ k + b.toNat ∧ d = .bool b ∧ i = .int .i64 k ∧ OL (onlyY A w) wr w1.heap.size x O ∧ lay m p false = (lay m (p.drop k) b).map (fun t => O ++ t) ∧ Below w1.heap.size w1 wr) (fun _ _ i _ => p.length - (intOf i).toNat)
  case atStart => exact ⟨0, [], false, Nat.zero_le _, by simp, rfl, rfl, OL.empty (Nat.le_refl _), by simp, below_alloc _⟩
  case round =>
    obtain ⟨k, O, b, hk, hO, rfl, rfl, hol, hlay, hbl⟩ := hrel
    have HLay : Hid (lay m p false = (lay m (p.drop k) b).map (fun t => O ++ t)) := hlay
    have hO3 : O.length ≤ 300 := by cases b <;> simp at hO <;> omega
    have HOl : Hid (OL (onlyY A w) wr w1.heap.size u6 O) := hol
    clear hlay hol
    have HB : Hid (Below w1.heap.size w1 wr) := hbl
    have hx0 := (Kp.of_below hbl).cell _ _ HX0.out
    have hx1 := (Kp.of_below hbl).cell _ _ HX1.out
    have hbw : Below w.heap.size w wr := below_step HBW.out hbl
    have KW : Kp (onlyY A w) wr := (only_kp A w).trans (Kp.of_below hbw)
    by_cases hlt : k < p.length
    · obtain ⟨g, off, c, es, b1, d1, b2, d2, rfl, hm1, hc0', hc1', hmo, hn1, hn2, hn3, hn4⟩ := HM.out.at hlt
      have hc0 := KW.cell _ _ hc0'
      have hc1 := KW.cell _ _ hc1'
      have HC0 : Hid (w1.cell? ⟨g, off + k * 2, none⟩ = some (.slice b1 c.length d1)) := ((only_kp A w).trans (Kp.of_below HBW.out)).cell _ _ hc0'
      have HC1 : Hid (w1.cell? ⟨g, off + k * 2 + 1, none⟩ = some (.slice b2 es.length d2)) := ((only_kp A w).trans (Kp.of_below HBW.out)).cell _ _ hc1'
      have HX : Hid (p[k]? = some (c, es)) := hm1
      have HMe : Hid (Mo (onlyY A w) (.slice b1 c.length d1) (.slice b2 es.length d2) (c, es)) := hmo
      have HKW : Hid (Kp (onlyY A w) wr) := KW
      clear hm1 hmo hc0' hc1' KW
      go_wp2_with fail
      refine region_belowY (by kernel_rfl) (by kernel_rfl) ?_
      go_big_quiet_want
      refine ⟨.pointer (some ⟨w.heap.size, 1, none⟩), fun w' hw' => ?_, ?_⟩
      · unfold Oper.quietAt; go_simp
      simp only [Act.put, List.setIfInBounds_toArray, List.set_cons_zero, List.set_cons_succ]
      go_big_quiet_on
      go_big_quiet_want
      refine ⟨.slice a2 m.2.length c2, fun w' hw' => ?_, ?_⟩
      · have hh := (Kp.of_below hw').cell _ _ hx1; unfold Oper.quietAt; go_simp
      simp only [Act.put, List.setIfInBounds_toArray, List.set_cons_zero, List.set_cons_succ]
      go_big_quiet_on
      (go_big_quiet_want; go_big_quiet_op; go_big_quiet_on)
      (go_big_quiet_want; go_big_quiet_op; go_big_quiet_on)
      go_big_quiet_want
      refine ⟨.pointer (some ⟨g, off + k * 2, none⟩), fun w' hw' => ?_, ?_⟩
      · unfold Oper.quietAt; go_simp
      simp only [Act.put, List.setIfInBounds_toArray, List.set_cons_zero, List.set_cons_succ]
      go_big_quiet_on
      go_big_quiet_want
      refine ⟨.pointer (some ⟨g, off + k * 2 + 1, none⟩), fun w' hw' => ?_, ?_⟩
      · unfold Oper.quietAt; go_simp
      simp only [Act.put, List.setIfInBounds_toArray, List.set_cons_zero, List.set_cons_succ]
      go_big_quiet_on
      go_big_quiet_want
      refine ⟨.slice b2 es.length d2, fun w' hw' => ?_, ?_⟩
      · have hh := (Kp.of_below hw').cell _ _ hc1; unfold Oper.quietAt; go_simp
      simp only [Act.put, List.setIfInBounds_toArray, List.set_cons_zero, List.set_cons_succ]
      go_big_quiet_on
      go_big_quiet_want
      refine ⟨.int .i64 (ordX m.2 es), fun w' hw' => ?_, ?_⟩
      · unfold Oper.quietAt; go_simp; exact (refOrder_any _ _ m.2 es _ (HMo.out.2.kp (HKW.out.trans (Kp.of_below hw'))) (HMe.out.2.kp (HKW.out.trans (Kp.of_below hw')))).mono (fun e w1 ⟨he, hb⟩ => ⟨he, by rw [hb]; exact hw'⟩)
      simp only [Act.put, List.setIfInBounds_toArray, List.set_cons_zero, List.set_cons_succ]
      go_big_quiet_on
      (go_big_quiet_want; go_big_quiet_op; go_big_quiet_on)
      refine wpQuiet_nil ?_
      intro w2 hb2
      have hxa := (Kp.of_below hb2).cell _ _ hx0
      have hxb := (Kp.of_below hb2).cell _ _ hx1
      have hca := (Kp.of_below hb2).cell _ _ hc0
      have hcb := (Kp.of_below hb2).cell _ _ hc1
      clear hx0 hx1 hc0 hc1
      have HO2 : Hid (OL (onlyY A w) w2 w1.heap.size u6 O) := HOl.out.later hb2
      have HB2 : Hid (Below w1.heap.size w1 w2) := below_step HB.out hb2
      have hd : p.drop k = (c, es) :: p.drop (k + 1) := drop_getY HX.out
      have HD : Hid (p.drop k = (c, es) :: p.drop (k + 1)) := hd
      clear hd HOl HB HKW hb2 hbw hbl
      by_cases ho0 : ordX m.2 es = 0
      · go_wp2_with fail
        have hS : Below w1.heap.size w1 w2.drew := HB2.out.drew
        have bW : Below w2.heap.size w2 w2.drew := (Below.refl _ _).drew
        refine wp_region_held_drew (S := fun w' => Below w1.heap.size w1 w') (by kernel_rfl) hS (fun _ => ?_)
        obtain ⟨W0, hW0⟩ : ∃ X, X = w2.drew := ⟨_, rfl⟩
        rw [← hW0] at hS bW ⊢
        clear hW0
        refine wpAnyH_take (i := 0) (v := .slice (some ⟨g, off, none⟩) p.length cap) rfl (by kernel_rfl) (by kernel_rfl) (by kernel_rfl) (fun _ _ _ h => h) (Or.inl ⟨by rfl, fun w' _ => by go_simp⟩) hS ?_
        simp only [Act.put, List.setIfInBounds_toArray]
        refine wpAnyH_take (i := 1) (v := .int .i64 (k : Int)) rfl (by kernel_rfl) (by kernel_rfl) (by kernel_rfl) (fun _ _ _ h => h) (Or.inl ⟨by rfl, fun w' _ => by go_simp⟩) hS ?_
        simp only [Act.put]
        refine wpAnyH_take (i := 2) (v := .pointer (some ⟨g, off + k * 2, none⟩)) rfl (by kernel_rfl) (by kernel_rfl) (by kernel_rfl) (fun _ _ _ h => h) (Or.inl ⟨by rfl, fun w' _ => by go_simp⟩) hS ?_
        simp only [Act.put]
        refine wpAnyH_take (i := 3) (v := .pointer (some ⟨g, off + k * 2, none⟩)) rfl (by kernel_rfl) (by kernel_rfl) (by kernel_rfl) (fun _ _ _ h => h) (Or.inl ⟨by rfl, fun w' _ => by go_simp⟩) hS ?_
        simp only [Act.put]
        refine wpAnyH_take (i := 4) (v := .slice b1 c.length d1) rfl (by kernel_rfl) (by kernel_rfl) (by kernel_rfl) (fun _ _ _ h => h) (Or.inl ⟨by rfl, fun w' h => by have hh := (Kp.of_below h).cell _ _ HC0.out; go_simp⟩) hS ?_
        simp only [Act.put]
        refine wpAnyH_take (i := 5) (v := .pointer (some ⟨w.heap.size, 0, none⟩)) rfl (by kernel_rfl) (by kernel_rfl) (by kernel_rfl) (fun _ _ _ h => h) (Or.inl ⟨by rfl, fun w' _ => by go_simp⟩) hS ?_
        simp only [Act.put]
        refine wpAnyH_take (i := 6) (v := .slice a1 m.1.length c1) rfl (by kernel_rfl) (by kernel_rfl) (by kernel_rfl) (fun _ _ _ h => h) (Or.inl ⟨by rfl, fun w' h => by have hh := (Kp.of_below h).cell _ _ HX0.out; go_simp⟩) hS ?_
        simp only [Act.put]
        refine wpAnyH_ready (rs := [7]) (by kernel_rfl) (by simp) (AllReadyH.cons rfl (fun K hK => ?_) AllReadyH.nil)
        go_simp
        refine (refAdd_any _ _ c m.1 _ (HMe.out.1.kp (((only_kp A w).trans (Kp.of_below HBW.out)).trans (Kp.of_below hS))) (HMo.out.1.kp (((only_kp A w).trans (Kp.of_below HBW.out)).trans (Kp.of_below hS)))).mono ?_
        rintro e W1 ⟨vs, rfl, hvs, hbs⟩
        refine hK.out _ _ (below_step hS hbs) (fun hS1 => ?_)
        clear hK K
        have bW1 := below_step bW hbs
        obtain ⟨b3, d3, rfl, hd3, hd4, _⟩ := hvs.sl.flat
        unfold maxLen at hd4
        have HVs : Hid (Ow W1 w1.heap.size (.slice b3 (addL c m.1).length d3) (addL c m.1)) := hvs.mono hS.size
        clear hvs hbs hS bW
        have hS := hS1
        clear hS1
        have HB5 : Hid (Below w1.heap.size w1 W1) := hS
        have HO5 : Hid (OL (onlyY A w) W1 w1.heap.size u6 O) := HO2.out.later bW1
        clear bW1
        have hxa := (Kp.of_below hS).cell _ _ HX0.out
        have hxb := (Kp.of_below hS).cell _ _ HX1.out
        refine wpAnyH_take (i := 8) (v := .tuple #[.slice b3 (addL c m.1).length d3, .int .i64 (addE c m.1)]) rfl (by kernel_rfl) (by kernel_rfl) (by kernel_rfl) (fun _ _ _ h => h) (Or.inl ⟨by rfl, fun w' _ => by go_simp⟩) hS ?_
        simp only [Act.put, List.setIfInBounds_toArray]
        refine wpAnyH_take (i := 9) (v := .slice b3 (addL c m.1).length d3) rfl (by kernel_rfl) (by kernel_rfl) (by kernel_rfl) (fun _ _ _ h => h) (Or.inl ⟨by rfl, fun w' _ => by go_simp⟩) hS ?_
        simp only [Act.put]
        refine wpAnyH_take (i := 10) (v := .int .i64 (addE c m.1)) rfl (by kernel_rfl) (by kernel_rfl) (by kernel_rfl) (fun _ _ _ h => h) (Or.inl ⟨by rfl, fun w' _ => by go_simp⟩) hS ?_
        simp only [Act.put]
        refine wpAnyH_take (i := 11) (v := .slice b3 (addL c m.1).length d3) rfl (by kernel_rfl) (by kernel_rfl) (by kernel_rfl) (fun _ _ _ h => h) (Or.inl ⟨by rfl, fun w' _ => by go_simp⟩) hS ?_
        simp only [Act.put]
        refine wpAnyH_take (i := 12) (v := .int .i64 (addE c m.1)) rfl (by kernel_rfl) (by kernel_rfl) (by kernel_rfl) (fun _ _ _ h => h) (Or.inl ⟨by rfl, fun w' _ => by go_simp⟩) hS ?_
        simp only [Act.put]
        refine wpAnyH_done (by kernel_rfl) ?_ _
        clear hS
        have h64 := addL_short c m.1
        by_cases hae : addE c m.1 = 0
        · have HL2 : Hid (lay m p false = (lay m (p.drop (k + 1)) true).map (fun t => (O ++ [(addL c m.1, m.2)]) ++ t)) := by
            show _ = _
            rw [HLay.out, HD.out, lay, if_pos ho0, if_pos hae]
            cases lay m (p.drop (k + 1)) true with
            | none => rfl
            | some t => simp
          clear HLay HD
          go_wp2_with (first
            | (at_builtin; refine wpList_lay (w0 := onlyY A w) (v := u6) (O := O) (m := (addL c m.1, m.2)) (base := w1.heap.size) rfl _ _ _ rfl rfl rfl (HO5.out.later (below_alloc _)) ⟨W1.heap.size, 0, none⟩ 1 rfl (cells2_new _ _ _ _) rfl rfl (.inr (HVs.out.since (below_alloc _))) HMo.out.2 (by omega) (Nat.le_trans HB5.out.size (below_alloc _).size) ?_; intro v3 w3 hol3 hb3; have HO3 : Hid (OL (onlyY A w) w3 w1.heap.size v3 (O ++ [(addL c m.1, m.2)])) := hol3; have HB3 : Hid (Below w1.heap.size w1 w3) := (below_step HB5.out (below_alloc _)).trans hb3; clear hol3 hb3))
          go_roundw
          case rel => exact ⟨k + 1, _, _, by omega, by rw [List.length_append]; cases b <;> simp at hO ⊢ <;> omega, rfl, by go_num, HO3.out, HL2.out, HB3.out⟩
          case measure => simp [intOf]; omega
        · have HF : Hid (laidR p m = none) := by
            show _ = _
            unfold laidR
            rw [if_pos HSm.out, HLay.out, HD.out, lay, if_pos ho0, if_neg hae]
            rfl
          clear HLay HD
          go_wp2
          go_ret2
          exact ⟨below_step HBW.out HB5.out, .inl ⟨HF.out, _, rfl⟩⟩
      · by_cases hneg : ordX m.2 es < 0
        · cases b
          · have HL2 : Hid (lay m p false = (lay m (p.drop (k + 1)) true).map (fun t => (O ++ [m] ++ [(c, es)]) ++ t)) := by
              show _ = _
              rw [HLay.out, HD.out, lay, if_neg ho0, if_pos ⟨hneg, rfl⟩]
              cases lay m (p.drop (k + 1)) true with
              | none => rfl
              | some t => simp
            clear HD HLay
            go_wp2_with (first
              | (at_builtin; refine wpList_lay (w0 := onlyY A w) (v := u6) (O := O) (m := m) (base := w1.heap.size) rfl _ _ _ rfl rfl rfl (HO2.out.later (below_alloc _)) ⟨w2.heap.size, 0, none⟩ 1 rfl (cells2_new _ _ _ _) rfl rfl (.inl HMo.out.1) HMo.out.2 (by omega) (Nat.le_trans HB2.out.size (below_alloc _).size) ?_; intro v3 w3 hol3 hb3; have HO3 : Hid (OL (onlyY A w) w3 w1.heap.size v3 (O ++ [m])) := hol3; have HB3 : Hid (Below w1.heap.size w1 w3) := (below_step HB2.out (below_alloc _)).trans hb3; have hca3 := (Kp.of_below HB3.out).cell _ _ HC0.out; have hcb3 := (Kp.of_below HB3.out).cell _ _ HC1.out; clear hol3 hb3)
              | (at_builtin; refine wpList_lay (w0 := onlyY A w) (v := v3) (O := O ++ [m]) (m := (c, es)) (base := w1.heap.size) rfl _ _ _ rfl rfl rfl (HO3.out.later (below_alloc _)) ⟨w3.heap.size, 0, none⟩ 1 rfl (cells2_new _ _ _ _) rfl rfl (.inl HMe.out.1) HMe.out.2 (by rw [List.length_append]; simp; omega) (Nat.le_trans HB3.out.size (below_alloc _).size) ?_; intro v4 w4 hol4 hb4; have HO4 : Hid (OL (onlyY A w) w4 w1.heap.size v4 (O ++ [m] ++ [(c, es)])) := hol4; have HB4 : Hid (Below w1.heap.size w1 w4) := (below_step HB3.out (below_alloc _)).trans hb4; clear hol4 hb4))
            go_roundw
            case rel => exact ⟨k + 1, _, _, by omega, by rw [List.length_append, List.length_append]; simp at hO ⊢; omega, rfl, by go_num, HO4.out, HL2.out, HB4.out⟩
            case measure => simp [intOf]; omega
          · have HL2 : Hid (lay m p false = (lay m (p.drop (k + 1)) true).map (fun t => (O ++ [(c, es)]) ++ t)) := by
              show _ = _
              rw [HLay.out, HD.out, lay, if_neg ho0, if_neg (fun hh => (by cases hh.2))]
              cases lay m (p.drop (k + 1)) true with
              | none => rfl
              | some t => simp
            clear HD HLay
            go_wp2_with (first
              | (at_builtin; refine wpList_lay (w0 := onlyY A w) (v := u6) (O := O) (m := (c, es)) (base := w1.heap.size) rfl _ _ _ rfl rfl rfl (HO2.out.later (below_alloc _)) ⟨w2.heap.size, 0, none⟩ 1 rfl (cells2_new _ _ _ _) rfl rfl (.inl HMe.out.1) HMe.out.2 (by omega) (Nat.le_trans HB2.out.size (below_alloc _).size) ?_; intro v3 w3 hol3 hb3; have HO3 : Hid (OL (onlyY A w) w3 w1.heap.size v3 (O ++ [(c, es)])) := hol3; have HB3 : Hid (Below w1.heap.size w1 w3) := (below_step HB2.out (below_alloc _)).trans hb3; clear hol3 hb3))
            go_roundw
            case rel => exact ⟨k + 1, _, _, by omega, by rw [List.length_append]; simp at hO ⊢; omega, rfl, by go_num, HO3.out, HL2.out, HB3.out⟩
            case measure => simp [intOf]; omega
        · cases b
          · have HL2 : Hid (lay m p false = (lay m (p.drop (k + 1)) false).map (fun t => (O ++ [(c, es)]) ++ t)) := by
              show _ = _
              rw [HLay.out, HD.out, lay, if_neg ho0, if_neg (fun hh => hneg hh.1)]
              cases lay m (p.drop (k + 1)) false with
              | none => rfl
              | some t => simp
            clear HD HLay
            go_wp2_with (first
              | (at_builtin; refine wpList_lay (w0 := onlyY A w) (v := u6) (O := O) (m := (c, es)) (base := w1.heap.size) rfl _ _ _ rfl rfl rfl (HO2.out.later (below_alloc _)) ⟨w2.heap.size, 0, none⟩ 1 rfl (cells2_new _ _ _ _) rfl rfl (.inl HMe.out.1) HMe.out.2 (by omega) (Nat.le_trans HB2.out.size (below_alloc _).size) ?_; intro v3 w3 hol3 hb3; have HO3 : Hid (OL (onlyY A w) w3 w1.heap.size v3 (O ++ [(c, es)])) := hol3; have HB3 : Hid (Below w1.heap.size w1 w3) := (below_step HB2.out (below_alloc _)).trans hb3; clear hol3 hb3))
            go_roundw
            case rel => exact ⟨k + 1, _, _, by omega, by rw [List.length_append]; simp at hO ⊢; omega, rfl, by go_num, HO3.out, HL2.out, HB3.out⟩
            case measure => simp [intOf]; omega
          · have HL2 : Hid (lay m p false = (lay m (p.drop (k + 1)) true).map (fun t => (O ++ [(c, es)]) ++ t)) := by
              show _ = _
              rw [HLay.out, HD.out, lay, if_neg ho0, if_neg (fun hh => hneg hh.1)]
              cases lay m (p.drop (k + 1)) true with
              | none => rfl
              | some t => simp
            clear HD HLay
            go_wp2_with (first
              | (at_builtin; refine wpList_lay (w0 := onlyY A w) (v := u6) (O := O) (m := (c, es)) (base := w1.heap.size) rfl _ _ _ rfl rfl rfl (HO2.out.later (below_alloc _)) ⟨w2.heap.size, 0, none⟩ 1 rfl (cells2_new _ _ _ _) rfl rfl (.inl HMe.out.1) HMe.out.2 (by omega) (Nat.le_trans HB2.out.size (below_alloc _).size) ?_; intro v3 w3 hol3 hb3; have HO3 : Hid (OL (onlyY A w) w3 w1.heap.size v3 (O ++ [(c, es)])) := hol3; have HB3 : Hid (Below w1.heap.size w1 w3) := (below_step HB2.out (below_alloc _)).trans hb3; clear hol3 hb3))
            go_roundw
            case rel => exact ⟨k + 1, _, _, by omega, by rw [List.length_append]; simp at hO ⊢; omega, rfl, by go_num, HO3.out, HL2.out, HB3.out⟩
            case measure => simp [intOf]; omega
    · have hke : k = p.length := by omega
      subst hke
      have hdn : p.drop p.length = [] := List.drop_of_length_le (Nat.le_refl _)
      have hz : p.length ≤ 9223372036854775807 := by omega
      cases b
      · have HL2 : Hid (lay m p false = some (O ++ [m])) := by
          show _ = _
          rw [HLay.out, hdn]
          rfl
        clear HLay hdn
        simp only [Bool.toNat_false] at hO
        go_wp2_with (first
          | (at_builtin; refine wpList_lay (w0 := onlyY A w) (v := u6) (O := O) (m := m) (base := w1.heap.size) rfl _ _ _ rfl rfl rfl (HOl.out.later (below_alloc _)) ⟨wr.heap.size, 0, none⟩ 1 rfl (cells2_new _ _ _ _) rfl rfl (.inl HMo.out.1) HMo.out.2 (by omega) (Nat.le_trans HB.out.size (below_alloc _).size) ?_; intro v3 w3 hol3 hb3; have HO3 : Hid (OL (onlyY A w) w3 w1.heap.size v3 (O ++ [m])) := hol3; have HB3 : Hid (Below w1.heap.size w1 w3) := (below_step HB.out (below_alloc _)).trans hb3; obtain ⟨ao3, cap3, rfl, hc3, hm3⟩ := hol3.slice; unfold maxLen at hm3; clear hol3 hb3))
        go_ret2
        refine ⟨below_step HBW.out HB3.out, ?_⟩
        have hms := HO3.out.ms (A := A) (only_below (below_step HBW.out HB3.out)) (fun g hg => HA.out g (by omega))
        by_cases h256 : O.length + 1 ≤ 256
        · refine .inr ⟨O ++ [m], ?_, _, ret2b (by simp; omega), ?_⟩
          · unfold laidR
            rw [if_pos HSm.out, HL2.out]
            simp only [List.length_append, List.length_singleton]
            rw [if_pos h256]
          · rw [show (O ++ [m]).length = O.length + 1 by simp] at hms
            exact hms
        · refine .inl ⟨?_, _, ret2b (by simp; omega)⟩
          unfold laidR
          rw [if_pos HSm.out, HL2.out]
          simp only [List.length_append, List.length_singleton]
          rw [if_neg h256]
      · have HL2 : Hid (lay m p false = some O) := by
          show _ = _
          rw [HLay.out, hdn]
          simp [lay]
        clear HLay hdn
        obtain ⟨ao3, cap3, rfl, hc3, hm3⟩ := HOl.out.slice
        unfold maxLen at hm3
        go_wp2
        go_ret2
        refine ⟨below_step HBW.out HB.out, ?_⟩
        have hms := HOl.out.ms (A := A) (only_below (below_step HBW.out HB.out)) (fun g hg => HA.out g (by omega))
        by_cases h256 : O.length ≤ 256
        · refine .inr ⟨O, ?_, _, ret2b (by simp; omega), hms⟩
          unfold laidR
          rw [if_pos HSm.out, HL2.out]
          simp only
          rw [if_pos h256]
        · refine .inl ⟨?_, _, ret2b (by simp; omega)⟩
          unfold laidR
          rw [if_pos HSm.out, HL2.out]
          simp only
          rw [if_neg h256]

end Go.Proofs.YtdjmjhlbjcgoiaaGreatDoor

/- What the document's Value answers is what Value answers: plain data. -/
namespace Go.Proofs.YtdjmjhlbjcgoiaaGreatDoor
open Go.RowKit Go.Maps

theorem polyB_two {p : List Mn} {a b : Int} (ha : ∀ m ∈ p, (m.2.length : Int) ≤ a) (hb : ∀ m ∈ p, (m.2.length : Int) ≤ b) : polyB p a = polyB p b := by
  rw [Bool.eq_iff_iff, polyB_iff, polyB_iff]
  exact ⟨fun h k hk => okAt_vars (h k hk) fun m hm => hb m (List.mem_of_getElem? hm), fun h k hk => okAt_vars (h k hk) fun m hm => ha m (List.mem_of_getElem? hm)⟩

theorem check_long {p : List Mn} (h : ∀ m ∈ p, m.2.length ≤ 4611686018427387904) : checkE p 4611686018427387904 = checkE p 9223372036854775807 := by
  unfold checkE
  rw [polyB_two (a := 4611686018427387904) (b := 9223372036854775807) (fun m hm => by have := h m hm; omega) (fun m hm => by have := h m hm; omega)]
  simp

theorem check_len {p : List Mn} {n : Nat} (h : checkE p 9223372036854775807 = 0) : checkE p (n : Int) = 0 ↔ varsN p ≤ n := by
  obtain ⟨h1, h2⟩ := (check_iff (by omega)).1 h
  rw [check_iff (by omega), varsN_iff]
  constructor
  · rintro ⟨h3, _⟩ m hm
    have := (polyB_good h3 hm).2
    omega
  · intro h3
    refine ⟨?_, h2⟩
    rw [polyB_two (b := 9223372036854775807) (fun m hm => by have := h3 m hm; omega) (fun m hm => (polyB_good h1 hm).2)]
    exact h1

end Go.Proofs.YtdjmjhlbjcgoiaaGreatDoor

/- What the document's Add answers. -/
namespace Go.Proofs.YtdjmjhlbjcgoiaaGreatDoor
open Go.RowKit Go.Maps

theorem Ms.limA {w : World} {v : Value} {p : List Mn} (h : Ms w v p) : ∀ m ∈ p, Lim m.1 := by
  intro m hm
  obtain ⟨k, hk⟩ := List.mem_iff_getElem?.1 hm
  obtain ⟨ao, cap, rfl, _, _, hx⟩ := Row.flat h
  obtain ⟨g, off, x, _, hk2, cv, ev, _, _, hmo⟩ := hx k (List.getElem?_eq_some_iff.1 hk).1
  rw [hk] at hk2
  cases hk2
  exact hmo.1.1

theorem laidR_len {p r : List Mn} {m : Mn} (h : laidR p m = some r) : r.length ≤ 256 := by
  unfold laidR at h
  split at h
  · split at h
    · cases h
    · split at h
      · cases h; assumption
      · cases h
  · cases h

theorem addP_first {p q : List Mn} (h : ¬ checkE p 9223372036854775807 = 0) : addPE p q = checkE p 9223372036854775807 ∧ addPL p q = [] ∧ mulPE p q = checkE p 9223372036854775807 ∧ mulPL p q = [] := by
  have e : checkAllE [p, q] = checkE p 9223372036854775807 := by simp [checkAllE, h]
  unfold addPE addPL mulPE mulPL
  rw [e, if_neg h, if_neg h, if_neg h, if_neg h]
  exact ⟨rfl, rfl, rfl, rfl⟩

theorem addP_second {p q : List Mn} (h0 : checkE p 9223372036854775807 = 0) (h : ¬ checkE q 9223372036854775807 = 0) : addPE p q = checkE q 9223372036854775807 ∧ addPL p q = [] ∧ mulPE p q = checkE q 9223372036854775807 ∧ mulPL p q = [] := by
  have e : checkAllE [p, q] = checkE q 9223372036854775807 := by simp [checkAllE, h0, h]
  unfold addPE addPL mulPE mulPL
  rw [e, if_neg h, if_neg h, if_neg h, if_neg h]
  exact ⟨rfl, rfl, rfl, rfl⟩

set_option maxRecDepth 100000 in
set_option maxHeartbeats 6400000 in
theorem refAddP_any (A : Nat → Bool) (v u : Value) (p q : List Mn) (w : World) (h : Ms (onlyY A w) v p) (h' : Ms (onlyY A w) u q) (hA : ∀ g, w.heap.size ≤ g → A g = true) (hl : ∀ m ∈ p, m.2.length ≤ 4611686018427387904) (hl' : ∀ m ∈ q, m.2.length ≤ 4611686018427387904) :
    Calls Tryz.prog 152 #[v, u] w fun e w' => ∃ v', e = .returned (.tuple #[v', .int .i64 (addPE p q)]) ∧ Ms (onlyY A w') v' (addPL p q) ∧ Below w.heap.size w w' := by
  obtain ⟨ao, cap, rfl, hao, hca, q0⟩ := Row.flat h
  obtain ⟨bo, cap', rfl, hbo, hcb, q0'⟩ := Row.flat h'
  unfold maxLen at hca hcb
  have HP : Hid (Ms (onlyY A w) (.slice ao p.length cap) p) := h
  have HQ : Hid (Ms (onlyY A w) (.slice bo q.length cap') q) := h'
  have HA : Hid (∀ g, w.heap.size ≤ g → A g = true) := hA
  have HLp : Hid (checkR p 4611686018427387904 = checkE p 9223372036854775807) := by show _ = _; rw [checkR_eq, check_long hl]
  have HLq : Hid (checkR q 4611686018427387904 = checkE q 9223372036854775807) := by show _ = _; rw [checkR_eq, check_long hl']
  clear h h' q0 q0' hA hl hl'
  go_enter Tryz.func152, Tryz.ntmps152
  go_wp2_with fail
  refine (refCheck_anyY _ p 4611686018427387904 _ (HP.out.kp (only_kp A w)) (by omega) (by omega)).mono ?_
  rw [HLp.out]
  rintro e w1 ⟨rfl, hb1⟩
  have HB1 : Hid (Below w.heap.size w w1) := hb1
  clear hb1
  by_cases hp0 : checkE p 9223372036854775807 = 0
  · rw [hp0]
    go_wp2_with fail
    refine (refCheck_anyY _ q 4611686018427387904 _ (HQ.out.kp ((only_kp A w).trans (Kp.of_below HB1.out))) (by omega) (by omega)).mono ?_
    rw [HLq.out]
    rintro e w2 ⟨rfl, hb2⟩
    have HB2 : Hid (Below w.heap.size w w2) := below_step HB1.out hb2
    clear hb2 HB1
    by_cases hq0 : checkE q 9223372036854775807 = 0
    · rw [hq0]
      have hpp : Pol p := Pol.of HP.out.limA (by decide) hp0
      have hqq : Pol q := Pol.of HQ.out.limA (by decide) hq0
      obtain ⟨f1, f2, _, _⟩ := addP_of hp0 hq0
      have HR : Hid (addR p q = if sumE p q = 0 then some (sumL p q) else none) := addR_eq hpp hqq
      have HE : Hid (sumE p q = 0 ∨ sumE p q = 2 ∧ sumL p q = []) := by
        rcases sum_spec hpp hqq with ⟨e, _⟩ | ⟨e, _, e2⟩
        · exact .inl e
        · exact .inr ⟨e, e2⟩
      have hplen := hpp.len
      have hqlen := hqq.len
      have HF : Hid (addPE p q = sumE p q ∧ addPL p q = sumL p q) := ⟨f1, f2⟩
      clear hpp hqq f1 f2
      go_wp2
      go_loopw [7, 8] (fun x i wr => ∃ (k : Nat) (O : List Mn), k ≤ q.length ∧ O.length ≤ 256 ∧ i = .int .i64 k ∧ Ms (onlyY A wr) x O ∧ addR p q = addR O (q.drop k) ∧ Below w.heap.size w wr) (fun _ i _ => q.length - (intOf i).toNat)
      case atStart => exact ⟨0, p, Nat.zero_le _, hplen, rfl, HP.out.kp (only_below HB2.out), rfl, HB2.out⟩
      case round =>
        obtain ⟨k, O, hk, hO, rfl, hms, hadd, hbl⟩ := hrel
        have HMs : Hid (Ms (onlyY A wr) u7 O) := hms
        have HAd : Hid (addR p q = addR O (q.drop k)) := hadd
        have HB : Hid (Below w.heap.size w wr) := hbl
        have KW : Kp (onlyY A w) wr := (only_kp A w).trans (Kp.of_below hbl)
        clear hms hadd
        by_cases hlt : k < q.length
        · obtain ⟨g, off, c, es, b1, d1, b2, d2, rfl, hm1, hc0', hc1', hmo, hn1, hn2, hn3, hn4⟩ := HQ.out.at hlt
          have hc0 := KW.cell _ _ hc0'
          have hc1 := KW.cell _ _ hc1'
          have HX : Hid (q[k]? = some (c, es)) := hm1
          have HMo : Hid (Mo (onlyY A w) (.slice b1 c.length d1) (.slice b2 es.length d2) (c, es)) := hmo
          clear hm1 hmo hc0' hc1' hbl KW
          have hd : q.drop k = (c, es) :: q.drop (k + 1) := drop_getY HX.out
          go_wp2_with fail
          refine (refLaid_anyY A _ _ _ O (c, es) _ HMs.out (HMo.out.kp (only_below HB.out)) hO (fun g hg => HA.out g (Nat.le_trans HB.out.size hg))).mono ?_
          rintro e w3 ⟨hb3, h3⟩
          have HB3 : Hid (Below w.heap.size w w3) := below_step HB.out hb3
          rcases h3 with ⟨hnone, x3, rfl⟩ | ⟨r, hr, x3, rfl, hms3⟩
          · have hz : sumE p q = 2 ∧ sumL p q = [] := by
              rcases HE.out with h0 | h0
              · have := HR.out
                rw [if_pos h0, HAd.out, hd, addR, hnone] at this
                cases this
              · exact h0
            have HFF : Hid (addPE p q = 2 ∧ addPL p q = []) := ⟨HF.out.1.trans hz.1, HF.out.2.trans hz.2⟩
            clear hnone hz hb3 hd HR HE HF HAd
            go_wp2
            go_ret2
            exact ⟨_, ret2i HFF.out.1.symm, by rw [HFF.out.2]; exact Row.nil (Nat.zero_le _), HB3.out⟩
          · have HAd3 : Hid (addR p q = addR r (q.drop (k + 1))) := by
              show _ = _
              rw [HAd.out, hd, addR, hr]
            have HMs3 : Hid (Ms (onlyY A w3) x3 r) := hms3
            have hlr := laidR_len hr
            clear hr hms3 hb3 hd
            go_wp2
            go_roundw
            case rel => exact ⟨k + 1, r, by omega, hlr, by go_num, HMs3.out, HAd3.out, HB3.out⟩
            case measure => simp [intOf]; omega
        · have hke : k = q.length := by omega
          subst hke
          have hsum : addR p q = some O := by rw [HAd.out, List.drop_of_length_le (Nat.le_refl _)]; rfl
          have hz : sumE p q = 0 ∧ sumL p q = O := by
            have := HR.out
            rw [hsum] at this
            split at this
            · cases this; exact ⟨by assumption, rfl⟩
            · cases this
          have HFF : Hid (addPE p q = 0 ∧ addPL p q = O) := ⟨HF.out.1.trans hz.1, HF.out.2.trans hz.2⟩
          clear hsum hz HR HE HF HAd hbl KW
          go_wp2
          go_ret2
          exact ⟨_, ret2i HFF.out.1.symm, by rw [HFF.out.2]; exact HMs.out, HB.out⟩
    · have HF := addP_second (p := p) hp0 hq0
      obtain ⟨E, hE⟩ : ∃ E, E = checkE q 9223372036854775807 := ⟨_, rfl⟩
      have HF2 : Hid (addPE p q = E ∧ addPL p q = []) := by show _ ∧ _; rw [hE]; exact ⟨HF.1, HF.2.1⟩
      rw [← hE] at hq0 ⊢
      clear hE HF
      go_wp2
      go_ret2
      exact ⟨_, ret2i HF2.out.1.symm, by rw [HF2.out.2]; exact Row.nil (Nat.zero_le _), HB2.out⟩
  · have HF := addP_first (q := q) hp0
    obtain ⟨E, hE⟩ : ∃ E, E = checkE p 9223372036854775807 := ⟨_, rfl⟩
    have HF2 : Hid (addPE p q = E ∧ addPL p q = []) := by show _ ∧ _; rw [hE]; exact ⟨HF.1, HF.2.1⟩
    rw [← hE] at hp0 ⊢
    clear hE HF
    go_wp2
    go_ret2
    exact ⟨_, ret2i HF2.out.1.symm, by rw [HF2.out.2]; exact Row.nil (Nat.zero_le _), HB1.out⟩

set_option maxRecDepth 100000 in
set_option maxHeartbeats 1600000 in
theorem refCoef_any (v u : Value) (p : List Mn) (es : List Int) (w : World) (h : Ms w v p) (h' : Is w u es) :
    Calls Tryz.prog 108 #[v, u] w fun e w' => ∃ v', e = .returned v' ∧ Sl w' v' (coefR p es) ∧ Below w.heap.size w w' := by
  obtain ⟨ao, cap, rfl, hao, hca, q0⟩ := Row.flat h
  unfold maxLen at hca
  have HP : Hid (Ms w (.slice ao p.length cap) p) := h
  have HE : Hid (Is w u es) := h'
  clear h h' q0
  go_enter Tryz.func108, Tryz.ntmps108
  go_wp2
  go_loopw [5] (fun i wr => ∃ k : Nat, k ≤ p.length ∧ i = .int .i64 k ∧ coefR p es = coefR (p.drop k) es ∧ wr = w) (fun i _ => p.length - (intOf i).toNat)
  case atStart => exact ⟨0, Nat.zero_le _, rfl, rfl, rfl⟩
  case round =>
    obtain ⟨k, hk, rfl, hco, rfl⟩ := hrel
    have HCo : Hid (coefR p es = coefR (p.drop k) es) := hco
    clear hco
    by_cases hlt : k < p.length
    · obtain ⟨g, off, c, fs, a1, c1, a2, c2, rfl, hm1, hc0, hc1, hmo, hn1, hn2, hn3, hn4⟩ := HP.out.at hlt
      have hd : p.drop k = (c, fs) :: p.drop (k + 1) := drop_getY hm1
      have HMo : Hid (Mo wr (.slice a1 c.length c1) (.slice a2 fs.length c2) (c, fs)) := hmo
      by_cases h0 : ordX fs es = 0
      · have HF : Hid (coefR p es = c) := by show _ = _; rw [HCo.out, hd, coefR, if_pos h0]
        clear hm1 hmo hd
        go_wp2_with fail
        refine (refOrder_any _ _ fs es _ HMo.out.2 HE.out).mono ?_
        rintro e w1 ⟨rfl, rfl⟩
        rw [h0]
        go_wp2
        go_ret
        exact ⟨_, rfl, by rw [HF.out]; exact HMo.out.1, Below.refl _ _⟩
      · have HF : Hid (coefR p es = coefR (p.drop (k + 1)) es) := by show _ = _; rw [HCo.out, hd, coefR, if_neg h0]
        clear hm1 hmo hd
        go_wp2_with fail
        refine (refOrder_any _ _ fs es _ HMo.out.2 HE.out).mono ?_
        rintro e w1 ⟨rfl, rfl⟩
        go_wp2
        go_roundw
        case rel => exact ⟨k + 1, by omega, by go_num, HF.out, trivial⟩
        case measure => simp [intOf]; omega
    · have HF : Hid (coefR p es = []) := by show _ = _; rw [HCo.out, List.drop_of_length_le (by omega)]; rfl
      go_wp2
      go_ret
      refine ⟨_, rfl, ?_, below_alloc _⟩
      rw [HF.out]
      exact ⟨fun x hx => (by cases hx), _, _, rfl, Nat.le_refl _, Nat.zero_le _, fun h0 => absurd h0 (by simp)⟩

set_option maxRecDepth 100000 in
set_option maxHeartbeats 1600000 in
theorem refAtLeast_any (v u : Value) (p q : List Mn) (w : World) (h : Ms w v p) (h' : Ms w u q) (hl : ∀ m ∈ p, m.2.length ≤ 4611686018427387904) (hl' : ∀ m ∈ q, m.2.length ≤ 4611686018427387904) :
    Calls Tryz.prog 54 #[v, u] w fun e w' => e = .returned (.bool (atLeastR p q)) ∧ Below w.heap.size w w' := by
  obtain ⟨bo, cap', rfl, hbo, hcb, q0'⟩ := Row.flat h'
  unfold maxLen at hcb
  have HP : Hid (Ms w v p) := h
  have HQ : Hid (Ms w (.slice bo q.length cap') q) := h'
  have HLp : Hid (checkR p 4611686018427387904 = checkE p 9223372036854775807) := by show _ = _; rw [checkR_eq, check_long hl]
  have HLq : Hid (checkR q 4611686018427387904 = checkE q 9223372036854775807) := by show _ = _; rw [checkR_eq, check_long hl']
  clear h h' q0' hl hl'
  go_enter Tryz.func54, Tryz.ntmps54
  go_wp2_with fail
  refine (refCheck_anyY _ p 4611686018427387904 _ HP.out (by omega) (by omega)).mono ?_
  rw [HLp.out]
  rintro e w1 ⟨rfl, hb1⟩
  have HB1 : Hid (Below w.heap.size w w1) := hb1
  clear hb1
  by_cases hp0 : checkE p 9223372036854775807 = 0
  · rw [hp0]
    go_wp2_with fail
    refine (refCheck_anyY _ q 4611686018427387904 _ (HQ.out.kp (Kp.of_below HB1.out)) (by omega) (by omega)).mono ?_
    rw [HLq.out]
    rintro e w2 ⟨rfl, hb2⟩
    have HB2 : Hid (Below w.heap.size w w2) := below_step HB1.out hb2
    clear hb2 HB1
    by_cases hq0 : checkE q 9223372036854775807 = 0
    · rw [hq0]
      have HF : Hid (atLeastR p q = atR p q) := by show _ = _; unfold atLeastR; rw [if_pos ⟨hp0, hq0⟩]
      clear hp0 hq0 HLp HLq
      go_wp2
      go_loopw [5] (fun i wr => ∃ k : Nat, k ≤ q.length ∧ i = .int .i64 k ∧ atR p q = atR p (q.drop k) ∧ Below w.heap.size w wr) (fun i _ => q.length - (intOf i).toNat)
      case atStart => exact ⟨0, Nat.zero_le _, rfl, rfl, HB2.out⟩
      case round =>
        obtain ⟨k, hk, rfl, hat, hbl⟩ := hrel
        have HAt : Hid (atR p q = atR p (q.drop k)) := hat
        have HB : Hid (Below w.heap.size w wr) := hbl
        clear hat
        by_cases hlt : k < q.length
        · obtain ⟨g, off, c, es, a1, c1, a2, c2, rfl, hm1, hc0, hc1, hmo, hn1, hn2, hn3, hn4⟩ := (HQ.out.kp (Kp.of_below hbl)).at hlt
          have HX : Hid (q[k]? = some (c, es)) := hm1
          have HMo : Hid (Mo wr (.slice a1 c.length c1) (.slice a2 es.length c2) (c, es)) := hmo
          clear hm1 hmo hbl
          have hd : q.drop k = (c, es) :: q.drop (k + 1) := drop_getY HX.out
          have hat : atR p (q.drop k) = ((!decide (cmpV (coefR p es) c < 0)) && atR p (q.drop (k + 1))) := by rw [hd]; rfl
          have HAt2 : Hid (atR p q = ((!decide (cmpV (coefR p es) c < 0)) && atR p (q.drop (k + 1)))) := HAt.out.trans hat
          clear hd hat HAt HX
          go_wp2_with fail
          have hS : Below wr.heap.size wr wr.drew := (Below.refl _ _).drew
          refine wp_region_held_drew (S := fun w' => Below wr.heap.size wr w') (by kernel_rfl) hS (fun _ => ?_)
          obtain ⟨W0, hW0⟩ : ∃ X, X = wr.drew := ⟨_, rfl⟩
          rw [← hW0] at hS ⊢
          clear hW0
          refine wpAnyH_take (i := 0) (v := v) rfl (by kernel_rfl) (by kernel_rfl) (by kernel_rfl) (fun _ _ _ h => h) (Or.inl ⟨by rfl, fun w' _ => by go_simp⟩) hS ?_
          simp only [Act.put, List.setIfInBounds_toArray]
          refine wpAnyH_take (i := 1) (v := .slice (some ⟨g, off, none⟩) q.length cap') rfl (by kernel_rfl) (by kernel_rfl) (by kernel_rfl) (fun _ _ _ h => h) (Or.inl ⟨by rfl, fun w' _ => by go_simp⟩) hS ?_
          simp only [Act.put]
          refine wpAnyH_take (i := 2) (v := .int .i64 (k : Int)) rfl (by kernel_rfl) (by kernel_rfl) (by kernel_rfl) (fun _ _ _ h => h) (Or.inl ⟨by rfl, fun w' _ => by go_simp⟩) hS ?_
          simp only [Act.put]
          refine wpAnyH_take (i := 3) (v := .pointer (some ⟨g, off + k * 2, none⟩)) rfl (by kernel_rfl) (by kernel_rfl) (by kernel_rfl) (fun _ _ _ h => h) (Or.inl ⟨by rfl, fun w' _ => by go_simp⟩) hS ?_
          simp only [Act.put]
          refine wpAnyH_take (i := 4) (v := .pointer (some ⟨g, off + k * 2 + 1, none⟩)) rfl (by kernel_rfl) (by kernel_rfl) (by kernel_rfl) (fun _ _ _ h => h) (Or.inl ⟨by rfl, fun w' _ => by go_simp⟩) hS ?_
          simp only [Act.put]
          refine wpAnyH_take (i := 5) (v := .slice a2 es.length c2) rfl (by kernel_rfl) (by kernel_rfl) (by kernel_rfl) (fun _ _ _ h => h) (Or.inl ⟨by rfl, fun w' h => by have hh := (Kp.of_below h).cell _ _ hc1; go_simp⟩) hS ?_
          simp only [Act.put]
          refine wpAnyH_take (i := 7) (v := .slice (some ⟨g, off, none⟩) q.length cap') rfl (by kernel_rfl) (by kernel_rfl) (by kernel_rfl) (fun _ _ _ h => h) (Or.inl ⟨by rfl, fun w' _ => by go_simp⟩) hS ?_
          simp only [Act.put]
          refine wpAnyH_take (i := 8) (v := .int .i64 (k : Int)) rfl (by kernel_rfl) (by kernel_rfl) (by kernel_rfl) (fun _ _ _ h => h) (Or.inl ⟨by rfl, fun w' _ => by go_simp⟩) hS ?_
          simp only [Act.put]
          refine wpAnyH_take (i := 9) (v := .pointer (some ⟨g, off + k * 2, none⟩)) rfl (by kernel_rfl) (by kernel_rfl) (by kernel_rfl) (fun _ _ _ h => h) (Or.inl ⟨by rfl, fun w' _ => by go_simp⟩) hS ?_
          simp only [Act.put]
          refine wpAnyH_take (i := 10) (v := .pointer (some ⟨g, off + k * 2, none⟩)) rfl (by kernel_rfl) (by kernel_rfl) (by kernel_rfl) (fun _ _ _ h => h) (Or.inl ⟨by rfl, fun w' _ => by go_simp⟩) hS ?_
          simp only [Act.put]
          refine wpAnyH_take (i := 11) (v := .slice a1 c.length c1) rfl (by kernel_rfl) (by kernel_rfl) (by kernel_rfl) (fun _ _ _ h => h) (Or.inl ⟨by rfl, fun w' h => by have hh := (Kp.of_below h).cell _ _ hc0; go_simp⟩) hS ?_
          simp only [Act.put]
          refine wpAnyH_ready (rs := [6]) (by kernel_rfl) (by simp) (AllReadyH.cons rfl (fun K hK => ?_) AllReadyH.nil)
          go_simp
          refine (refCoef_any _ _ p es _ (HP.out.kp ((Kp.of_below HB.out).trans (Kp.of_below hS))) (HMo.out.2.kp (Kp.of_below hS))).mono ?_
          rintro e W1 ⟨vs, rfl, hvs, hbs⟩
          refine hK.out _ _ (below_step hS hbs) (fun hS1 => ?_)
          clear hK K hbs hS
          have hS := hS1
          clear hS1
          refine wpAnyH_ready (rs := [12]) (by kernel_rfl) (by simp) (AllReadyH.cons rfl (fun K hK => ?_) AllReadyH.nil)
          go_simp
          refine (refCmp_any _ _ (coefR p es) c _ hvs (HMo.out.1.kp (Kp.of_below hS))).mono ?_
          rintro e W2 ⟨rfl, nd, hnd⟩
          have hbs : Below W1.heap.size W1 W2 := by rw [hnd]; exact below_drewN (Below.refl _ _) _
          refine hK.out _ _ (below_step hS hbs) (fun hS1 => ?_)
          clear hK K hbs hnd hS hvs
          have hS := hS1
          clear hS1
          refine wpAnyH_take (i := 13) (v := .tuple #[.int .i64 (cmpV (coefR p es) c), .int .i64 (cmpE (coefR p es) c)]) rfl (by kernel_rfl) (by kernel_rfl) (by kernel_rfl) (fun _ _ _ h => h) (Or.inl ⟨by rfl, fun w' _ => by go_simp⟩) hS ?_
          simp only [Act.put, List.setIfInBounds_toArray]
          refine wpAnyH_take (i := 14) (v := .int .i64 (cmpV (coefR p es) c)) rfl (by kernel_rfl) (by kernel_rfl) (by kernel_rfl) (fun _ _ _ h => h) (Or.inl ⟨by rfl, fun w' _ => by go_simp⟩) hS ?_
          simp only [Act.put]
          refine wpAnyH_take (i := 15) (v := .int .i64 (cmpE (coefR p es) c)) rfl (by kernel_rfl) (by kernel_rfl) (by kernel_rfl) (fun _ _ _ h => h) (Or.inl ⟨by rfl, fun w' _ => by go_simp⟩) hS ?_
          simp only [Act.put]
          refine wpAnyH_take (i := 16) (v := .int .i64 (cmpV (coefR p es) c)) rfl (by kernel_rfl) (by kernel_rfl) (by kernel_rfl) (fun _ _ _ h => h) (Or.inl ⟨by rfl, fun w' _ => by go_simp⟩) hS ?_
          simp only [Act.put]
          refine wpAnyH_take (i := 17) (v := .int .i64 (cmpE (coefR p es) c)) rfl (by kernel_rfl) (by kernel_rfl) (by kernel_rfl) (fun _ _ _ h => h) (Or.inl ⟨by rfl, fun w' _ => by go_simp⟩) hS ?_
          simp only [Act.put]
          refine wpAnyH_done (by kernel_rfl) ?_ _
          have HB3 : Hid (Below w.heap.size w W2) := below_step HB.out hS
          clear hS
          by_cases hneg : cmpV (coefR p es) c < 0
          · have HFF : Hid (atLeastR p q = false) := by show _ = _; rw [HF.out, HAt2.out, decide_eq_true hneg]; rfl
            go_wp2
            go_ret
            exact ⟨by rw [HFF.out]; rfl, HB3.out⟩
          · have HFF : Hid (atR p q = atR p (q.drop (k + 1))) := by show _ = _; rw [HAt2.out, decide_eq_false hneg]; rfl
            go_wp2
            go_roundw
            case rel => exact ⟨k + 1, by omega, by go_num, HFF.out, HB3.out⟩
            case measure => simp [intOf]; omega
        · have HFF : Hid (atLeastR p q = true) := by show _ = _; rw [HF.out, HAt.out, List.drop_of_length_le (by omega)]; rfl
          clear hbl
          go_wp2
          go_ret
          exact ⟨by rw [HFF.out]; rfl, HB.out⟩
    · have HF : Hid (atLeastR p q = false) := by show _ = _; unfold atLeastR; rw [if_neg (fun h => hq0 h.2)]
      obtain ⟨E, hE⟩ : ∃ E, E = checkE q 9223372036854775807 := ⟨_, rfl⟩
      rw [← hE] at hq0 ⊢
      clear hE
      go_wp2
      go_ret
      exact ⟨by rw [HF.out]; rfl, HB2.out⟩
  · have HF : Hid (atLeastR p q = false) := by show _ = _; unfold atLeastR; rw [if_neg (fun h => hp0 h.1)]
    obtain ⟨E, hE⟩ : ∃ E, E = checkE p 9223372036854775807 := ⟨_, rfl⟩
    rw [← hE] at hp0 ⊢
    clear hE
    go_wp2
    go_ret
    exact ⟨by rw [HF.out]; rfl, HB1.out⟩

set_option maxRecDepth 100000 in
set_option maxHeartbeats 1600000 in
theorem refGreater_any (v u : Value) (p q : List Mn) (w : World) (h : Ms w v p) (h' : Ms w u q) (hl : ∀ m ∈ p, m.2.length ≤ 4611686018427387904) (hl' : ∀ m ∈ q, m.2.length ≤ 4611686018427387904) :
    Calls Tryz.prog 53 #[v, u] w fun e w' => e = .returned (.bool (greaterR p q)) ∧ Below w.heap.size w w' := by
  have HP : Hid (Ms w v p) := h
  have HQ : Hid (Ms w u q) := h'
  have HLp : Hid (∀ m ∈ p, m.2.length ≤ 4611686018427387904) := hl
  have HLq : Hid (∀ m ∈ q, m.2.length ≤ 4611686018427387904) := hl'
  clear h h' hl hl'
  go_enter Tryz.func53, Tryz.ntmps53
  go_wp2_with fail
  refine (refCoef_any _ _ p [] _ (HP.out.kp (Kp.of_below (below_alloc _))) (Row.nil (Nat.zero_le _))).mono ?_
  rintro e w1 ⟨va, rfl, hva, hb1⟩
  have HB1 : Hid (Below w.heap.size w w1) := below_step (below_alloc _) hb1
  have HVa : Hid (Sl w1 va (coefR p [])) := hva
  clear hva hb1
  go_wp2_with fail
  refine (refCoef_any _ _ q [] _ (HQ.out.kp (Kp.of_below (below_step HB1.out (below_alloc _)))) (Row.nil (Nat.zero_le _))).mono ?_
  rintro e w2 ⟨vb, rfl, hvb, hb2⟩
  have HB2 : Hid (Below w.heap.size w w2) := below_step (below_step HB1.out (below_alloc _)) hb2
  have HVb : Hid (Sl w2 vb (coefR q [])) := hvb
  have HVa2 : Hid (Sl w2 va (coefR p [])) := HVa.out.kp (Kp.of_below (below_step (below_alloc _) hb2))
  clear hvb hb2 HVa HB1
  go_wp2_with fail
  refine (refCmp_any _ _ (coefR p []) (coefR q []) _ HVa2.out HVb.out).mono ?_
  rintro e w3 ⟨rfl, nd, hnd⟩
  have HB3 : Hid (Below w.heap.size w w3) := below_step HB2.out (by rw [hnd]; exact below_drewN (Below.refl _ _) _)
  clear hnd HVa2 HVb HB2
  go_wp2_with fail
  refine (refAtLeast_any _ _ p q _ (HP.out.kp (Kp.of_below HB3.out)) (HQ.out.kp (Kp.of_below HB3.out)) HLp.out HLq.out).mono ?_
  rintro e w4 ⟨rfl, hb4⟩
  have HB4 : Hid (Below w.heap.size w w4) := below_step HB3.out hb4
  clear hb4
  obtain ⟨C, hC⟩ : ∃ C, C = cmpV (coefR p []) (coefR q []) := ⟨_, rfl⟩
  rw [← hC]
  cases hat : atLeastR p q
  · have HF : Hid (greaterR p q = false) := by show _ = _; unfold greaterR; rw [hat]; rfl
    clear hat hC
    go_wp2
    go_ret
    exact ⟨by rw [HF.out]; rfl, HB4.out⟩
  · have HF : Hid (greaterR p q = decide (0 < C)) := by show _ = _; unfold greaterR; rw [hat, hC]; rfl
    clear hat hC
    go_wp2
    go_ret
    exact ⟨by rw [HF.out]; rfl, HB4.out⟩

end Go.Proofs.YtdjmjhlbjcgoiaaGreatDoor
