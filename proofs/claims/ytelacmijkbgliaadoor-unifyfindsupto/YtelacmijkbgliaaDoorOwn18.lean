/- UnifyFinds. -/
import Derived.Test.YtelacmijkbgliaaDoorOwn17
import Derived.Test.YtelacmijkbgliaaDoorOwn16
import Derived.Test.YtelacmijkbgliaaDoorOwn3
namespace Go.Proofs.YtelacmijkbgliaaDoor
open Go.RowKit Go.Maps Go.BigFrame

theorem ownB_spl {w w' : World} {b T : Nat} {e : TypeId} {s n : Nat} {v : Value} {xs : List Value} (h : w.ownsRow T e s v n xs) (hs : Spl b T w w') : w'.ownsRow T e s v n xs := by
  refine ⟨h.1, ?_⟩
  rcases h.2 with h | ⟨g, cap, cur, rfl, hb, hgg, r⟩
  · exact .inl h
  · exact .inr ⟨g, cap, cur, rfl, hb, (hs.block g (Array.getElem?_eq_some_iff.1 hgg).1 (.inr hb)).trans hgg, r⟩

theorem OBW.spl {w w' : World} {b T : Nat} {v : Value} {s : List Bd} (h : OBW T w v s) (hs : Spl b T w w') : OBW T w' v s := by
  obtain ⟨us, hl, hc, ho⟩ := h
  exact ⟨us, hl, fun i u c h1 h2 => ⟨⟨(hc i u c h1 h2).1.1, ownB_spl (hc i u c h1 h2).1.2 hs⟩, (hc i u c h1 h2).2⟩, ownB_spl ho hs⟩

theorem belowB_spl {w w6 w' : World} {T : Nat} (h : Below w.heap.size w w6) (hs : Spl w.heap.size T w6 w') : Below w.heap.size w w' :=
  ⟨hs.os.trans h.os, hs.tape.trans h.tape, hs.output.trans h.output, Nat.le_trans h.size hs.size, fun k hk => (hs.block k (Nat.lt_of_lt_of_le hk h.size) (.inl hk)).trans (h.block k hk)⟩

/-- What the spoiling reads of binds of one's own. -/
theorem OBW.open {base : Nat} {w w' : World} {v : Value} {s : List Bd} (h : OBW base w v s) (hb : Below w.heap.size w w') : ∃ (us : List Value) (xo : Option Addr) (xc : Nat), v = .slice xo s.length xc ∧ s.length ≤ xc ∧ xc ≤ 9223372036854775807 ∧ us.length = s.length ∧
    (∀ (j : Nat) (u : Value) (b : Bd), us[j]? = some u → s[j]? = some b → RowS w' base w.heap.size 3 u b.2.length ∧ b.2.length * 8 ≤ 140737488351232) ∧
    (0 < s.length → ∃ ga, xo = some ⟨ga, 0, none⟩ ∧ Shp w' ga 31 (xc * 2) ∧ base ≤ ga ∧ ga < w.heap.size ∧ ∀ (j : Nat) (u : Value), us[j]? = some u → w'.cell? ⟨ga, j * 2 + 1, none⟩ = some u) := by
  obtain ⟨us, hl, hc, ho⟩ := h
  have hrow : ∀ (j : Nat) (u : Value) (b : Bd), us[j]? = some u → s[j]? = some b → RowS w' base w.heap.size 3 u b.2.length ∧ b.2.length * 8 ≤ 140737488351232 := fun j u b hj hx => ⟨RowS.of (hc j u b hj hx).1.2 hb, (hc j u b hj hx).2.2.2⟩
  have ho2 := ho
  have ho3 := ownsRow_later ho hb
  rcases ho2.2 with ⟨hv, hn⟩ | ⟨g, cap, cur, hv, hbg, hg, hcap, hm, hs, ht⟩
  · refine ⟨us, none, 0, by rw [hv, hn], by omega, by omega, hl, hrow, fun h0 => by omega⟩
  · have hlt := (Array.getElem?_eq_some_iff.1 hg).1
    refine ⟨us, _, cap, hv, hcap, by unfold maxLen at hm; omega, hl, hrow, fun _ => ⟨g, rfl, ⟨cur, by rw [hb.block g hlt]; exact hg, by omega⟩, hbg, hlt, fun j u hj => ?_⟩⟩
    rw [hv] at ho3
    have hjl : j < s.length := by have := (List.getElem?_eq_some_iff.1 hj).1; omega
    rw [World.ownsRow.cellAt ho3 (j * 2 + 1) (by omega)]
    exact (flatB_get (List.getElem?_eq_getElem hjl) hj).2

set_option maxRecDepth 100000 in
set_option maxHeartbeats 1600000 in
theorem refUnify6_any (sv v1 v2 : Value) (sig : List Sy) (a b : List Int) (w : World) (hs : Sg w sv sig) (h1 : Is w v1 a) (h2 : Is w v2 b) (hl : a.length + b.length ≤ 1048576) :
    Calls Tryd.prog 11 #[sv, v1, v2] w (UniO sig a b w) := by
  have HC := hid (refRight6_any sv v1 v2 sig a b w hs h1 h2 (by omega) (by omega))
  have HS := hid hs
  have H1 := hid h1
  have H2 := hid h2
  clear hs h1 h2
  go_enter Tryd.func11, Tryd.ntmps11
  go_wp2_with fail
  refine HC.out.mono ?_
  rintro e w1 ⟨rfl, hb1⟩
  have HB1 := hid hb1
  clear hb1
  by_cases h0 : twoE sig a b = 0
  · have hk := Kp.of_below HB1.out
    have HIn := hid (refInner6_any sv v1 v2 sig a b w1 (HS.out.kp hk) (H1.out.kp hk) (H2.out.kp hk) h0 hl)
    rw [h0]
    clear hk h0
    go_wp2_with fail
    refine HIn.out.mono ?_
    rintro e w2 ⟨v, rfl, ho, hb2⟩
    have HO := hid ho
    have HB2 := hid (below_step HB1.out hb2)
    clear ho hb2
    go_wp2
    go_ret2
    exact ⟨v, rfl, HO.out.mono HB1.out.size, HB2.out⟩
  · have HE := hid (uniE_two h0)
    have h0b : (twoE sig a b == 0) = false := by simpa using h0
    clear h0
    go_wp2
    go_ret2
    exact uniO_err HE.out.1 HE.out.2 HB1.out

set_option maxRecDepth 100000 in
set_option maxHeartbeats 3200000 in
theorem unifyFinds_any (sv pv tv : Value) (sig : List Sy) (p t : List Int) (w : World) (hs : Sg w sv sig) (hp : Is w pv p) (ht : Is w tv t) (hT : Tabs w) (hl : p.length + t.length ≤ 1048576) :
    Calls Tryd.prog 3 #[sv, pv, tv] w fun e w' => e = .returned (.bool true) ∧ Below w.heap.size w w' := by
  have hsl : sig.length ≤ 9223372036854775807 := by
    obtain ⟨_, _, _, h8, h9, _⟩ := Row.flat hs
    unfold maxLen at h9
    omega
  obtain ⟨i1, hi1, hy0, hy1, hy2⟩ := info_parts info_int
  obtain ⟨ap, cp, hpv, _⟩ := hp.flatI
  subst hpv
  obtain ⟨at', ct, htv, _⟩ := ht.flatI
  subst htv
  have HS := hid hs
  have HP := hid hp
  have HI := hid ht
  have HT := hid hT
  clear hs hp ht hT
  go_enter Tryd.func3, Tryd.ntmps3
  go_wp2_with fail
  refine (shown6_any w HT.out).mono ?_
  rintro e w1 ⟨rfl, hb1⟩
  have C1 := hid hb1
  clear hb1
  have hS0 := below_alloc (w := w1) (.cells #[] 3)
  obtain ⟨v2, w2, hr2, ho2, hg2⟩ := copy_ints 23 (w := w1.alloc (.cells #[] 3)) (base := w1.heap.size) (g := w1.heap.size) (empty_row (w := w1) 3 (Nat.le_refl _)) (HP.out.kp (Kp.of_below (below_step C1.out hS0))) hS0.size (by omega)
  have hk2 : Below w1.heap.size w1 w2 := hS0.grown hg2 hS0.size (fun j hj => by cases hj; exact Nat.le_refl _)
  have C2 := hid (below_step C1.out hk2)
  have hT0 := below_alloc (w := w2) (.cells #[] 3)
  obtain ⟨v3, w3, hr3, ho3, hg3⟩ := copy_ints 23 (w := w2.alloc (.cells #[] 3)) (base := w2.heap.size) (g := w2.heap.size) (empty_row (w := w2) 3 (Nat.le_refl _)) (HI.out.kp (Kp.of_below (below_step C2.out hT0))) hT0.size (by omega)
  have hk3 : Below w2.heap.size w2 w3 := hT0.grown hg3 hT0.size (fun j hj => by cases hj; exact Nat.le_refl _)
  have C3 := hid (below_step C2.out hk3)
  have HP2 := hid (ho2.is.kp (Kp.of_below hk3))
  have HT2 := hid ho3.is
  have HR2 := hid hr2
  have HR3 := hid hr3
  clear hS0 hT0 hr2 ho2 hg2 hk2 hr3 ho3 hg3 hk3
  go_wp2_with (first
    | (at_builtin; refine wpList_append_run rfl _ _ _ rfl _ _ rfl rfl HR2.out ?_)
    | (at_builtin; refine wpList_append_run rfl _ _ _ rfl _ _ rfl rfl HR3.out ?_))
  clear HR2 HR3
  refine (unify_any sv v2 v3 sig p t w3 (HS.out.kp (Kp.of_below C3.out)) HP2.out HT2.out (HT.out.below C3.out) (by omega) hsl).mono ?_
  rintro e w4 ⟨av, rfl, hob, hb4⟩
  have C4 := hid (below_step C3.out hb4)
  have D4 := hid hb4
  have HOa := hid hob
  clear hb4 hob
  go_wp2_with fail
  refine (refUnify6_any sv _ _ sig p t w4 (HS.out.kp (Kp.of_below C4.out)) (HP.out.kp (Kp.of_below C4.out)) (HI.out.kp (Kp.of_below C4.out)) hl).mono ?_
  rintro e w5 ⟨bv, rfl, hob2, hb5⟩
  have C5 := hid (below_step C4.out hb5)
  have D5 := hid (below_step D4.out hb5)
  have K5 := hid hb5
  have HOb := hid hob2
  obtain ⟨BL, hBL⟩ : ∃ BL, BL = uniL sig p t := ⟨_, rfl⟩
  rw [← hBL] at HOa HOb
  have HBL := hid hBL
  obtain ⟨E, hE⟩ : ∃ E, E = uniE sig p t := ⟨_, rfl⟩
  rw [← hE]
  have HE := hid hE
  have hEE : (E == E) = true := by simp
  clear hb5 hob2 hBL hE
  go_wp2_with fail
  refine (same6_any _ _ BL w5 (HOa.out.later K5.out).bs HOb.out.bs).mono ?_
  rintro e w6 ⟨rfl, hb6⟩
  have C6 := hid (below_step C5.out hb6)
  have D6 := hid (below_step D5.out hb6)
  have K6 := hid (below_step K5.out hb6)
  have HOb6 := hid (HOb.out.later hb6)
  clear hb6 K5 D5 HOb
  obtain ⟨us, xo, xc, hav, hxc1, hxc2, husl, hrow, hform⟩ := HOa.out.open K6.out
  subst hav
  have HRow := hid hrow
  have HForm := hid hform
  have HUl := hid husl
  clear hrow hform husl HOa
  go_wp2
  go_loopw [14] (fun iv wr => ∃ i : Nat, i ≤ BL.length ∧ iv = .int .i64 i ∧ Spl w3.heap.size w4.heap.size w6 wr ∧ ∀ (j : Nat) (u : Value) (ga : Nat), i ≤ j → xo = some ⟨ga, 0, none⟩ → us[j]? = some u → wr.cell? ⟨ga, j * 2 + 1, none⟩ = some u) (fun iv _ => BL.length - (intOf iv).toNat)
  case atStart =>
    refine ⟨0, Nat.zero_le _, rfl, Spl.refl _ _ _, fun j u ga _ e hu => ?_⟩
    have hjl := (List.getElem?_eq_some_iff.1 hu).1
    obtain ⟨ga', e', _, _, _, hc⟩ := HForm.out (by rw [← HUl.out]; omega)
    rw [e] at e'
    cases e'
    exact hc j u hu
  case round =>
    obtain ⟨i, hi, rfl, hsp, hcs2⟩ := hrel
    have HSp := hid hsp
    have HCs := hid hcs2
    clear hsp hcs2
    by_cases hil : i < BL.length
    · obtain ⟨ga, rfl, hsA, hga1, hga2, _⟩ := HForm.out (by omega)
      have HSA := hid hsA
      obtain ⟨u, hu⟩ : ∃ u, us[i]? = some u := ⟨_, List.getElem?_eq_getElem (by rw [HUl.out]; exact hil)⟩
      obtain ⟨x, hx⟩ : ∃ x, BL[i]? = some x := ⟨_, List.getElem?_eq_getElem hil⟩
      obtain ⟨hrow, hxl⟩ := HRow.out i u x hu hx
      obtain ⟨ro, rcp, rfl, hrc1, hrc2⟩ := hrow.form
      unfold maxLen at hrc2
      have y1 := HCs.out i _ ga (Nat.le_refl _) rfl hu
      have HRw := hid hrow
      clear hrow hu hx hsA
      generalize x.2.length = n1 at hxl hrc1 HRw y1
      obtain ⟨wo, hwo⟩ : ∃ X, X = wr := ⟨wr, rfl⟩
      rw [← hwo] at HSp HCs y1 ⊢
      clear hwo
      go_wp2_with fail
      go_loopw [15] (fun kv wx => ∃ k : Nat, k ≤ n1 ∧ kv = .int .i64 k ∧ Spl w3.heap.size w4.heap.size w6 wx ∧ wx.heap[ga]? = wo.heap[ga]?) (fun kv _ => n1 - (intOf kv).toNat)
      case atStart => exact ⟨0, Nat.zero_le _, rfl, HSp.out, rfl⟩
      case round =>
        obtain ⟨k, hk, rfl, hspx, hgx⟩ := hrel
        have HSx := hid hspx
        have HGx := hid hgx
        have z1 : wr.cell? ⟨ga, i * 2 + 1, none⟩ = some (.slice ro n1 rcp) := by rw [World.cell?_of_block hgx]; exact y1
        by_cases hkn : k < n1
        · obtain ⟨g1, rfl, hg1, hg2, hsh⟩ := (HRw.out.spl hspx).at hkn
          obtain ⟨⟨u1, hu1⟩, hf1⟩ := hsh.cell (Nat.lt_of_lt_of_le hkn hrc1)
          have hne : ga ≠ g1 := (hspx.shape _ _ _ HSA.out).ne hsh (by decide)
          clear hspx hgx hsh
          go_wp2
          go_roundw
          case rel => exact ⟨k + 1, by omega, by go_num, HSx.out.setCell (.inl ⟨hg1, hg2⟩) _ _, by rw [heap_setCell_other _ _ _ _ hne]; exact HGx.out⟩
          case measure => simp [intOf]; omega
        · have hke : k = n1 := by omega
          clear hspx hgx
          obtain ⟨g4, cap4, w4', hr4, hsh4, hc4, hm4, hg4, hsp4, hk4⟩ := append_spl 23 23 3 i1 _ 8 under_ints hi1 hy0 hy1 hy2 rfl (HRw.out.spl (HSx.out.trans (Spl.below (below_alloc (.cells #[.int .i64 98] 3))))) (ad := ⟨wr.heap.size, 0, none⟩) (c := 1) (cell_new rfl) rfl (by omega) (by unfold maxLen; omega)
          obtain ⟨hs4, hgp4⟩ := after_append HSx.out HGx.out hsp4 hk4 HSA.out (by decide)
          unfold maxLen at hm4
          have HR4 := hid hr4
          have HS4 := hid hs4
          have HG4 := hid hgp4
          obtain ⟨⟨q1, hq1⟩, hq2⟩ := (hs4.shape _ _ _ HSA.out).cell (k := i * 2) (by omega)
          obtain ⟨⟨q3, hq3⟩, hq4⟩ := (hs4.shape _ _ _ HSA.out).cell (k := i * 2 + 1) (by omega)
          have z2 := cell_old (o := .cells #[.int .i64 98] 3) z1
          have hgw : ga < wr.heap.size := World.block_lt_of_cell? _ _ z1
          clear hr4 hs4 hgp4 hsp4 hk4 hsh4 hg4
          go_wp2_with (first
            | (at_builtin; refine wpList_append_run rfl _ _ _ rfl _ _ rfl rfl HR4.out ?_))
          go_roundw
          case rel =>
            refine ⟨i + 1, by omega, by go_num, (HS4.out.setCell (.inl ⟨hga1, hga2⟩) _ _).setCell (.inl ⟨hga1, hga2⟩) _ _, fun j u2 gb hj e hu2 => ?_⟩
            cases e
            rw [World.cell?_setCell_other _ _ _ _ (by simp <;> omega), World.cell?_setCell_other _ _ _ _ (by simp <;> omega), World.cell?_of_block HG4.out]
            exact HCs.out j u2 ga (by omega) rfl hu2
          case measure => simp [intOf]; omega
    · have DW := hid (belowB_spl D6.out HSp.out)
      have HOb2 := hid (HOb6.out.spl HSp.out)
      have CW := hid (below_step C3.out DW.out)
      clear HCs
      go_wp2_with fail
      refine (unify_any sv v2 v3 sig p t wr (HS.out.kp (Kp.of_below CW.out)) (HP2.out.kp (Kp.of_below DW.out)) (HT2.out.kp (Kp.of_below DW.out)) (HT.out.below CW.out) (by omega) hsl).mono ?_
      rintro e w9 ⟨cv, rfl, ho9, hb9⟩
      rw [← HBL.out] at ho9
      rw [← HE.out]
      have C9 := hid (below_step CW.out hb9)
      have D9 := hid (below_step DW.out hb9)
      have HO9 := hid ho9
      have HOb9 := hid (HOb2.out.later hb9)
      clear hb9 ho9
      go_wp2_with fail
      refine (same6_any _ _ BL w9 HO9.out.bs HOb9.out.bs).mono ?_
      rintro e w10 ⟨rfl, hb10⟩
      have C10 := hid (below_step C9.out hb10)
      have D10 := hid (below_step D9.out hb10)
      clear hb10
      go_wp2_with fail
      refine (sameRow6_any _ _ p p w10 (HP2.out.kp (Kp.of_below D10.out)) (HP.out.kp (Kp.of_below C10.out))).mono ?_
      rintro e w7 ⟨rfl, n7, hw7⟩
      have C7 := hid (below_step C10.out (drawn_below hw7))
      have D7 := hid (below_step D10.out (drawn_below hw7))
      clear hw7
      rw [decide_eq_true rfl]
      go_wp2_with fail
      refine (sameRow6_any _ _ t t w7 (HT2.out.kp (Kp.of_below D7.out)) (HI.out.kp (Kp.of_below C7.out))).mono ?_
      rintro e w8 ⟨rfl, n8, hw8⟩
      have C8 := hid (below_step C7.out (drawn_below hw8))
      clear hw8
      rw [decide_eq_true rfl]
      go_wp2
      go_ret
      exact ⟨rfl, C8.out⟩

end Go.Proofs.YtelacmijkbgliaaDoor
