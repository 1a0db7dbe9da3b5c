/- Texts of the proof, one behind the other. -/
import Derived.Test.YtoapgbaibpkckaaGreatDoorOwn20
import Derived.Test.YtoapgbaibpkckaaGreatDoorOwn21
/- The examples of layer 13 come out true. -/
namespace Go.Proofs.YtoapgbaibpkckaaGreatDoor
open Go.RowKit Go.Maps Go.BigFrame

set_option maxHeartbeats 400000 in
theorem sameRow13_any (v u : Value) (xs ys : List Int) (w : World) (h : Is w v xs) (h' : Is w u ys) :
    Calls Tryz.prog 19 #[v, u] w fun e w' => e = .returned (.bool (decide (xs = ys))) ∧ ∃ n, w' = w.drewN n := by
  obtain ⟨ao, cap, rfl, hao, hca, hcl⟩ := h.flatI
  obtain ⟨bo, cap', rfl, hbo, hcb, hcl'⟩ := h'.flatI
  clear h h'
  by_cases hl : xs.length = ys.length
  · have hle : ((xs.length : Int) != ys.length) = false := by simp; omega
    go_enter Tryz.func19, Tryz.ntmps19
    go_wp2
    go_loopw [5] (fun i wr => ∃ k : Nat, k ≤ xs.length ∧ i = .int .i64 k ∧ xs.take k = ys.take k ∧ ∃ n, wr = w.drewN n) (fun i _ => xs.length - (intOf i).toNat)
    case atStart => exact ⟨0, Nat.zero_le _, rfl, rfl, 0, rfl⟩
    case round =>
      obtain ⟨k, hk, rfl, ht, n, rfl⟩ := hrel
      have HT : Hid (xs.take k = ys.take k) := ht
      clear ht
      by_cases hlt : k < xs.length
      · obtain ⟨g, off, x, rfl, hx1, hx3⟩ := hcl k hlt
        obtain ⟨g', off', y, rfl, hy1, hy3⟩ := hcl' k (by omega)
        have HX : Hid (xs[k]? = some x) := hx1
        have HY : Hid (ys[k]? = some y) := hy1
        have hlt' : k < ys.length := by omega
        clear hx1 hy1 hcl hcl'
        by_cases hxy : x = y
        · subst hxy
          have hxx : (x != x) = false := by simp
          go_wp2
          go_quiet (fail)
          go_wp2
          go_roundw
          case rel => exact ⟨k + 1, by omega, by go_num, by rw [take_get HX.out, take_get HY.out, HT.out], _, rfl⟩
          case measure => simp [intOf]; omega
        · have hne : (x != y) = true := by rw [bne_iff_ne]; exact hxy
          go_wp2
          go_quiet (fail)
          go_wp2
          go_ret
          exact ⟨ret1b (by rw [eq_comm, decide_eq_false_iff_not]; rintro rfl; have := HX.out.symm.trans HY.out; simp at this; exact hxy this), _, World.drewN_drewN _ _ _⟩
      · have hk' : k = xs.length := by omega
        go_wp2
        go_ret
        refine ⟨ret1b ?_, n, rfl⟩
        have := HT.out
        rw [List.take_of_length_le (by omega), List.take_of_length_le (by omega)] at this
        simp [this]
  · have hle : ((xs.length : Int) != ys.length) = true := by rw [bne_iff_ne]; omega
    go_enter Tryz.func19, Tryz.ntmps19
    go_wp2
    go_ret
    exact ⟨ret1b (by rw [eq_comm, decide_eq_false_iff_not]; rintro rfl; exact hl rfl), 0, rfl⟩


set_option maxRecDepth 100000 in
set_option maxHeartbeats 25600000 in
theorem shown13_any (w : World) (hT : Tabs w) :
    Calls Tryz.prog 9 #[] w fun e w' => e = .returned (.bool true) ∧ Below w.heap.size w w' := by
  have HT := hid hT
  clear hT
  go_enter Tryz.func9, Tryz.ntmps9
  go_wp2_with fail
  refine (adds13_any w).mono ?_
  rintro e w1 ⟨rfl, hA1, hR1, hs1, hb1⟩
  obtain ⟨W1, hW1⟩ : ∃ X, X = w1.alloc (.cells #[.slice (some ⟨w.heap.size + 1, 0, none⟩) 3 3, .slice (some ⟨w.heap.size + 6, 0, none⟩) 2 2] 32) := ⟨_, rfl⟩
  have C1 : Hid (Below w.heap.size w W1) := by rw [hW1]; exact below_step hb1 (below_alloc _)
  have HS1 : Hid (∀ W, Below W1.heap.size W1 W → (W.cell? ⟨w1.heap.size, 0, none⟩ = some (.slice (some ⟨w.heap.size + 1, 0, none⟩) 3 3) ∧ W.cell? ⟨w1.heap.size, 1, none⟩ = some (.slice (some ⟨w.heap.size + 6, 0, none⟩) 2 2)) ∧ Sg W (.slice (some ⟨w.heap.size + 1, 0, none⟩) 3 3) sumS ∧ RU W (.slice (some ⟨w.heap.size + 6, 0, none⟩) 2 2) [addR0, addR1] ∧ Tabs W ∧ Below w.heap.size w W) := fun W hW => by
    have hk := Kp.of_below hW
    rw [hW1] at hk
    have hk1 := (Kp.of_below (below_alloc (w := w1) (.cells #[.slice (some ⟨w.heap.size + 1, 0, none⟩) 3 3, .slice (some ⟨w.heap.size + 6, 0, none⟩) 2 2] 32))).trans hk
    exact ⟨⟨hk.cell _ _ (cell_new rfl), hk.cell _ _ (cell_new rfl)⟩, hA1.sig.kp hk1, (adds_ru hA1 hR1).kp hk1, HT.out.below (below_step C1.out hW), below_step C1.out hW⟩
  clear hA1 hR1 hs1 hb1
  go_wp2_with fail
  rw [← hW1]
  clear hW1
  generalize w.heap.size + 1 = gs at HS1 ⊢
  generalize w.heap.size + 6 = gr at HS1 ⊢
  generalize w1.heap.size = gb at HS1 ⊢
  clear C1
  obtain ⟨⟨x0, x1⟩, i0, i1, iT, _⟩ := HS1.out W1 (Below.refl _ _)
  have HEx := hid (extend_any _ sumS W1 i0 iT)
  clear i0 i1 iT
  go_wp2_with fail
  refine HEx.out.mono ?_
  rintro e w2 ⟨xv, rfl, ox, hb2⟩
  rw [ex13_ahead] at ox ⊢
  rw [if_pos rfl] at ox
  have D2 := hid hb2
  obtain ⟨xo, xc, hxv, _, _⟩ := ox.shape
  rw [show (extL sumS).length = 6 by kernel_rfl] at hxv
  subst hxv
  have HOx := hid ox.sg
  clear ox hb2 x0 x1
  obtain ⟨⟨x0, x1⟩, i0, i1, iT, _⟩ := HS1.out w2 D2.out
  have HOf := hid (of13_any _ _ sumS [addR0, addR1] w2 i0 i1 iT)
  clear i0 i1 iT
  go_wp2_with fail
  refine HOf.out.mono ?_
  rintro e w3 ⟨lv, vs, rfl, hpa⟩
  rw [ex13_ofE]
  rw [ex13_ofL] at hpa
  have D3 := hid (below_step D2.out hpa.bel)
  have HOf5 := hid hpa.bel
  have hrl := hpa.ru (fun r hr => by simp at hr; subst hr; simp)
  obtain ⟨lo, lc, hlv, _, _⟩ := hpa.shape
  rw [show ([(([5, 1, -1, -2], [5, -1, -2]) : Rl)]).length = 1 from rfl] at hlv
  subst hlv
  have HRl := hid hrl
  clear hrl hpa x0 x1
  obtain ⟨⟨x0, x1⟩, i0, i1, iT, _⟩ := HS1.out w3 D3.out
  have HGr := hid (graph13_any _ _ _ sumS [addR0, addR1] _ w3 i0 i1 HRl.out iT (by simp) (fun p hp => by simp at hp; subst hp; simp))
  clear i0 i1 iT
  go_wp2_with fail
  refine HGr.out.mono ?_
  rintro e w4 ⟨gv, rfl, hrs, hb4⟩
  rw [ex13_g] at hrs
  obtain ⟨go, gc, rfl, _, _, g3⟩ := hrs
  obtain ⟨gg, goo, rfl, _, gcell⟩ := g3 (by decide)
  obtain ⟨_, u, hu, hiu⟩ := gcell 0 [0] rfl
  obtain ⟨au, cu, rfl, _, _, _⟩ := Row.flat hiu
  obtain ⟨ug, uo, c, rfl, hc, hcx, _, _⟩ := hiu.at (k := 0) (by decide)
  cases hc
  have D4 := hid (below_step D3.out hb4)
  obtain ⟨lg, loff, a, b, a1, c1, a2, c2, rfl, hm, hc0, hc1, hi1, hi2, _, _⟩ := HRl.out.at (k := 0) (by decide)
  cases hm
  have hc0 := (Kp.of_below hb4).cell _ _ hc0
  have hc1 := (Kp.of_below hb4).cell _ _ hc1
  have HI1 := hid (hi1.kp (Kp.of_below hb4))
  have HI2 := hid (hi2.kp (Kp.of_below hb4))
  have HX4 := hid (HOx.out.kp (Kp.of_below (below_step HOf5.out hb4)))
  simp only [Nat.zero_mul, Nat.add_zero] at hc0 hc1 hu hcx
  have HC1 := hid hc1
  have HU := hid hu
  have HCx := hid hcx
  have HG45 : Hid (Below w4.heap.size w4 w4) := Below.refl _ _
  clear g3 gcell hiu hi1 hi2 hb4 x0 x1 hc1 hu hcx
  obtain ⟨wa, hwa⟩ : ∃ X, X = w4.alloc (.cells #[.int .i64 5, .int .i64 1, .int .i64 (-1), .int .i64 (-2)] 3) := ⟨_, rfl⟩
  have bwa : Hid (Below w4.heap.size w4 wa) := by rw [hwa]; exact below_alloc _
  have iwa : Hid (Is wa (.slice (some ⟨w4.heap.size, 0, none⟩) 4 4) [5, 1, -1, -2]) := by rw [hwa]; exact is_new w4 [5, 1, -1, -2] 3 (by decide) (by decide)
  go_wp2_with fail
  rw [← hwa]
  clear hwa hc0
  refine (sameRow13_any _ _ _ _ wa (HI1.out.kp (Kp.of_below bwa.out)) iwa.out).mono ?_
  rintro e w5 ⟨rfl, n5, hw5⟩
  have b5 := hid (drawn_below hw5)
  have E5 := hid (below_step bwa.out b5.out)
  clear hw5
  have hc1 := (Kp.of_below (below_step HG45.out E5.out)).cell _ _ HC1.out
  obtain ⟨wb, hwb⟩ : ∃ X, X = w5.alloc (.cells #[.int .i64 5, .int .i64 (-1), .int .i64 (-2)] 3) := ⟨_, rfl⟩
  have bwb : Hid (Below w5.heap.size w5 wb) := by rw [hwb]; exact below_alloc _
  have iwb : Hid (Is wb (.slice (some ⟨w5.heap.size, 0, none⟩) 3 3) [5, -1, -2]) := by rw [hwb]; exact is_new w5 [5, -1, -2] 3 (by decide) (by decide)
  go_wp2_with fail
  rw [← hwb]
  clear hwb hc1
  refine (sameRow13_any _ _ _ _ wb (HI2.out.kp (Kp.of_below (below_step E5.out bwb.out))) iwb.out).mono ?_
  rintro e w6 ⟨rfl, n6, hw6⟩
  have E6 := hid (below_step E5.out (below_step bwb.out (drawn_below hw6)))
  clear hw6
  obtain ⟨vaa, hvaa⟩ : ∃ X, X = w6.alloc (.cells #[.int .i64 5, .int .i64 1, .int .i64 (-1), .int .i64 0] 3) := ⟨_, rfl⟩
  have bvaa : Hid (Below w6.heap.size w6 vaa) := by rw [hvaa]; exact below_alloc _
  have ivaa : Hid (Is vaa (.slice (some ⟨w6.heap.size, 0, none⟩) 4 4) [5, 1, -1, 0]) := by rw [hvaa]; exact is_new w6 [5, 1, -1, 0] 3 (by decide) (by decide)
  obtain ⟨vab, hvab⟩ : ∃ X, X = vaa.alloc (.cells #[.int .i64 5, .int .i64 0, .int .i64 (-1)] 3) := ⟨_, rfl⟩
  have bvab : Hid (Below vaa.heap.size vaa vab) := by rw [hvab]; exact below_alloc _
  have ivab : Hid (Is vab (.slice (some ⟨vaa.heap.size, 0, none⟩) 3 3) [5, 0, -1]) := by rw [hvab]; exact is_new vaa [5, 0, -1] 3 (by decide) (by decide)
  have svaa : vaa.heap.size = w6.heap.size + 1 := by rw [hvaa, World.size_alloc]
  rw [svaa] at ivab
  clear svaa
  have Fva := hid (below_step E6.out (below_step bvaa.out bvab.out))
  obtain ⟨⟨x0, x1⟩, _⟩ := HS1.out w6 (below_step D4.out E6.out)
  obtain ⟨_, i0, i1, iT, _⟩ := HS1.out vab (below_step D4.out Fva.out)
  have Hva := hid (edge_any _ _ (.slice none 0 0) _ _ (.slice none 0 0) sumS [addR0, addR1] [] [5, 1, -1, 0] [5, 0, -1] [] vab i0 i1 (Row.nil (by simp [maxLen])) (ivaa.out.kp (Kp.of_below bvab.out)) ivab.out (Row.nil (by simp [maxLen])) iT (by simp) (by simp))
  clear i0 i1 iT
  go_wp2_with fail
  rw [← hvaa, ← hvab]
  clear hvaa hvab x0 x1
  refine Hva.out.mono ?_
  rintro e vaz ⟨rfl, hbva⟩
  rw [ex13_a]
  have Eva := hid (below_step Fva.out hbva)
  clear hbva
  obtain ⟨vba, hvba⟩ : ∃ X, X = vaz.alloc (.cells #[.int .i64 5, .int .i64 2, .int .i64 0, .int .i64 0, .int .i64 0] 3) := ⟨_, rfl⟩
  have bvba : Hid (Below vaz.heap.size vaz vba) := by rw [hvba]; exact below_alloc _
  have ivba : Hid (Is vba (.slice (some ⟨vaz.heap.size, 0, none⟩) 5 5) [5, 2, 0, 0, 0]) := by rw [hvba]; exact is_new vaz [5, 2, 0, 0, 0] 3 (by decide) (by decide)
  obtain ⟨vbb, hvbb⟩ : ∃ X, X = vba.alloc (.cells #[.int .i64 5, .int .i64 1, .int .i64 (-1), .int .i64 (-2)] 3) := ⟨_, rfl⟩
  have bvbb : Hid (Below vba.heap.size vba vbb) := by rw [hvbb]; exact below_alloc _
  have ivbb : Hid (Is vbb (.slice (some ⟨vba.heap.size, 0, none⟩) 4 4) [5, 1, -1, -2]) := by rw [hvbb]; exact is_new vba [5, 1, -1, -2] 3 (by decide) (by decide)
  have svba : vba.heap.size = vaz.heap.size + 1 := by rw [hvba, World.size_alloc]
  rw [svba] at ivbb
  clear svba
  have Fvb := hid (below_step Eva.out (below_step bvba.out bvbb.out))
  obtain ⟨⟨x0, x1⟩, _⟩ := HS1.out vaz (below_step D4.out Eva.out)
  obtain ⟨_, i0, i1, iT, _⟩ := HS1.out vbb (below_step D4.out Fvb.out)
  have Hvb := hid (edge_any _ _ (.slice none 0 0) _ _ (.slice none 0 0) sumS [addR0, addR1] [] [5, 2, 0, 0, 0] [5, 1, -1, -2] [] vbb i0 i1 (Row.nil (by simp [maxLen])) (ivba.out.kp (Kp.of_below bvbb.out)) ivbb.out (Row.nil (by simp [maxLen])) iT (by simp) (by simp))
  clear i0 i1 iT
  go_wp2_with fail
  rw [← hvba, ← hvbb]
  clear hvba hvbb x0 x1
  refine Hvb.out.mono ?_
  rintro e vbz ⟨rfl, hbvb⟩
  rw [ex13_b]
  have Evb := hid (below_step Fvb.out hbvb)
  clear hbvb
  have hu := (Kp.of_below Evb.out).cell _ _ HU.out
  have hcx := (Kp.of_below Evb.out).cell _ _ HCx.out
  obtain ⟨xo', xc', exo, _, _, q9⟩ := Row.flat (HX4.out.kp (Kp.of_below Evb.out))
  simp only [Value.slice.injEq] at exo
  obtain ⟨rfl, _, rfl⟩ := exo
  obtain ⟨xg, xoff, y, rfl, hy, _, _, _, q0, q1⟩ := q9 5 (by rw [show (extL sumS).length = 6 by kernel_rfl]; decide)
  rw [ex13_ext] at hy
  cases hy
  simp only at q0 q1
  clear q9
  go_wp2
  go_ret
  exact ⟨by first | rfl | simp, (HS1.out _ (below_step D4.out Evb.out)).2.2.2.2⟩

end Go.Proofs.YtoapgbaibpkckaaGreatDoor

/- PairsEdges: its walk. -/
namespace Go.Proofs.YtoapgbaibpkckaaGreatDoor
open Go.RowKit Go.Maps Go.BigFrame

set_option maxRecDepth 100000 in
set_option maxHeartbeats 1600000 in
theorem pairsEdges_any (sv rv plv prv qlv qrv : Value) (sig : List Sy) (rs : List Rl) (pl pr ql qr : List Int) (w : World) (hs : Sg w sv sig) (hr : RU w rv rs) (hpl : Is w plv pl) (hpr : Is w prv pr) (hql : Is w qlv ql) (hqr : Is w qrv qr) (hT : Tabs w) (hl1 : pr.length * 8 ≤ 140737488351232) (hl2 : ql.length * 8 ≤ 140737488351232) :
    Calls Tryz.prog 5 #[.agg #[sv, rv], .agg #[plv, prv], .agg #[qlv, qrv]] w fun e w' => e = .returned (.bool true) ∧ Below w.heap.size w w' := by
  obtain ⟨so, sc, rfl, _, _, _⟩ := Row.flat hs
  obtain ⟨ro, rc, rfl, _, _, _⟩ := Row.flat hr
  obtain ⟨a1, c1, rfl, _, _, _⟩ := Row.flat hpl
  obtain ⟨a2, c2, rfl, _, _, _⟩ := Row.flat hpr
  obtain ⟨a3, c3, rfl, _, _, _⟩ := Row.flat hql
  obtain ⟨a4, c4, rfl, _, _, _⟩ := Row.flat hqr
  obtain ⟨w0, hw0⟩ : ∃ X, X = ((w.alloc (.cells #[.slice so sig.length sc, .slice ro rs.length rc] 32)).alloc (.cells #[.slice a1 pl.length c1, .slice a2 pr.length c2] 38)).alloc (.cells #[.slice a3 ql.length c3, .slice a4 qr.length c4] 38) := ⟨_, rfl⟩
  have C0 : Hid (Below w.heap.size w w0) := by rw [hw0]; exact below_step (below_step (below_alloc _) (below_alloc _)) (below_alloc _)
  have HC : Hid (∀ W, Below w0.heap.size w0 W → (W.cell? ⟨w.heap.size, 0, none⟩ = some (.slice so sig.length sc) ∧ W.cell? ⟨w.heap.size, 1, none⟩ = some (.slice ro rs.length rc)) ∧ (W.cell? ⟨w.heap.size + 1, 0, none⟩ = some (.slice a1 pl.length c1) ∧ W.cell? ⟨w.heap.size + 1, 1, none⟩ = some (.slice a2 pr.length c2)) ∧ W.cell? ⟨w.heap.size + 1 + 1, 0, none⟩ = some (.slice a3 ql.length c3) ∧ W.cell? ⟨w.heap.size + 1 + 1, 1, none⟩ = some (.slice a4 qr.length c4)) := fun W hW => by
    have hk := Kp.of_below hW
    rw [hw0] at hk
    have e9 : w.heap.size + 1 = (w.alloc (.cells #[.slice so sig.length sc, .slice ro rs.length rc] 32)).heap.size := (World.size_alloc _ _).symm
    have e8 : w.heap.size + 1 + 1 = ((w.alloc (.cells #[.slice so sig.length sc, .slice ro rs.length rc] 32)).alloc (.cells #[.slice a1 pl.length c1, .slice a2 pr.length c2] 38)).heap.size := by rw [World.size_alloc, World.size_alloc]
    rw [e8, e9]
    exact ⟨⟨hk.cell _ _ (cell_old (cell_old (cell_new rfl))), hk.cell _ _ (cell_old (cell_old (cell_new rfl)))⟩, ⟨hk.cell _ _ (cell_old (cell_new rfl)), hk.cell _ _ (cell_old (cell_new rfl))⟩, hk.cell _ _ (cell_new rfl), hk.cell _ _ (cell_new rfl)⟩
  have HS := hid hs
  have HR := hid hr
  have H1 := hid hpl
  have H2 := hid hpr
  have H3 := hid hql
  have H4 := hid hqr
  have HT := hid hT
  obtain ⟨E, hE⟩ : ∃ E, E = edgeB sig rs pr ql := ⟨_, rfl⟩
  have HEd : Hid (∀ W, Below w.heap.size w W → Calls Tryz.prog 15 #[.agg #[.slice so sig.length sc, .slice ro rs.length rc], .agg #[.slice a1 pl.length c1, .slice a2 pr.length c2], .agg #[.slice a3 ql.length c3, .slice a4 qr.length c4]] W fun e w' => e = .returned (.bool E) ∧ Below W.heap.size W w') := fun W hW => by
    have hk := Kp.of_below hW
    rw [hE]
    exact edge_any _ _ _ _ _ _ sig rs pl pr ql qr W (HS.out.kp hk) (HR.out.kp hk) (H1.out.kp hk) (H2.out.kp hk) (H3.out.kp hk) (H4.out.kp hk) (HT.out.below hW) hl1 hl2
  have HRe : Hid (∀ W, Below w.heap.size w W → Calls Tryz.prog 16 #[.agg #[.slice so sig.length sc, .slice ro rs.length rc], .agg #[.slice a1 pl.length c1, .slice a2 pr.length c2], .agg #[.slice a3 ql.length c3, .slice a4 qr.length c4]] W fun e w' => e = .returned (.bool E) ∧ Below W.heap.size W w') := fun W hW => by
    have hk := Kp.of_below hW
    rw [hE]
    exact refEdge13_any _ _ _ _ _ _ sig rs pl pr ql qr W (HS.out.kp hk) (HR.out.kp hk) (H1.out.kp hk) (H2.out.kp hk) (H3.out.kp hk) (H4.out.kp hk) hl1 hl2
  clear hs hr hpl hpr hql hqr hT hE
  go_enter Tryz.func5, Tryz.ntmps5
  go_upto_region 1 with fail
  rw [← hw0]
  clear hw0
  go_wp2_with fail
  refine (shown13_any w0 (HT.out.below C0.out)).mono ?_
  rintro e w1 ⟨rfl, hb1⟩
  have D1 := hid hb1
  have B1 := hid (below_step C0.out hb1)
  clear hb1
  obtain ⟨⟨x0, x1⟩, ⟨x2, x3⟩, x4, x5⟩ := HC.out w1 D1.out
  go_wp2_with fail
  refine (HEd.out w1 B1.out).mono ?_
  rintro e w2 ⟨rfl, hb2⟩
  have D2 := hid (below_step D1.out hb2)
  have B2 := hid (below_step B1.out hb2)
  clear hb2 x0 x1 x2 x3 x4 x5
  obtain ⟨⟨x0, x1⟩, ⟨x2, x3⟩, x4, x5⟩ := HC.out w2 D2.out
  go_wp2_with fail
  refine (HRe.out w2 B2.out).mono ?_
  rintro e w3 ⟨rfl, hb3⟩
  have B3 := hid (below_step B2.out hb3)
  clear hb3 x0 x1 x2 x3 x4 x5
  have hee : (E == E) = true := by simp
  go_wp2
  go_ret
  exact ⟨by simp, B3.out⟩

end Go.Proofs.YtoapgbaibpkckaaGreatDoor
