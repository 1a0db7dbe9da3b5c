/- Texts of the proof, one behind the other. -/
import Derived.Test.YtoapgbaibpkckaaGreatDoorOwn21
import Derived.Test.YtoapgbaibpkckaaGreatDoorOwn20
/- The document's Graph walked. -/
namespace Go.Proofs.YtoapgbaibpkckaaGreatDoor
open Go.RowKit Go.Maps Go.BigFrame

/-- The pairs, of the first k, that may follow a pair, as the document's edges tell. -/
noncomputable def rowD13 (sig : List Sy) (rs l : List Rl) (p : Rl) (k : Nat) : List Int := ((List.range k).filter fun x => edgeB sig rs p.2 ((l[x]?).getD ([], [])).1).map fun (x : Nat) => (x : Int)

theorem rowD13_at {sig : List Sy} {rs l : List Rl} {p q : Rl} {k : Nat} (h : l[k]? = some q) : rowD13 sig rs l p (k + 1) = rowD13 sig rs l p k ++ (if edgeB sig rs p.2 q.1 = true then [(k : Int)] else []) := by
  unfold rowD13
  rw [List.range_succ, List.filter_append, List.map_append]
  congr 1
  have e : (l[k]?).getD ([], []) = q := by rw [h]; rfl
  by_cases hb : edgeB sig rs p.2 q.1 = true
  · rw [if_pos hb, List.filter_cons_of_pos (by rw [e]; exact hb)]
    rfl
  · rw [if_neg hb, List.filter_cons_of_neg (by rw [e]; exact hb)]
    rfl

theorem rowD13_len {sig : List Sy} {rs l : List Rl} {p : Rl} {k : Nat} : (rowD13 sig rs l p k).length ≤ k := by
  unfold rowD13
  rw [List.length_map]
  have := List.length_filter_le (fun x => edgeB sig rs p.2 ((l[x]?).getD ([], [])).1) (List.range k)
  rw [List.length_range] at this
  exact this

theorem graphD13 (sig : List Sy) (rs l : List Rl) : (l.map fun p => rowD13 sig rs l p l.length) = graphL13 sig rs l := by
  unfold graphL13
  by_cases h : sysB sig rs = true
  · rw [if_pos h]
    apply List.map_congr_left
    intro p _
    unfold rowD13 rowK13 edgeB
    rw [h]
    simp only [Bool.true_and]
  · rw [if_neg h]
    apply List.map_congr_left
    intro p _
    have h2 : sysB sig rs = false := by simpa using h
    unfold rowD13 edgeB
    rw [h2]
    simp

theorem Rw13.rs9 {w0 w : World} {v : Value} {vs : List Value} {l : List (List Int)} (h : Rw13 w0 w v vs l) (hl : ∀ t ∈ l, t.length * 8 ≤ 140737488351232) : Rs w v l :=
  rs_of_own h.row ⟨h.len, fun j u x hu hx => h.own.own j u x (List.getElem?_zip_eq_some.2 ⟨hu, hx⟩)⟩ hl

set_option maxRecDepth 100000 in
set_option maxHeartbeats 3200000 in
theorem refGraph13_any (sv rv lv : Value) (sig : List Sy) (rs l : List Rl) (w : World) (hs : Sg w sv sig) (hr : RU w rv rs) (hl : RU w lv l) (hn : l.length ≤ 1048576) (hb : ∀ p ∈ l, p.1.length ≤ 1048576 ∧ p.2.length ≤ 1048576) :
    Calls Tryz.prog 18 #[.agg #[sv, rv], lv] w fun e w' => ∃ v', e = .returned v' ∧ Rs w' v' (graphL13 sig rs l) ∧ Below w.heap.size w w' := by
  obtain ⟨so, sc, rfl, hso, hsc, _⟩ := Row.flat hs
  obtain ⟨ro, rc, rfl, hro, hrc, _⟩ := Row.flat hr
  obtain ⟨lo, lc, rfl, hlo, hlc, _⟩ := Row.flat hl
  unfold maxLen at hlc
  have HS := hid hs
  have HR := hid hr
  have HL := hid hl
  have HLb := hid hb
  clear hs hr hl hb
  obtain ⟨w0, hw0⟩ : ∃ X, X = w.alloc (.cells #[.slice so sig.length sc, .slice ro rs.length rc] 32) := ⟨_, rfl⟩
  have C0 : Hid (Below w.heap.size w w0) := by rw [hw0]; exact below_alloc _
  have HC : Hid (∀ W, Below w0.heap.size w0 W → W.cell? ⟨w.heap.size, 0, none⟩ = some (.slice so sig.length sc) ∧ W.cell? ⟨w.heap.size, 1, none⟩ = some (.slice ro rs.length rc)) := fun W hW => by
    have hk := Kp.of_below hW
    rw [hw0] at hk
    exact ⟨hk.cell _ _ (cell_new rfl), hk.cell _ _ (cell_new rfl)⟩
  go_enter Tryz.func18, Tryz.ntmps18
  go_upto_region 1 with fail
  rw [← hw0]
  clear hw0
  go_wp2
  go_loopw [5, 6] (fun ov iv wr => ∃ (i : Nat) (vs : List Value), iv = .int .i64 i ∧ i ≤ l.length ∧ Rw13 w0 wr ov vs ((l.take i).map fun p => rowD13 sig rs l p l.length)) (fun _ iv _ => l.length - (intOf iv).toNat)
  case atStart => exact ⟨0, [], rfl, Nat.zero_le _, Rw13.nil (Below.refl _ _)⟩
  case round =>
    obtain ⟨i, vs, rfl, hi, hrw⟩ := hrel
    have HW := hid hrw
    have CR := hid (below_step C0.out hrw.bel)
    have HTl : Hid (((l.take i).map fun p => rowD13 sig rs l p l.length).length = i) := by show _ = _; rw [List.length_map, List.length_take]; omega
    obtain ⟨oo, oc, hov, _, hoc⟩ := hrw.shape
    rw [HTl.out] at hov
    subst hov
    unfold maxLen at hoc
    clear hrw
    by_cases hil : i < l.length
    · obtain ⟨gl, ol, a, b, a1, c1, a2, c2, rfl, hm, hc0, hc1, hi1, hi2, _, _⟩ := HL.out.at hil
      have HM := hid hm
      have HC0 := hid hc0
      have HC1 := hid hc1
      have HI1 := hid hi1
      have HI2 := hid hi2
      obtain ⟨W, hW⟩ : ∃ X, X = wr.alloc (.cells #[] 3) := ⟨_, rfl⟩
      have BW : Hid (Below wr.heap.size wr W) := by rw [hW]; exact below_alloc _
      have HO0 : Hid (OwI W wr.heap.size (.slice (some ⟨wr.heap.size, 0, none⟩) 0 0) []) := ⟨fun k x hk => by simp at hk, by rw [hW]; exact empty_row 3 (Nat.le_refl _)⟩
      clear hm hc0 hc1 hi1 hi2
      obtain ⟨wo, hwo⟩ : ∃ X, X = wr := ⟨wr, rfl⟩
      rw [← hwo] at HW CR BW HO0 hW ⊢
      clear hwo
      go_upto_region 6 with fail
      rw [← hW]
      clear hW
      go_wp2
      go_loopw [7, 8] (fun xv kv wz => ∃ k : Nat, kv = .int .i64 k ∧ k ≤ l.length ∧ OwI wz wo.heap.size xv (rowD13 sig rs l (a, b) k) ∧ Below wo.heap.size wo wz) (fun _ kv _ => l.length - (intOf kv).toNat)
      case atStart => exact ⟨0, rfl, Nat.zero_le _, HO0.out, BW.out⟩
      case round =>
        clear HO0 BW
        obtain ⟨k, rfl, hk, ho, hbz⟩ := hrel
        have HO := hid ho
        have HB := hid hbz
        have CZ := hid (below_step CR.out hbz)
        have DZ := hid (below_step HW.out.bel hbz)
        clear ho hbz
        by_cases hkl : k < l.length
        · obtain ⟨g2, o2, p, q, b1, d1, b2, d2, e9, hm2, hd0, hd1, hj1, hj2, _, _⟩ := HL.out.at hkl
          cases e9
          obtain ⟨B, hB⟩ : ∃ B, B = edgeB sig rs b p := ⟨_, rfl⟩
          have HRw := hid (rowD13_at (sig := sig) (rs := rs) (p := (a, b)) hm2)
          have HEg : Hid (∀ W, Below wr.heap.size wr W → Calls Tryz.prog 16 #[.agg #[.slice so sig.length sc, .slice ro rs.length rc], .agg #[.slice a1 a.length c1, .slice a2 b.length c2], .agg #[.slice b1 p.length d1, .slice b2 q.length d2]] W fun e w' => e = .returned (.bool B) ∧ Below wr.heap.size wr w') := fun W hW => by
            have hk9 := Kp.of_below (below_step CZ.out hW)
            have q1 := (HLb.out _ (List.mem_of_getElem? HM.out)).2
            have q2 := (HLb.out _ (List.mem_of_getElem? hm2)).1
            simp only at q1 q2
            rw [hB]
            exact (refEdge13_any _ _ _ _ _ _ sig rs a b p q W (HS.out.kp hk9) (HR.out.kp hk9) (HI1.out.kp hk9) (HI2.out.kp hk9) (hj1.kp hk9) (hj2.kp hk9) (by omega) (by omega)).mono fun e w2 ⟨he, hb⟩ => ⟨he, below_step hW hb⟩
          obtain ⟨x0, x1⟩ := HC.out wr DZ.out
          have y0 := (Kp.of_below CZ.out).cell _ _ HC0.out
          have y1 := (Kp.of_below CZ.out).cell _ _ HC1.out
          have y2 := (Kp.of_below CZ.out).cell _ _ hd0
          have y3 := (Kp.of_below CZ.out).cell _ _ hd1
          have HBe := hid hB
          clear hm2 hd0 hd1 hj1 hj2 hB
          go_upto_region 9 with fail
          refine region_below (by kernel_rfl) (by kernel_rfl) ?_
          -- Q:edge
          go_big_quiet_want
          refine ⟨.agg #[.slice so sig.length sc, .slice ro rs.length rc], fun w' hw' => ?_, ?_⟩
          · have hh0 := (Kp.of_below hw').cell _ _ x0; have hh1 := (Kp.of_below hw').cell _ _ x1; unfold Oper.quietAt; go_simp
          simp only [Act.put, List.setIfInBounds_toArray, List.set_cons_zero, List.set_cons_succ]
          go_big_quiet_on
          (go_big_quiet_want; go_big_quiet_op; go_big_quiet_on)
          (go_big_quiet_want; go_big_quiet_op; go_big_quiet_on)
          go_big_quiet_want
          refine ⟨.pointer (some ⟨gl, ol + i * 2, none⟩), fun w' hw' => ?_, ?_⟩
          · unfold Oper.quietAt; go_simp
          simp only [Act.put, List.setIfInBounds_toArray, List.set_cons_zero, List.set_cons_succ]
          go_big_quiet_on
          go_big_quiet_want
          refine ⟨.agg #[.slice a1 a.length c1, .slice a2 b.length c2], fun w' hw' => ?_, ?_⟩
          · have hh0 := (Kp.of_below hw').cell _ _ y0; have hh1 := (Kp.of_below hw').cell _ _ y1; unfold Oper.quietAt; go_simp
          simp only [Act.put, List.setIfInBounds_toArray, List.set_cons_zero, List.set_cons_succ]
          go_big_quiet_on
          (go_big_quiet_want; go_big_quiet_op; go_big_quiet_on)
          (go_big_quiet_want; go_big_quiet_op; go_big_quiet_on)
          go_big_quiet_want
          refine ⟨.pointer (some ⟨gl, ol + k * 2, none⟩), fun w' hw' => ?_, ?_⟩
          · unfold Oper.quietAt; go_simp
          simp only [Act.put, List.setIfInBounds_toArray, List.set_cons_zero, List.set_cons_succ]
          go_big_quiet_on
          go_big_quiet_want
          refine ⟨.agg #[.slice b1 p.length d1, .slice b2 q.length d2], fun w' hw' => ?_, ?_⟩
          · have hh0 := (Kp.of_below hw').cell _ _ y2; have hh1 := (Kp.of_below hw').cell _ _ y3; unfold Oper.quietAt; go_simp
          simp only [Act.put, List.setIfInBounds_toArray, List.set_cons_zero, List.set_cons_succ]
          go_big_quiet_on
          go_big_quiet_want
          refine ⟨.bool B, fun w' hw' => ?_, ?_⟩
          · unfold Oper.quietAt; go_simp; exact HEg.out w' hw'
          simp only [Act.put, List.setIfInBounds_toArray, List.set_cons_zero, List.set_cons_succ]
          go_big_quiet_on
          refine wpQuiet_nil ?_
          -- E:edge
          intro w2 hb2
          have HO2 := hid (HO.out.later hb2)
          have HB2 := hid (below_step HB.out hb2)
          have hkr := rowD13_len (sig := sig) (rs := rs) (l := l) (p := (a, b)) (k := k)
          clear hb2 x0 x1 y0 y1 y2 y3 HEg
          cases B
          · have HRn : Hid (rowD13 sig rs l (a, b) (k + 1) = rowD13 sig rs l (a, b) k) := by
              show _ = _
              rw [HRw.out]
              simp only
              rw [← HBe.out, if_neg (by decide), List.append_nil]
            go_wp2
            go_roundw
            case rel => exact ⟨k + 1, by go_num, by omega, by rw [HRn.out]; exact HO2.out, HB2.out⟩
            case measure => simp only [intOf]; omega
          · obtain ⟨v3, w3, hr3, ho3, hg3, _⟩ := join_one 36 (c := (k : Int)) HO2.out (by omega) (by omega) HB2.out.size (by omega)
            have HRn : Hid (rowD13 sig rs l (a, b) (k + 1) = rowD13 sig rs l (a, b) k ++ [(k : Int)]) := by
              show _ = _
              rw [HRw.out]
              simp only
              rw [← HBe.out, if_pos rfl]
            have HR3 := hid hr3
            have HO3 := hid ho3
            have HB3 : Hid (Below wo.heap.size wo w3) := (below_step HB2.out (below_alloc _)).grown hg3 (below_step HB2.out (below_alloc _)).size (fun j hj => own_blk HO2.out.2 hj)
            obtain ⟨ro9, rcp, rfl, _, _⟩ := HO2.out.shape
            clear hr3 ho3 hg3
            go_wp2_with (first
              | (at_builtin; refine wpList_append_run rfl _ _ _ rfl _ _ rfl rfl HR3.out ?_))
            go_roundw
            case rel => exact ⟨k + 1, by go_num, by omega, by rw [HRn.out]; exact HO3.out, HB3.out⟩
            case measure => simp only [intOf]; omega
        · have hke : k = l.length := by omega
          have hdk : decide ((k : Int) < (l.length : Int)) = false := by simpa using hkl
          have HTk : Hid ((l.take (i + 1)).map (fun p => rowD13 sig rs l p l.length) = (l.take i).map (fun p => rowD13 sig rs l p l.length) ++ [rowD13 sig rs l (a, b) k]) := by
            show _ = _
            rw [take_get HM.out, List.map_append, hke]
            rfl
          obtain ⟨xo, xc, rfl, _, _⟩ := HO.out.shape
          obtain ⟨v4, w4, hr4, h4⟩ := HW.out.push 41 HB.out HO.out (by rw [HTl.out]; omega)
          rw [← HTk.out] at h4
          have HR4 := hid hr4
          have H4 := hid h4
          clear hr4 h4 hke
          go_wp2_with (first
            | (at_builtin; refine wpList_append_run rfl _ _ _ rfl _ _ rfl rfl HR4.out ?_))
          go_roundw
          case rel => exact ⟨i + 1, _, by go_num, by omega, H4.out⟩
          case measure => simp only [intOf]; omega
    · have hie : i = l.length := by omega
      have HRl : Hid (Rs wr (.slice oo i oc) (graphL13 sig rs l)) := by
        have h9 := HW.out.rs9 (fun t ht => by
          obtain ⟨p, _, rfl⟩ := List.mem_map.1 ht
          have := rowD13_len (sig := sig) (rs := rs) (l := l) (p := p) (k := l.length)
          omega)
        rw [hie, List.take_length, graphD13] at h9
        show Rs _ _ _
        rw [hie]
        exact h9
      clear hie
      go_wp2
      go_ret
      exact ⟨_, rfl, HRl.out, CR.out⟩

end Go.Proofs.YtoapgbaibpkckaaGreatDoor

/- The examples of layer 13 come out true. -/
namespace Go.Proofs.YtoapgbaibpkckaaGreatDoor
open Go.RowKit Go.Maps Go.BigFrame

set_option maxHeartbeats 400000 in
theorem sameRow13_any (v u : Value) (xs ys : List Int) (w : World) (h : Is w v xs) (h' : Is w u ys) :
    Calls Tryz.prog 19 #[v, u] w fun e w' => e = .returned (.bool (decide (xs = ys))) ∧ ∃ n, w' = w.drewN n := by
  obtain ⟨ao, cap, rfl, hao, hca, hcl⟩ := h.flatI
  obtain ⟨bo, cap', rfl, hbo, hcb, hcl'⟩ := h'.flatI
  clear h h'
  by_cases hl : xs.length = ys.length
  · have hle : ((xs.length : Int) != ys.length) = false := by simp; omega
    go_enter Tryz.func19, Tryz.ntmps19
    go_wp2
    go_loopw [5] (fun i wr => ∃ k : Nat, k ≤ xs.length ∧ i = .int .i64 k ∧ xs.take k = ys.take k ∧ ∃ n, wr = w.drewN n) (fun i _ => xs.length - (intOf i).toNat)
    case atStart => exact ⟨0, Nat.zero_le _, rfl, rfl, 0, rfl⟩
    case round =>
      obtain ⟨k, hk, rfl, ht, n, rfl⟩ := hrel
      have HT : Hid (xs.take k = ys.take k) := ht
      clear ht
      by_cases hlt : k < xs.length
      · obtain ⟨g, off, x, rfl, hx1, hx3⟩ := hcl k hlt
        obtain ⟨g', off', y, rfl, hy1, hy3⟩ := hcl' k (by omega)
        have HX : Hid (xs[k]? = some x) := hx1
        have HY : Hid (ys[k]? = some y) := hy1
        have hlt' : k < ys.length := by omega
        clear hx1 hy1 hcl hcl'
        by_cases hxy : x = y
        · subst hxy
          have hxx : (x != x) = false := by simp
          go_wp2
          go_quiet (fail)
          go_wp2
          go_roundw
          case rel => exact ⟨k + 1, by omega, by go_num, by rw [take_get HX.out, take_get HY.out, HT.out], _, rfl⟩
          case measure => simp [intOf]; omega
        · have hne : (x != y) = true := by rw [bne_iff_ne]; exact hxy
          go_wp2
          go_quiet (fail)
          go_wp2
          go_ret
          exact ⟨ret1b (by rw [eq_comm, decide_eq_false_iff_not]; rintro rfl; have := HX.out.symm.trans HY.out; simp at this; exact hxy this), _, World.drewN_drewN _ _ _⟩
      · have hk' : k = xs.length := by omega
        go_wp2
        go_ret
        refine ⟨ret1b ?_, n, rfl⟩
        have := HT.out
        rw [List.take_of_length_le (by omega), List.take_of_length_le (by omega)] at this
        simp [this]
  · have hle : ((xs.length : Int) != ys.length) = true := by rw [bne_iff_ne]; omega
    go_enter Tryz.func19, Tryz.ntmps19
    go_wp2
    go_ret
    exact ⟨ret1b (by rw [eq_comm, decide_eq_false_iff_not]; rintro rfl; exact hl rfl), 0, rfl⟩


set_option maxRecDepth 100000 in
set_option maxHeartbeats 25600000 in
theorem shown13_any (w : World) (hT : Tabs w) :
    Calls Tryz.prog 9 #[] w fun e w' => e = .returned (.bool true) ∧ Below w.heap.size w w' := by
  have HT := hid hT
  clear hT
  go_enter Tryz.func9, Tryz.ntmps9
  go_wp2_with fail
  refine (adds13_any w).mono ?_
  rintro e w1 ⟨rfl, hA1, hR1, hs1, hb1⟩
  obtain ⟨W1, hW1⟩ : ∃ X, X = w1.alloc (.cells #[.slice (some ⟨w.heap.size + 1, 0, none⟩) 3 3, .slice (some ⟨w.heap.size + 6, 0, none⟩) 2 2] 32) := ⟨_, rfl⟩
  have C1 : Hid (Below w.heap.size w W1) := by rw [hW1]; exact below_step hb1 (below_alloc _)
  have HS1 : Hid (∀ W, Below W1.heap.size W1 W → (W.cell? ⟨w1.heap.size, 0, none⟩ = some (.slice (some ⟨w.heap.size + 1, 0, none⟩) 3 3) ∧ W.cell? ⟨w1.heap.size, 1, none⟩ = some (.slice (some ⟨w.heap.size + 6, 0, none⟩) 2 2)) ∧ Sg W (.slice (some ⟨w.heap.size + 1, 0, none⟩) 3 3) sumS ∧ RU W (.slice (some ⟨w.heap.size + 6, 0, none⟩) 2 2) [addR0, addR1] ∧ Tabs W ∧ Below w.heap.size w W) := fun W hW => by
    have hk := Kp.of_below hW
    rw [hW1] at hk
    have hk1 := (Kp.of_below (below_alloc (w := w1) (.cells #[.slice (some ⟨w.heap.size + 1, 0, none⟩) 3 3, .slice (some ⟨w.heap.size + 6, 0, none⟩) 2 2] 32))).trans hk
    exact ⟨⟨hk.cell _ _ (cell_new rfl), hk.cell _ _ (cell_new rfl)⟩, hA1.sig.kp hk1, (adds_ru hA1 hR1).kp hk1, HT.out.below (below_step C1.out hW), below_step C1.out hW⟩
  clear hA1 hR1 hs1 hb1
  go_wp2_with fail
  rw [← hW1]
  clear hW1
  generalize w.heap.size + 1 = gs at HS1 ⊢
  generalize w.heap.size + 6 = gr at HS1 ⊢
  generalize w1.heap.size = gb at HS1 ⊢
  clear C1
  obtain ⟨⟨x0, x1⟩, i0, i1, iT, _⟩ := HS1.out W1 (Below.refl _ _)
  have HEx := hid (extend_any _ sumS W1 i0 iT)
  clear i0 i1 iT
  go_wp2_with fail
  refine HEx.out.mono ?_
  rintro e w2 ⟨xv, rfl, ox, hb2⟩
  rw [ex13_ahead] at ox ⊢
  rw [if_pos rfl] at ox
  have D2 := hid hb2
  obtain ⟨xo, xc, hxv, _, _⟩ := ox.shape
  rw [show (extL sumS).length = 6 by kernel_rfl] at hxv
  subst hxv
  have HOx := hid ox.sg
  clear ox hb2 x0 x1
  obtain ⟨⟨x0, x1⟩, i0, i1, iT, _⟩ := HS1.out w2 D2.out
  have HOf := hid (of13_any _ _ sumS [addR0, addR1] w2 i0 i1 iT)
  clear i0 i1 iT
  go_wp2_with fail
  refine HOf.out.mono ?_
  rintro e w3 ⟨lv, vs, rfl, hpa⟩
  rw [ex13_ofE]
  rw [ex13_ofL] at hpa
  have D3 := hid (below_step D2.out hpa.bel)
  have HOf5 := hid hpa.bel
  have hrl := hpa.ru (fun r hr => by simp at hr; subst hr; simp)
  obtain ⟨lo, lc, hlv, _, _⟩ := hpa.shape
  rw [show ([(([5, 1, -1, -2], [5, -1, -2]) : Rl)]).length = 1 from rfl] at hlv
  subst hlv
  have HRl := hid hrl
  clear hrl hpa x0 x1
  obtain ⟨⟨x0, x1⟩, i0, i1, iT, _⟩ := HS1.out w3 D3.out
  have HGr := hid (graph13_any _ _ _ sumS [addR0, addR1] _ w3 i0 i1 HRl.out iT (by simp) (fun p hp => by simp at hp; subst hp; simp))
  clear i0 i1 iT
  go_wp2_with fail
  refine HGr.out.mono ?_
  rintro e w4 ⟨gv, rfl, hrs, hb4⟩
  rw [ex13_g] at hrs
  obtain ⟨go, gc, rfl, _, _, g3⟩ := hrs
  obtain ⟨gg, goo, rfl, _, gcell⟩ := g3 (by decide)
  obtain ⟨_, u, hu, hiu⟩ := gcell 0 [0] rfl
  obtain ⟨au, cu, rfl, _, _, _⟩ := Row.flat hiu
  obtain ⟨ug, uo, c, rfl, hc, hcx, _, _⟩ := hiu.at (k := 0) (by decide)
  cases hc
  have D4 := hid (below_step D3.out hb4)
  obtain ⟨lg, loff, a, b, a1, c1, a2, c2, rfl, hm, hc0, hc1, hi1, hi2, _, _⟩ := HRl.out.at (k := 0) (by decide)
  cases hm
  have hc0 := (Kp.of_below hb4).cell _ _ hc0
  have hc1 := (Kp.of_below hb4).cell _ _ hc1
  have HI1 := hid (hi1.kp (Kp.of_below hb4))
  have HI2 := hid (hi2.kp (Kp.of_below hb4))
  have HX4 := hid (HOx.out.kp (Kp.of_below (below_step HOf5.out hb4)))
  simp only [Nat.zero_mul, Nat.add_zero] at hc0 hc1 hu hcx
  have HC1 := hid hc1
  have HU := hid hu
  have HCx := hid hcx
  have HG45 : Hid (Below w4.heap.size w4 w4) := Below.refl _ _
  clear g3 gcell hiu hi1 hi2 hb4 x0 x1 hc1 hu hcx
  obtain ⟨wa, hwa⟩ : ∃ X, X = w4.alloc (.cells #[.int .i64 5, .int .i64 1, .int .i64 (-1), .int .i64 (-2)] 3) := ⟨_, rfl⟩
  have bwa : Hid (Below w4.heap.size w4 wa) := by rw [hwa]; exact below_alloc _
  have iwa : Hid (Is wa (.slice (some ⟨w4.heap.size, 0, none⟩) 4 4) [5, 1, -1, -2]) := by rw [hwa]; exact is_new w4 [5, 1, -1, -2] 3 (by decide) (by decide)
  go_wp2_with fail
  rw [← hwa]
  clear hwa hc0
  refine (sameRow13_any _ _ _ _ wa (HI1.out.kp (Kp.of_below bwa.out)) iwa.out).mono ?_
  rintro e w5 ⟨rfl, n5, hw5⟩
  have b5 := hid (drawn_below hw5)
  have E5 := hid (below_step bwa.out b5.out)
  clear hw5
  have hc1 := (Kp.of_below (below_step HG45.out E5.out)).cell _ _ HC1.out
  obtain ⟨wb, hwb⟩ : ∃ X, X = w5.alloc (.cells #[.int .i64 5, .int .i64 (-1), .int .i64 (-2)] 3) := ⟨_, rfl⟩
  have bwb : Hid (Below w5.heap.size w5 wb) := by rw [hwb]; exact below_alloc _
  have iwb : Hid (Is wb (.slice (some ⟨w5.heap.size, 0, none⟩) 3 3) [5, -1, -2]) := by rw [hwb]; exact is_new w5 [5, -1, -2] 3 (by decide) (by decide)
  go_wp2_with fail
  rw [← hwb]
  clear hwb hc1
  refine (sameRow13_any _ _ _ _ wb (HI2.out.kp (Kp.of_below (below_step E5.out bwb.out))) iwb.out).mono ?_
  rintro e w6 ⟨rfl, n6, hw6⟩
  have E6 := hid (below_step E5.out (below_step bwb.out (drawn_below hw6)))
  clear hw6
  obtain ⟨vaa, hvaa⟩ : ∃ X, X = w6.alloc (.cells #[.int .i64 5, .int .i64 1, .int .i64 (-1), .int .i64 0] 3) := ⟨_, rfl⟩
  have bvaa : Hid (Below w6.heap.size w6 vaa) := by rw [hvaa]; exact below_alloc _
  have ivaa : Hid (Is vaa (.slice (some ⟨w6.heap.size, 0, none⟩) 4 4) [5, 1, -1, 0]) := by rw [hvaa]; exact is_new w6 [5, 1, -1, 0] 3 (by decide) (by decide)
  obtain ⟨vab, hvab⟩ : ∃ X, X = vaa.alloc (.cells #[.int .i64 5, .int .i64 0, .int .i64 (-1)] 3) := ⟨_, rfl⟩
  have bvab : Hid (Below vaa.heap.size vaa vab) := by rw [hvab]; exact below_alloc _
  have ivab : Hid (Is vab (.slice (some ⟨vaa.heap.size, 0, none⟩) 3 3) [5, 0, -1]) := by rw [hvab]; exact is_new vaa [5, 0, -1] 3 (by decide) (by decide)
  have svaa : vaa.heap.size = w6.heap.size + 1 := by rw [hvaa, World.size_alloc]
  rw [svaa] at ivab
  clear svaa
  have Fva := hid (below_step E6.out (below_step bvaa.out bvab.out))
  obtain ⟨⟨x0, x1⟩, _⟩ := HS1.out w6 (below_step D4.out E6.out)
  obtain ⟨_, i0, i1, iT, _⟩ := HS1.out vab (below_step D4.out Fva.out)
  have Hva := hid (edge_any _ _ (.slice none 0 0) _ _ (.slice none 0 0) sumS [addR0, addR1] [] [5, 1, -1, 0] [5, 0, -1] [] vab i0 i1 (Row.nil (by simp [maxLen])) (ivaa.out.kp (Kp.of_below bvab.out)) ivab.out (Row.nil (by simp [maxLen])) iT (by simp) (by simp))
  clear i0 i1 iT
  go_wp2_with fail
  rw [← hvaa, ← hvab]
  clear hvaa hvab x0 x1
  refine Hva.out.mono ?_
  rintro e vaz ⟨rfl, hbva⟩
  rw [ex13_a]
  have Eva := hid (below_step Fva.out hbva)
  clear hbva
  obtain ⟨vba, hvba⟩ : ∃ X, X = vaz.alloc (.cells #[.int .i64 5, .int .i64 2, .int .i64 0, .int .i64 0, .int .i64 0] 3) := ⟨_, rfl⟩
  have bvba : Hid (Below vaz.heap.size vaz vba) := by rw [hvba]; exact below_alloc _
  have ivba : Hid (Is vba (.slice (some ⟨vaz.heap.size, 0, none⟩) 5 5) [5, 2, 0, 0, 0]) := by rw [hvba]; exact is_new vaz [5, 2, 0, 0, 0] 3 (by decide) (by decide)
  obtain ⟨vbb, hvbb⟩ : ∃ X, X = vba.alloc (.cells #[.int .i64 5, .int .i64 1, .int .i64 (-1), .int .i64 (-2)] 3) := ⟨_, rfl⟩
  have bvbb : Hid (Below vba.heap.size vba vbb) := by rw [hvbb]; exact below_alloc _
  have ivbb : Hid (Is vbb (.slice (some ⟨vba.heap.size, 0, none⟩) 4 4) [5, 1, -1, -2]) := by rw [hvbb]; exact is_new vba [5, 1, -1, -2] 3 (by decide) (by decide)
  have svba : vba.heap.size = vaz.heap.size + 1 := by rw [hvba, World.size_alloc]
  rw [svba] at ivbb
  clear svba
  have Fvb := hid (below_step Eva.out (below_step bvba.out bvbb.out))
  obtain ⟨⟨x0, x1⟩, _⟩ := HS1.out vaz (below_step D4.out Eva.out)
  obtain ⟨_, i0, i1, iT, _⟩ := HS1.out vbb (below_step D4.out Fvb.out)
  have Hvb := hid (edge_any _ _ (.slice none 0 0) _ _ (.slice none 0 0) sumS [addR0, addR1] [] [5, 2, 0, 0, 0] [5, 1, -1, -2] [] vbb i0 i1 (Row.nil (by simp [maxLen])) (ivba.out.kp (Kp.of_below bvbb.out)) ivbb.out (Row.nil (by simp [maxLen])) iT (by simp) (by simp))
  clear i0 i1 iT
  go_wp2_with fail
  rw [← hvba, ← hvbb]
  clear hvba hvbb x0 x1
  refine Hvb.out.mono ?_
  rintro e vbz ⟨rfl, hbvb⟩
  rw [ex13_b]
  have Evb := hid (below_step Fvb.out hbvb)
  clear hbvb
  have hu := (Kp.of_below Evb.out).cell _ _ HU.out
  have hcx := (Kp.of_below Evb.out).cell _ _ HCx.out
  obtain ⟨xo', xc', exo, _, _, q9⟩ := Row.flat (HX4.out.kp (Kp.of_below Evb.out))
  simp only [Value.slice.injEq] at exo
  obtain ⟨rfl, _, rfl⟩ := exo
  obtain ⟨xg, xoff, y, rfl, hy, _, _, _, q0, q1⟩ := q9 5 (by rw [show (extL sumS).length = 6 by kernel_rfl]; decide)
  rw [ex13_ext] at hy
  cases hy
  simp only at q0 q1
  clear q9
  go_wp2
  go_ret
  exact ⟨by first | rfl | simp, (HS1.out _ (below_step D4.out Evb.out)).2.2.2.2⟩

end Go.Proofs.YtoapgbaibpkckaaGreatDoor

/- The document's Of walked. -/
namespace Go.Proofs.YtoapgbaibpkckaaGreatDoor
open Go.RowKit Go.Maps Go.BigFrame

set_option maxRecDepth 100000 in
set_option maxHeartbeats 3200000 in
theorem refOf13_any (sv rv : Value) (sig : List Sy) (rs : List Rl) (w : World) (hs : Sg w sv sig) (hr : RU w rv rs) :
    Calls Tryz.prog 13 #[.agg #[sv, rv]] w fun e w' => ∃ v vs, e = .returned (.tuple #[v, .int .i64 (ofE13 sig rs)]) ∧ Pa13 w w' v vs (ofL13 sig rs) := by
  obtain ⟨so, sc, rfl, hso, hsc, _⟩ := Row.flat hs
  obtain ⟨ro, rc, rfl, hro, hrc, _⟩ := Row.flat hr
  unfold maxLen at hsc hrc
  have HS := hid hs
  have HR := hid hr
  clear hs hr
  obtain ⟨w0, hw0⟩ : ∃ X, X = w.alloc (.cells #[.slice so sig.length sc, .slice ro rs.length rc] 32) := ⟨_, rfl⟩
  have C0 : Hid (Below w.heap.size w w0) := by rw [hw0]; exact below_alloc _
  have HC : Hid (∀ W, Below w0.heap.size w0 W → W.cell? ⟨w.heap.size, 0, none⟩ = some (.slice so sig.length sc) ∧ W.cell? ⟨w.heap.size, 1, none⟩ = some (.slice ro rs.length rc)) := fun W hW => by
    have hk := Kp.of_below hW
    rw [hw0] at hk
    exact ⟨hk.cell _ _ (cell_new rfl), hk.cell _ _ (cell_new rfl)⟩
  have HCk := hid (refSysCheck_any _ _ sig rs w0 (HS.out.kp (Kp.of_below C0.out)) (HR.out.kp (Kp.of_below C0.out)))
  obtain ⟨x0, x1⟩ := HC.out w0 (Below.refl _ _)
  obtain ⟨E, hE⟩ : ∃ E, E = (sysE sig rs).1 := ⟨_, rfl⟩
  rw [← hE] at HCk
  have HE := hid hE
  clear hE
  go_enter Tryz.func13, Tryz.ntmps13
  go_upto_region 1 with fail
  rw [← hw0]
  clear hw0
  go_wp2_with fail
  refine HCk.out.mono ?_
  rintro e w1 ⟨rfl, hb1⟩
  have D1 := hid hb1
  have B1 := hid (below_step C0.out hb1)
  clear hb1 x0 x1
  obtain ⟨x0, x1⟩ := HC.out w1 D1.out
  by_cases h0 : E = 0
  · have hB : sysB sig rs = true := by unfold sysB; rw [decide_eq_true_eq, ← HE.out, h0]
    obtain ⟨D, hD⟩ : ∃ D, D = definedL sig rs := ⟨_, rfl⟩
    have HDf := hid (refDefined_any _ _ sig rs w1 (HS.out.kp (Kp.of_below B1.out)) (HR.out.kp (Kp.of_below B1.out)))
    have hofE : ofE13 sig rs = if 256 < (pairsL sig D rs).length then 2 else 0 := by unfold ofE13; rw [← HE.out, if_pos h0, hD]
    have hofL : ofE13 sig rs = 0 → ofL13 sig rs = pairsL sig D rs := fun h => by unfold ofL13; rw [if_pos h, hD]
    have hofN : ofE13 sig rs ≠ 0 → ofL13 sig rs = [] := fun h => by unfold ofL13; rw [if_neg h]
    rw [← hD] at HDf
    have HOE := hid hofE
    have HOL := hid hofL
    have HON := hid hofN
    have HRu : Hid (∀ r ∈ rs, ruleE sig r = 0) := (sys_right hB).2
    have hap := (ahead_parts (sys_right hB).1)
    have ha := sigE_ok hap.1
    have hsl := hap.2.1
    have HA := hid ha
    subst h0
    clear hofE hofL hofN hap hB ha hD
    go_wp2_with fail
    refine HDf.out.mono ?_
    rintro e w2 ⟨dv, rfl, hdv, hb2⟩
    have D2 := hid (below_step D1.out hb2)
    have B2 := hid (below_step B1.out hb2)
    obtain ⟨do', dc, rfl, _, _, _⟩ := Row.flat hdv
    have HI := hid fun (W : World) (c : Int) (hW : Below w2.heap.size w2 W) => refHas13_any _ D c W (hdv.kp (Kp.of_below hW))
    clear hb2 hdv x0 x1
    obtain ⟨x0, x1⟩ := HC.out w2 D2.out
    go_wp2
    go_loopw [8, 9] (fun lv iv wr => ∃ (k : Nat) (vs : List (Value × Value)) (L : List Rl), iv = .int .i64 k ∧ k ≤ rs.length ∧ L = pairsL sig D (rs.take k) ∧ Pa13 w2 wr lv vs L ∧ L.length ≤ 256) (fun _ iv _ => rs.length - (intOf iv).toNat)
    case atStart => exact ⟨0, [], [], rfl, Nat.zero_le _, rfl, Pa13.nil (Below.refl _ _), by simp⟩
    case round =>
      obtain ⟨k, vs, L, rfl, hk, hL, hpa, hle⟩ := hrel
      have HL := hid hL
      have HP := hid hpa
      have CB := hid (below_step B2.out hpa.bel)
      clear hL hpa x0 x1
      obtain ⟨y0, y1⟩ := HC.out wr (below_step D2.out HP.out.bel)
      by_cases hlt : k < rs.length
      · obtain ⟨g, off, l, r, a1, c1, a2, c2, rfl, hm, hc0, hc1, hi1, hi2, hl1, hl2⟩ := HR.out.at hlt
        have HC0 := hid hc0
        have hc1 := (Kp.of_below CB.out).cell _ _ hc1
        have hrp := rule_parts (HRu.out _ (List.mem_of_getElem? hm))
        have HI1 := hid hi1
        have HI2 := hid hi2
        obtain ⟨ao, cap, rfl, _, _⟩ := HP.out.shape
        have HRp := hid hrp
        have hat := pairsL_at (sig := sig) (D := D) hm
        rw [← HL.out] at hat
        have HAt := hid hat
        have hr9 : r.length ≤ 512 := hrp.2.2.2.1
        clear hm hi1 hi2 hrp hat hc0
        go_wp2
        go_loopw [8, 11] (fun lv jv wx => ∃ (j : Nat) (vs' : List (Value × Value)) (M : List Rl), jv = .int .i64 j ∧ j ≤ r.length ∧ M = L ++ pairsK sig D (l, r) j ∧ Pa13 w2 wx lv vs' M ∧ M.length ≤ 256) (fun _ jv _ => r.length - (intOf jv).toNat)
        case atStart => exact ⟨0, vs, L, rfl, Nat.zero_le _, by rw [show pairsK sig D (l, r) 0 = [] from rfl, List.append_nil], HP.out, hle⟩
        case round =>
          obtain ⟨j, vs', M, rfl, hj, hM, hpx, hlx⟩ := hrel
          have HM := hid hM
          have HX := hid hpx
          have CX := hid (below_step B2.out hpx.bel)
          obtain ⟨ax, cx, rfl, hax, hcx⟩ := HX.out.shape
          unfold maxLen at hcx
          clear hM hpx y0 y1 hc1
          by_cases hjl : j < r.length
          · obtain ⟨gr, orr, c, rfl, hc, hcx2, _, _⟩ := (HI2.out.kp (Kp.of_below CX.out)).at hjl
            obtain ⟨bD, hbD⟩ : ∃ bD, bD = decide (c ∈ D) := ⟨_, rfl⟩
            have HIc := hid (HI.out wr c HX.out.bel)
            rw [← hbD] at HIc
            have HBD := hid hbD
            have HCc := hid hc
            clear hc hbD
            go_wp2_with fail
            refine HIc.out.mono ?_
            rintro e wy ⟨rfl, hwy⟩
            have hwz := hwy.symm
            subst hwz
            clear hwy hcx2
            cases bD
            · have hno : c ∉ D := by have := HBD.out; simpa using this.symm
              have HN := hid (pairsK_no (sig := sig) (r := (l, r)) HCc.out hno)
              clear hno
              go_wp2
              go_roundw
              case rel => exact ⟨j + 1, vs', M, by go_num, by omega, by rw [HN.out]; exact HM.out, HX.out, hlx⟩
              case measure => simp only [intOf]; omega
            · have hye : c ∈ D := by have := HBD.out; simpa using this.symm
              have HN := hid (pairsK_yes (sig := sig) (r := (l, r)) HCc.out hye)
              clear hye
              by_cases hfu : M.length = 256
              · have HE2 : Hid (ofE13 sig rs = 2) := by
                  show _ = _
                  have h1 := HAt.out.2
                  have h2 := pairsK_mono (sig := sig) (D := D) (r := (l, r)) (k := j + 1) (n := r.length) (by omega)
                  have h3 := congrArg List.length HM.out
                  rw [HN.out, List.length_append] at h2
                  rw [List.length_append] at h3
                  simp only [List.length_singleton] at h2
                  rw [HOE.out, if_pos (by omega)]
                have hf1 : (((M.length : Nat) : Int) == 256) = true := by rw [hfu]; rfl
                go_wp2
                go_ret2
                exact ⟨.slice none 0 0, [], congrArg (fun x => Ending.returned (.tuple #[.slice none 0 0, .int .i64 x])) HE2.out.symm, by rw [HON.out (by rw [HE2.out]; decide)]; exact Pa13.nil CX.out⟩
              · have hf1 : (((M.length : Nat) : Int) == 256) = false := by rw [beq_eq_false_iff_ne]; omega
                -- R:of
                obtain ⟨q, hq1, hq2⟩ := part_here HRp.out.2.1 hjl
                obtain ⟨u, hu⟩ : ∃ X, X = (r.drop j).take (fstN sig (r.drop j)) := ⟨_, rfl⟩
                have hN := HN.out
                try dsimp only at hN hq1 hq2
                rw [← hu] at hq1 hq2 hN
                have htk : (r.take j).length = j := by rw [List.length_take]; omega
                have hdr : r.drop j = u ++ q := by have h9 := congrArg (List.drop j) hq1; rw [List.drop_left' htk] at h9; exact h9
                have hfn : firstT sig 1 0 (r.drop j) = ((u.length : Int), 0) := by rw [hdr]; exact first_right hq2 q
                have hul : j + u.length ≤ r.length := by have h9 := congrArg List.length hdr; rw [List.length_drop, List.length_append] at h9; omega
                have hu5 : u.length ≤ 512 := by omega
                have htu : (r.drop j).take u.length = u := by rw [hdr, List.take_left]
                have HM1 := hid fun (Z : World) (hZ : Below w.heap.size w Z) => refMarked13_any _ sig l Z (HI1.out.kp (Kp.of_below hZ)) (row_posS (term_parts HRp.out.1).2) (by have h9 : l.length ≤ 512 := HRp.out.2.2.1; omega) (fun c hc => by have := code_small HA.out (term_parts HRp.out.1).2 c hc; omega) (by omega)
                have HEn := hid fun (Z : World) (hZ : Below w.heap.size w Z) => refEnd_any _ _ sig r j u.length Z (HS.out.kp (Kp.of_below hZ)) (HI2.out.kp (Kp.of_below hZ)) HA.out (by omega) hfn
                have hrc2 : r.length ≤ c2 := by obtain ⟨_, _, e9, h9, _⟩ := Row.flat HI2.out; cases e9; exact h9
                have HM2 := hid fun (Z : World) (hZ : Below w.heap.size w Z) => refMarked13_any (.slice (some ⟨gr, orr + j, none⟩) u.length (c2 - j)) sig u Z (by have h9 := (HI2.out.kp (Kp.of_below hZ)).mid hjl hul; rw [htu] at h9; exact h9) (row_posS hq2) (by omega) (fun c hc => by have := code_small HA.out hq2 c hc; omega) (by omega)
                have HNu := hid hN
                have hck : ¬ c2 = j := by omega
                have hkc : j + u.length ≤ c2 := by omega
                have hkc2 : j ≤ j + u.length := by omega
                clear hN hq1 hq2 hu htk hdr hfn htu HN
                have hK0 : ∀ {Z : World}, Below w2.heap.size w2 Z → ((Z.cell? ⟨w.heap.size, 0, none⟩ = some (.slice so sig.length sc) ∧ Z.cell? ⟨w.heap.size, 1, none⟩ = some (.slice (some ⟨g, off, none⟩) rs.length rc)) ∧ Z.cell? ⟨g, off + k * 2, none⟩ = some (.slice a1 l.length c1)) := fun hZ => ⟨HC.out _ (below_step D2.out hZ), (Kp.of_below (below_step B2.out hZ)).cell _ _ HC0.out⟩
                go_upto_region 17 with fail
                have hS := hK0 (below_step HX.out.bel (drawn_below1 wr))
                refine wp_region_held_drew (S := fun w' => ((w'.cell? ⟨w.heap.size, 0, none⟩ = some (.slice so sig.length sc) ∧ w'.cell? ⟨w.heap.size, 1, none⟩ = some (.slice (some ⟨g, off, none⟩) rs.length rc)) ∧ w'.cell? ⟨g, off + k * 2, none⟩ = some (.slice a1 l.length c1))) (by kernel_rfl) hS (fun _ => ?_)
                obtain ⟨z0, hz0⟩ : ∃ X, X = wr.drew := ⟨_, rfl⟩
                have b0 : Below wr.heap.size wr z0 := by rw [hz0]; exact drawn_below1 _
                rw [← hz0] at hS ⊢
                clear hz0
                refine wpAnyH_take (i := 0) (v := .slice ax M.length cx) rfl (by kernel_rfl) (by kernel_rfl) (by kernel_rfl) (fun _ _ _ h => h) (Or.inl ⟨by kernel_rfl, fun w' h => by go_simp⟩) hS ?_
                (try simp only [Act.put]); (try simp only [List.setIfInBounds_toArray]); (try simp only [List.set_cons_zero, List.set_cons_succ])
                refine wpAnyH_take (i := 1) (v := .pointer (some ⟨w.heap.size, 1, none⟩)) rfl (by kernel_rfl) (by kernel_rfl) (by kernel_rfl) (fun _ _ _ h => h) (Or.inl ⟨by kernel_rfl, fun w' h => by go_simp⟩) hS ?_
                (try simp only [Act.put]); (try simp only [List.setIfInBounds_toArray]); (try simp only [List.set_cons_zero, List.set_cons_succ])
                refine wpAnyH_take (i := 2) (v := .slice (some ⟨g, off, none⟩) rs.length rc) rfl (by kernel_rfl) (by kernel_rfl) (by kernel_rfl) (fun _ _ _ h => h) (Or.inl ⟨by kernel_rfl, fun w' h => by have hh0 := h.1.2; go_simp⟩) hS ?_
                (try simp only [Act.put]); (try simp only [List.setIfInBounds_toArray]); (try simp only [List.set_cons_zero, List.set_cons_succ])
                refine wpAnyH_take (i := 3) (v := .int .i64 (k : Int)) rfl (by kernel_rfl) (by kernel_rfl) (by kernel_rfl) (fun _ _ _ h => h) (Or.inl ⟨by kernel_rfl, fun w' h => by go_simp⟩) hS ?_
                (try simp only [Act.put]); (try simp only [List.setIfInBounds_toArray]); (try simp only [List.set_cons_zero, List.set_cons_succ])
                refine wpAnyH_take (i := 4) (v := .pointer (some ⟨g, off + k * 2, none⟩)) rfl (by kernel_rfl) (by kernel_rfl) (by kernel_rfl) (fun _ _ _ h => h) (Or.inl ⟨by kernel_rfl, fun w' h => by go_simp⟩) hS ?_
                (try simp only [Act.put]); (try simp only [List.setIfInBounds_toArray]); (try simp only [List.set_cons_zero, List.set_cons_succ])
                refine wpAnyH_take (i := 5) (v := .pointer (some ⟨g, off + k * 2, none⟩)) rfl (by kernel_rfl) (by kernel_rfl) (by kernel_rfl) (fun _ _ _ h => h) (Or.inl ⟨by kernel_rfl, fun w' h => by go_simp⟩) hS ?_
                (try simp only [Act.put]); (try simp only [List.setIfInBounds_toArray]); (try simp only [List.set_cons_zero, List.set_cons_succ])
                refine wpAnyH_take (i := 6) (v := .slice a1 l.length c1) rfl (by kernel_rfl) (by kernel_rfl) (by kernel_rfl) (fun _ _ _ h => h) (Or.inl ⟨by kernel_rfl, fun w' h => by have hh0 := h.2; go_simp⟩) hS ?_
                (try simp only [Act.put]); (try simp only [List.setIfInBounds_toArray]); (try simp only [List.set_cons_zero, List.set_cons_succ])
                refine wpAnyH_take (i := 7) (v := .int .i64 (sig.length : Int)) rfl (by kernel_rfl) (by kernel_rfl) (by kernel_rfl) (fun _ _ _ h => h) (Or.inl ⟨by kernel_rfl, fun w' h => by go_simp⟩) hS ?_
                (try simp only [Act.put]); (try simp only [List.setIfInBounds_toArray]); (try simp only [List.set_cons_zero, List.set_cons_succ])
                refine wpAnyH_take (i := 9) (v := .slice (some ⟨gr, orr, none⟩) r.length c2) rfl (by kernel_rfl) (by kernel_rfl) (by kernel_rfl) (fun _ _ _ h => h) (Or.inl ⟨by kernel_rfl, fun w' h => by go_simp⟩) hS ?_
                (try simp only [Act.put]); (try simp only [List.setIfInBounds_toArray]); (try simp only [List.set_cons_zero, List.set_cons_succ])
                refine wpAnyH_take (i := 10) (v := .int .i64 (j : Int)) rfl (by kernel_rfl) (by kernel_rfl) (by kernel_rfl) (fun _ _ _ h => h) (Or.inl ⟨by kernel_rfl, fun w' h => by go_simp⟩) hS ?_
                (try simp only [Act.put]); (try simp only [List.setIfInBounds_toArray]); (try simp only [List.set_cons_zero, List.set_cons_succ])
                refine wpAnyH_take (i := 11) (v := .pointer (some ⟨w.heap.size, 0, none⟩)) rfl (by kernel_rfl) (by kernel_rfl) (by kernel_rfl) (fun _ _ _ h => h) (Or.inl ⟨by kernel_rfl, fun w' h => by go_simp⟩) hS ?_
                (try simp only [Act.put]); (try simp only [List.setIfInBounds_toArray]); (try simp only [List.set_cons_zero, List.set_cons_succ])
                refine wpAnyH_take (i := 12) (v := .slice so sig.length sc) rfl (by kernel_rfl) (by kernel_rfl) (by kernel_rfl) (fun _ _ _ h => h) (Or.inl ⟨by kernel_rfl, fun w' h => by have hh0 := h.1.1; go_simp⟩) hS ?_
                (try simp only [Act.put]); (try simp only [List.setIfInBounds_toArray]); (try simp only [List.set_cons_zero, List.set_cons_succ])
                refine wpAnyH_take (i := 13) (v := .slice (some ⟨gr, orr, none⟩) r.length c2) rfl (by kernel_rfl) (by kernel_rfl) (by kernel_rfl) (fun _ _ _ h => h) (Or.inl ⟨by kernel_rfl, fun w' h => by go_simp⟩) hS ?_
                (try simp only [Act.put]); (try simp only [List.setIfInBounds_toArray]); (try simp only [List.set_cons_zero, List.set_cons_succ])
                refine wpAnyH_take (i := 14) (v := .int .i64 (j : Int)) rfl (by kernel_rfl) (by kernel_rfl) (by kernel_rfl) (fun _ _ _ h => h) (Or.inl ⟨by kernel_rfl, fun w' h => by go_simp⟩) hS ?_
                (try simp only [Act.put]); (try simp only [List.setIfInBounds_toArray]); (try simp only [List.set_cons_zero, List.set_cons_succ])
                refine wpAnyH_take (i := 17) (v := .int .i64 (sig.length : Int)) rfl (by kernel_rfl) (by kernel_rfl) (by kernel_rfl) (fun _ _ _ h => h) (Or.inl ⟨by kernel_rfl, fun w' h => by go_simp⟩) hS ?_
                (try simp only [Act.put]); (try simp only [List.setIfInBounds_toArray]); (try simp only [List.set_cons_zero, List.set_cons_succ])
                refine wpAnyH_ready (rs := [8]) (by kernel_rfl) (by simp) (AllReadyH.cons rfl (fun K hK => ?_) AllReadyH.nil)
                go_simp
                refine (HM1.out z0 (below_step CX.out b0)).mono ?_
                rintro e z1 ⟨u1, rfl, o1, hb1⟩
                have b1 := below_step b0 hb1
                have k1 := hK0 (below_step HX.out.bel b1)
                refine hK.out _ _ k1 (fun _ => ?_)
                clear hK K hS
                have hS := k1
                clear k1
                (try simp only [Act.put]); (try simp only [List.setIfInBounds_toArray]); (try simp only [List.set_cons_zero, List.set_cons_succ])
                refine wpAnyH_ready (rs := [15]) (by kernel_rfl) (by simp) (AllReadyH.cons rfl (fun K hK => ?_) AllReadyH.nil)
                go_simp
                refine (HEn.out z1 (below_step CX.out b1)).mono ?_
                rintro e z9 ⟨rfl, hz9⟩
                have hz8 := hz9.symm
                subst hz8
                clear hz9
                have k5 := hS
                refine hK.out _ _ k5 (fun _ => ?_)
                clear hK K hS
                have hS := k5
                clear k5
                (try simp only [Act.put]); (try simp only [List.setIfInBounds_toArray]); (try simp only [List.set_cons_zero, List.set_cons_succ])
                refine wpAnyH_take (i := 16) (v := .slice (some ⟨gr, orr + j, none⟩) u.length (c2 - j)) rfl (by kernel_rfl) (by kernel_rfl) (by kernel_rfl) (fun _ _ _ h => h) (Or.inl ⟨by kernel_rfl, fun w' h => by go_simp; rw [if_pos (by omega), if_pos (by omega), show ((j : Int) + (u.length : Int)).toNat - j = u.length by omega]⟩) hS ?_
                (try simp only [Act.put]); (try simp only [List.setIfInBounds_toArray]); (try simp only [List.set_cons_zero, List.set_cons_succ])
                refine wpAnyH_ready (rs := [18]) (by kernel_rfl) (by simp) (AllReadyH.cons rfl (fun K hK => ?_) AllReadyH.nil)
                go_simp
                refine (HM2.out z1 (below_step CX.out b1)).mono ?_
                rintro e z2 ⟨u2, rfl, o2, hb2⟩
                have b2 := below_step b1 hb2
                have k2 := hK0 (below_step HX.out.bel b2)
                refine hK.out _ _ k2 (fun _ => ?_)
                clear hK K hS
                have hS := k2
                clear k2
                (try simp only [Act.put]); (try simp only [List.setIfInBounds_toArray]); (try simp only [List.set_cons_zero, List.set_cons_succ])
                obtain ⟨s1, d1, rfl, _, _⟩ := o1.shape
                obtain ⟨s2, d2, rfl, _, _⟩ := o2.shape
                refine wpAnyH_take (i := 19) (v := .agg #[.slice s1 (mkL sig l).length d1, .slice s2 (mkL sig u).length d2]) rfl (by kernel_rfl) (by kernel_rfl) (by kernel_rfl) (fun _ _ _ h => h) (Or.inl ⟨by kernel_rfl, fun w' h => by go_simp⟩) hS ?_
                (try simp only [Act.put]); (try simp only [List.setIfInBounds_toArray]); (try simp only [List.set_cons_zero, List.set_cons_succ])
                obtain ⟨lv4, z4, hr4, hp4, hg4, hn4⟩ := (HX.out.later b0).push 30 hb1 o1 hb2 o2 (by omega)
                have b3 := below_step b2 (below_alloc (.cells #[.slice s1 (mkL sig l).length d1, .slice s2 (mkL sig u).length d2] 38))
                have k4 := hK0 hp4.bel
                have hlM : (M ++ [(mkL sig l, mkL sig u)]).length ≤ 256 := by rw [List.length_append, List.length_singleton]; omega
                have HR4 := hid hr4
                have HP4 := hid hp4
                have HL4 := hid hlM
                clear hr4 hp4 hg4 hn4 hlM
                refine wpAnyH_ready (rs := [20]) (by kernel_rfl) (by simp) (AllReadyH.cons rfl (fun K hK => ?_) AllReadyH.nil)
                go_simp
                have k3 := hK0 (below_step HX.out.bel b3)
                refine hK.out _ _ k3 (fun _ => ?_)
                clear hK K hS
                have hS := k3
                clear k3
                (try simp only [Act.put]); (try simp only [List.setIfInBounds_toArray]); (try simp only [List.set_cons_zero, List.set_cons_succ])
                refine wpAnyH_ready (rs := [21]) (by kernel_rfl) (by simp) (AllReadyH.cons rfl (fun K hK => ?_) AllReadyH.nil)
                refine step_append13 (by kernel_rfl) _ _ 30 rfl _ _ rfl rfl HR4.out ?_
                refine hK.out _ _ k4 (fun _ => ?_)
                clear hK K hS
                have hS := k4
                clear k4
                (try simp only [Act.put]); (try simp only [List.setIfInBounds_toArray]); (try simp only [List.set_cons_zero, List.set_cons_succ])
                refine wpAnyH_take (i := 22) (v := lv4) rfl (by kernel_rfl) (by kernel_rfl) (by kernel_rfl) (fun _ _ _ h => h) (Or.inl ⟨by kernel_rfl, fun w' h => by go_simp⟩) hS ?_
                (try simp only [Act.put]); (try simp only [List.setIfInBounds_toArray]); (try simp only [List.set_cons_zero, List.set_cons_succ])
                refine wpAnyH_done (by kernel_rfl) ?_ _
                (try simp only [Act.put]); (try simp only [List.getElem_toArray]); (try simp only [List.getElem_cons_succ, List.getElem_cons_zero]); (try simp only [List.setIfInBounds_toArray]); (try simp only [List.set_cons_succ, List.set_cons_zero])
                clear hS
                go_wp2
                go_roundw
                case rel => exact ⟨j + 1, _, _, by go_num, by omega, by rw [HNu.out, HM.out, List.append_assoc], HP4.out, HL4.out⟩
                case measure => simp only [intOf]; omega
                -- E:of
          · have hjr : j = r.length := by omega
            have hdj : decide ((j : Int) < (r.length : Int)) = false := by rw [decide_eq_false_iff_not]; omega
            have HMn : Hid (M = pairsL sig D (rs.take (k + 1))) := by
              show _ = _
              rw [HAt.out.1, HM.out, hjr]
            clear hjr
            go_wp2
            go_roundw
            case rel => exact ⟨k + 1, vs', M, by go_num, by omega, HMn.out, HX.out, hlx⟩
            case measure => simp only [intOf]; omega
      · have hkr : k = rs.length := by omega
        have hdk : decide ((k : Int) < (rs.length : Int)) = false := by rw [decide_eq_false_iff_not]; omega
        have hLr := HL.out
        rw [hkr, List.take_length] at hLr
        have HE0 : Hid (ofE13 sig rs = 0) := by
          show _ = _
          rw [HOE.out, ← hLr, if_neg (by omega)]
        have HLr : Hid (ofL13 sig rs = L) := by
          show _ = _
          rw [HOL.out HE0.out, hLr]
        have HPm := hid (HP.out.mono B2.out)
        obtain ⟨ao, cap, rfl, _, _⟩ := HP.out.shape
        clear hkr hLr
        go_wp2
        go_ret2
        exact ⟨.slice ao L.length cap, vs, congrArg (fun x => Ending.returned (.tuple #[.slice ao L.length cap, .int .i64 x])) HE0.out.symm, by rw [HLr.out]; exact HPm.out⟩
  · have hne : (E != 0) = true := by rw [bne_iff_ne]; exact h0
    have HEe : Hid (ofE13 sig rs = E) := by
      show _ = _
      unfold ofE13
      rw [← HE.out, if_neg h0]
    have HLe : Hid (ofL13 sig rs = []) := by
      show _ = _
      unfold ofL13
      rw [HEe.out, if_neg h0]
    clear h0
    go_wp2
    go_ret2
    exact ⟨.slice none 0 0, [], congrArg (fun x => Ending.returned (.tuple #[.slice none 0 0, .int .i64 x])) HEe.out.symm, by rw [HLe.out]; exact Pa13.nil B1.out⟩

end Go.Proofs.YtoapgbaibpkckaaGreatDoor
