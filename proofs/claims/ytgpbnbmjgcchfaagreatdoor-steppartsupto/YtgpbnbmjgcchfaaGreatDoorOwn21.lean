/- StepParts walked. -/
import Derived.Test.YtgpbnbmjgcchfaaGreatDoorOwn20
namespace Go.Proofs.YtgpbnbmjgcchfaaGreatDoor
open Go.RowKit Go.Maps Go.BigFrame

set_option maxRecDepth 100000 in
set_option maxHeartbeats 6400000 in
theorem stepParts_any (sv rv tv : Value) (s : List Sy) (a : List Rl) (t : List Int) (w : World) (hs : Sg w sv s) (ha : RU w rv a) (ht : Is w tv t) (hT : Tabs w) (htl : t.length ≤ 1048576) :
    Calls Tryz.prog 3 #[.agg #[sv, rv], tv] w fun e w' => e = .returned (.bool true) ∧ Below w.heap.size w w' := by
  obtain ⟨so, sc, rfl, hso, hsc, _⟩ := Row.flat hs
  obtain ⟨ao, ac, rfl, hao, hac, _⟩ := Row.flat ha
  have HS := hid hs
  have HA := hid ha
  have HTt := hid ht
  have HT := hid hT
  clear hs ha ht hT
  obtain ⟨wA, hwA⟩ : ∃ X, X = w.alloc (.cells #[.slice so s.length sc, .slice ao a.length ac] 25) := ⟨_, rfl⟩
  have CA : Hid (Below w.heap.size w wA) := by rw [hwA]; exact below_alloc _
  have HC : Hid (∀ W, Below wA.heap.size wA W → W.cell? ⟨w.heap.size, 0, none⟩ = some (.slice so s.length sc) ∧ W.cell? ⟨w.heap.size, 1, none⟩ = some (.slice ao a.length ac)) := fun W hW => by
    have hk := Kp.of_below hW
    rw [hwA] at hk
    exact ⟨hk.cell _ _ (cell_new rfl), hk.cell _ _ (cell_new rfl)⟩
  have HAll : Hid (∀ W (v : Value) (u : List Int), Below w.heap.size w W → Is W v u → u.length ≤ 1048576 → Calls Tryz.prog 9 #[.agg #[.slice so s.length sc, .slice ao a.length ac], v] W fun e w' => ∃ v', e = .returned v' ∧ OX w' W.heap.size v' (allR s a u) ∧ Below W.heap.size W w') := fun W v u hW hv hu =>
    all_any _ _ _ s a u W (HS.out.kp (Kp.of_below hW)) (HA.out.kp (Kp.of_below hW)) hv (HT.out.below hW) hu
  have HDo : Hid (∀ W (v : Value) (u : List Int) (p k : Int), Below w.heap.size w W → Is W v u → u.length ≤ 1048576 → ((-9223372036854775808 ≤ p ∧ p ≤ 9223372036854775807) ∧ -9223372036854775808 ≤ k ∧ k ≤ 9223372036854775807) → Calls Tryz.prog 12 #[.agg #[.slice so s.length sc, .slice ao a.length ac], v, .agg #[.int .i64 p, .int .i64 k]] W fun e w' => ∃ v', e = .returned (.tuple #[v', .int .i64 (doR s a u p k).2]) ∧ OwI w' W.heap.size v' (doR s a u p k).1 ∧ Below W.heap.size W w') := fun W v u p k hW hv hu hb =>
    do_any _ _ _ s a u p k W (HS.out.kp (Kp.of_below hW)) (HA.out.kp (Kp.of_below hW)) hv (HT.out.below hW) hu hb.1.1 hb.1.2 hb.2.1 hb.2.2
  go_enter Tryz.func3, Tryz.ntmps3
  go_wp2_with fail
  rw [← hwA]
  clear hwA
  refine (shown8_any wA (HT.out.below CA.out)).mono ?_
  rintro e w1 ⟨rfl, hb1⟩
  have D1 := hid hb1
  have C1 := hid (below_step CA.out hb1)
  clear hb1
  obtain ⟨x0, x1⟩ := HC.out w1 D1.out
  go_wp2_with fail
  refine (lawRight8_any _ _ _ s a t w1 (HS.out.kp (Kp.of_below C1.out)) (HA.out.kp (Kp.of_below C1.out)) (HTt.out.kp (Kp.of_below C1.out)) htl).mono ?_
  rintro e w2 ⟨rfl, hb2⟩
  have D2 := hid (below_step D1.out hb2)
  have C2 := hid (below_step C1.out hb2)
  clear hb2 x0 x1
  obtain ⟨x0, x1⟩ := HC.out w2 D2.out
  by_cases he : stepE s a t = 0
  · rw [decide_eq_true he]
    go_wp2_with fail
    refine (HAll.out w2 tv t C2.out (HTt.out.kp (Kp.of_below C2.out)) htl).mono ?_
    rintro e w3 ⟨v3, rfl, o3, hb3⟩
    rw [allR_of he] at o3
    obtain ⟨c, us, hte, hus, hpl, hkd⟩ := root_split (stepE_zero he).2
    have hal : allL s a t = redL s t 0 0 a ++ allP s a 1 us := by
      have ht9 := (stepE_zero he).2
      rw [hte] at ht9 ⊢
      exact all_root ht9 hus
    obtain ⟨L, hL⟩ : ∃ L, L = allL s a t := ⟨_, rfl⟩
    obtain ⟨R0, hR0⟩ : ∃ R0, R0 = redL s t 0 0 a := ⟨_, rfl⟩
    have HK0 : Hid (∀ (n : Nat) (y : Rx), R0[n]? = some y → y.1 = 0) := fun n y hy => by
      have h9 := List.mem_of_getElem? hy
      rw [hR0] at h9
      exact redL_key a 0 y h9
    rw [← hL] at o3
    have HLe : Hid (L = R0 ++ allP s a 1 us) := by show _ = _; rw [hL, hR0]; exact hal
    have HLl : Hid (L.length = R0.length + (allP s a 1 us).length) := by show _ = _; rw [HLe.out, List.length_append]
    have HLt := hid hL
    have HE := hid he
    have HTe := hid hte
    have HUs := hid hus
    have HKd := hid hkd
    have HOk := hid o3.1
    have HO3 := hid o3.xs
    have D3 := hid (below_step D2.out hb3)
    have C3 := hid (below_step C2.out hb3)
    obtain ⟨lo, lc, hv3, hlc1, hlc2⟩ := o3.shape
    subst hv3
    unfold maxLen at hlc2
    have hsum : R0.length ≤ L.length := by have := HLl.out; omega
    clear he o3 hb3 hte hus hal hkd hL hR0 x0 x1
    go_wp2
    go_loopw [7] (fun nv wr => ∃ n : Nat, n ≤ R0.length ∧ nv = .int .i64 n ∧ wr = w3) (fun nv _ => R0.length - (intOf nv).toNat)
    case atStart => exact ⟨0, Nat.zero_le _, rfl, rfl⟩
    case round =>
      obtain ⟨n, hn, rfl, hw⟩ := hrel
      have hw8 := hw.symm
      subst hw8
      clear hw
      by_cases hlt : n < R0.length
      · have hd : decide ((n : Int) < (L.length : Int)) = true := by simpa using (show n < L.length by omega)
        obtain ⟨g, off, p, k, rfl, hx, hc0, hc1⟩ := HO3.out.at (k := n) (by omega)
        have hp0 : p = 0 := by
          have h9 := hx
          rw [HLe.out, List.getElem?_append_left hlt] at h9
          exact HK0.out n _ h9
        subst hp0
        clear hx hc1
        have hp0 : ((0 : Int) == 0) = true := rfl
        have hnl : n < L.length := by omega
        go_wp2
        go_roundw
        case rel => exact ⟨n + 1, by omega, by go_num, by trivial⟩
        case measure => simp [intOf]; omega
      · obtain rfl : n = R0.length := by omega
        go_upto_region 8 with fail
        go_cut [50] from 39 to 50 (fun x wx => x = .bool false ∧ wx = w3)
        case first =>
          by_cases h9 : R0.length < L.length
          · have hd : decide ((R0.length : Int) < (L.length : Int)) = true := by simpa using h9
            obtain ⟨g, off, p, k, rfl, hx, hc0, hc1⟩ := HO3.out.at (k := R0.length) h9
            have hp0 : (p == 0) = false := by
              rw [beq_eq_false_iff_ne]
              rintro rfl
              rw [HLe.out, List.getElem?_append_right (Nat.le_refl _)] at hx
              have := allP_key us 1 _ (List.mem_of_getElem? hx)
              simp only at this
              omega
            clear hx hc1
            go_wp2
            go_meet
            case rel => exact ⟨rfl, rfl⟩
          · have hd : decide ((R0.length : Int) < (L.length : Int)) = false := by simpa using (show ¬ (R0.length : Int) < (L.length : Int) by omega)
            go_wp2
            go_meet
            case rel => exact ⟨rfl, rfl⟩
        obtain ⟨rfl, hw⟩ := hcut
        have hw8 := hw.symm
        subst hw8
        clear hw
        obtain ⟨x0, x1⟩ := HC.out w3 D3.out
        have HKi := hid (kids_any _ _ s t 0 w3 (HS.out.kp (Kp.of_below C3.out)) (HTt.out.kp (Kp.of_below C3.out)) (HT.out.below C3.out) (by omega) (by omega) (by omega))
        go_wp2_with fail
        refine HKi.out.mono ?_
        rintro e w4 ⟨v4, rfl, o4, hb4⟩
        rw [hpl]
        rw [HKd.out] at o4
        have HO4 := hid o4.is
        have D4 := hid (below_step D3.out hb4)
        have C4 := hid (below_step C3.out hb4)
        have HL4 := hid (HO3.out.kp (Kp.of_below hb4))
        obtain ⟨ko, kc, hv4, hkc1, hkc2⟩ := o4.shape
        rw [places_len, List.length_map] at hv4 hkc1
        subst hv4
        unfold maxLen at hkc2
        clear o4 hb4 HKi x0 x1 HO3
        go_wp2
        go_loopw [7, 10] (fun nv iv wr => ∃ i : Nat, i ≤ us.length ∧ iv = .int .i64 i ∧ nv = .int .i64 ((R0.length + (allP s a 1 (us.take i)).length : Nat) : Int) ∧ Below w4.heap.size w4 wr) (fun _ iv _ => us.length - (intOf iv).toNat)
        case atStart => exact ⟨0, Nat.zero_le _, rfl, by simp [allP], Below.refl _ _⟩
        case round =>
          obtain ⟨i, hi, rfl, rfl, hbr⟩ := hrel
          have Cr := hid (below_step C4.out hbr)
          have Dr := hid (below_step D4.out hbr)
          have HBr := hid hbr
          clear hbr
          by_cases hlt : i < us.length
          · have hdi : decide ((i : Int) < (us.length : Int)) = true := by simpa using hlt
            obtain ⟨u, hu⟩ : ∃ u, us[i]? = some u := ⟨_, List.getElem?_eq_getElem hlt⟩
            obtain ⟨o, ho⟩ : ∃ o, o = 1 + (us.take i).flatten.length := ⟨_, rfl⟩
            obtain ⟨N, hN⟩ : ∃ N, N = R0.length + (allP s a 1 (us.take i)).length := ⟨_, rfl⟩
            have hur := HUs.out u (List.mem_of_getElem? hu)
            have hte2 : t = (c :: (us.take i).flatten) ++ (u ++ (us.drop (i + 1)).flatten) := by
              rw [HTe.out, flat_split8 hu]
              simp
            have hop : (c :: (us.take i).flatten).length = o := by rw [ho, List.length_cons, Nat.add_comm]
            have htt := (stepE_zero HE.out).2
            obtain ⟨hp1, hp2⟩ := sub_at htt hur hte2
            rw [hop] at hp1 hp2
            have heu := stepE_of HE.out hur
            have hul : u.length ≤ 1048576 ∧ o + u.length ≤ 1048576 := by
              have h9 := congrArg List.length hte2
              rw [List.length_append, List.length_append, hop] at h9
              omega
            obtain ⟨P1, P2⟩ := allP_at (sig := s) (rs := a) 1 hu
            rw [← ho] at P1 P2
            have HAt : Hid (∀ (k : Nat) (z : Rx), (allL s a u)[k]? = some z → L[N + k]? = some (z.1 + (o : Int), z.2)) := fun k z hz => by
              have hk := (List.getElem?_eq_some_iff.1 hz).1
              rw [HLe.out, P1, hN, List.getElem?_append_right (by omega), show R0.length + (allP s a 1 (us.take i)).length + k - R0.length = (allP s a 1 (us.take i)).length + k by omega, List.getElem?_append_right (by omega), Nat.add_sub_cancel_left, List.getElem?_append_left (by rw [List.length_map]; exact hk), List.getElem?_map, hz]
              rfl
            have HNx : Hid (R0.length + (allP s a 1 (us.take (i + 1))).length = N + (allL s a u).length) := by
              show _ = _
              rw [P2, List.length_append, List.length_map, hN]
              omega
            have HPart : Hid (∀ z ∈ allL s a u, ((doR s a u z.1 z.2).2 = 0 ∧ doR s a t (z.1 + (o : Int)) z.2 = (replL s t o (doR s a u z.1 z.2).1, replE s t o (doR s a u z.1 z.2).1)) ∨ ((doR s a u z.1 z.2).2 = 2 ∧ (doR s a t (z.1 + (o : Int)) z.2).2 = 2)) := fun z hz => by
              have h9 := do_part HE.out hur hte2 hz
              rw [hop] at h9
              exact h9
            have hNl : N + (allL s a u).length ≤ L.length := by
              have h9 := congrArg List.length P1
              have h8 := HLl.out
              rw [List.length_append, List.length_append, List.length_map] at h9
              omega
            obtain ⟨kg, koff, kx, hko, hk1, hk2⟩ : ∃ (kg koff : Nat) (kx : Int), ko = some ⟨kg, koff, none⟩ ∧ (places 1 (us.map List.length))[i]? = some kx ∧ wr.cell? ⟨kg, koff + i, none⟩ = some (.int .i64 kx) := by
              have h9 := HO4.out.kp (Kp.of_below HBr.out)
              have h8 : Is wr (.slice ko (places 1 (us.map List.length)).length kc) (places 1 (us.map List.length)) := by rw [places_len, List.length_map]; exact h9
              obtain ⟨g, off, x, e1, e2, e3, _⟩ := h8.at (k := i) (by rw [places_len, List.length_map]; exact hlt)
              exact ⟨g, off, x, e1, e2, e3⟩
            rw [places_at us 1 i hlt, ← ho] at hk1
            simp only [Option.some.injEq] at hk1
            subst hk1 hko
            rw [← hN]
            clear hte2 hop htt P1 P2 hu ho hN
            obtain ⟨x0, x1⟩ := HC.out wr Dr.out
            have HCl := hid (sub_any _ tv s t (o : Int) wr.drew (HS.out.kp (Kp.of_below (below_step Cr.out (drawn_below1 _)))) (HTt.out.kp (Kp.of_below (below_step Cr.out (drawn_below1 _)))) (HT.out.below (below_step Cr.out (drawn_below1 _))) (by omega) (by omega) (by omega))
            rw [hp1, hp2] at HCl
            clear hp1 hp2
            go_upto_region 16 with fail
            go_cut [11, 12] from 68 to 78 (fun x y wx => y = .int .i64 0 ∧ Is wx x u ∧ Below wr.heap.size wr wx)
            case first =>
              go_region_with (first
                | (refine HCl.out.mono ?_; rintro e w5 ⟨v5, rfl, o5, hb5⟩; have HO5 := hid o5.is; have J5 := hid (below_step (Below.refl _ _).drew hb5); clear o5 hb5))
              all_goals (
                simp only [Act.put, List.getElem_toArray, List.getElem_cons_succ, List.getElem_cons_zero, List.setIfInBounds_toArray, List.set_cons_succ, List.set_cons_zero]
                go_wp2
                go_meet
                case rel => exact ⟨rfl, HO5.out, J5.out⟩)
            obtain ⟨rfl, ho5, hj5⟩ := hcut
            obtain ⟨w5, hw5⟩ : ∃ W, W = wc := ⟨_, rfl⟩
            rw [← hw5] at ho5 hj5 ⊢
            clear hw5 HCl x0 x1
            have HO5 := hid ho5
            have J5 := hid hj5
            have C5 := hid (below_step Cr.out hj5)
            have D5 := hid (below_step Dr.out hj5)
            have hk2 := (Kp.of_below hj5).cell _ _ hk2
            obtain ⟨uo, uc, hv5, _⟩ := ho5.flatI
            subst hv5
            clear ho5 hj5
            obtain ⟨x0, x1⟩ := HC.out w5 D5.out
            go_wp2_with fail
            refine (HAll.out w5 _ u C5.out HO5.out hul.1).mono ?_
            rintro e w6 ⟨v6, rfl, o6, hb6⟩
            rw [allR_of heu] at o6
            obtain ⟨m, hm⟩ : ∃ m, m = allL s a u := ⟨_, rfl⟩
            rw [← hm] at o6 HAt HNx HPart hNl
            have HMe := hid hm
            have HO6 := hid o6.xs
            have HOk6 := hid o6.1
            have C6 := hid (below_step C5.out hb6)
            have D6 := hid (below_step D5.out hb6)
            have B6 := hid (below_step (below_step HBr.out J5.out) hb6)
            have HU6 := hid (HO5.out.kp (Kp.of_below hb6))
            have hk2 := (Kp.of_below hb6).cell _ _ hk2
            obtain ⟨mo, mc, hv6, hmc1, hmc2⟩ := o6.shape
            subst hv6
            unfold maxLen at hmc2
            clear o6 hb6 x0 x1 hm heu HO5
            go_wp2
            go_loopw [7, 14] (fun nv kv wr => ∃ k q : Nat, k ≤ m.length ∧ kv = .int .i64 k ∧ nv = .int .i64 (q : Int) ∧ q = N + k ∧ Below w6.heap.size w6 wr) (fun _ kv _ => m.length - (intOf kv).toNat)
            case atStart => exact ⟨0, N, Nat.zero_le _, rfl, rfl, rfl, Below.refl _ _⟩
            case round =>
              obtain ⟨k, q, hk, rfl, rfl, hq, hbx⟩ := hrel
              have HQ := hid hq
              have Cx := hid (below_step C6.out hbx)
              have Dx := hid (below_step D6.out hbx)
              have Bx := hid (below_step B6.out hbx)
              have HBx := hid hbx
              have hk2 := (Kp.of_below hbx).cell _ _ hk2
              clear hbx
              by_cases hlk : k < m.length
              · have hdk : decide ((k : Int) < (m.length : Int)) = true := by simpa using hlk
                obtain ⟨mg, moff, z1, z2, rfl, hz, hz1, hz2⟩ := (HO6.out.kp (Kp.of_below HBx.out)).at hlk
                obtain ⟨lg, loff, y1, y2, rfl, hy, hy1, hy2⟩ := (HL4.out.kp (Kp.of_below Bx.out)).at (k := q) (by omega)
                have h9 := HAt.out k _ hz
                rw [← hq, hy] at h9
                simp only [Option.some.injEq, Prod.mk.injEq] at h9
                obtain ⟨e1, e2⟩ := h9
                subst e1 e2
                have hzm := List.mem_of_getElem? hz
                have HPz := hid (HPart.out _ hzm)
                have hbz := HOk6.out _ hzm
                rw [HMe.out] at hzm
                obtain ⟨x, j, r, hxl, hr, hxe, _⟩ := all_mem hzm
                simp only [Prod.mk.injEq] at hxe
                obtain ⟨rfl, rfl⟩ := hxe
                have hjl : j ≤ 9223372036854775807 := by have := hbz.2.2; simp only at this; omega
                have hql : q < L.length := by omega
                clear hz hy hzm hbz hr hq
                have g1 : decide ((L.length : Int) ≤ (q : Int)) = false := by simpa using (show ¬ (L.length : Int) ≤ (q : Int) by omega)
                have g2 : decide (L.length ≤ q) = false := by simpa using (show ¬ L.length ≤ q by omega)
                have e1 : IntKind.i64.wrap ((x : Int) + (o : Int)) = (x : Int) + (o : Int) := IntWalk.i64_in _ ⟨by omega, by omega⟩
                have f1 : ((x : Int) + (o : Int) != (x : Int) + (o : Int)) = false := by simp
                have f2 : ((j : Int) != (j : Int)) = false := by simp
                obtain ⟨x0, x1⟩ := HC.out wr Dx.out
                go_wp2
                go_quiet (fail)
                go_upto_region 25 with fail
                obtain ⟨wq, hwq⟩ : ∃ X, X = wr.drewN nq := ⟨_, rfl⟩
                have Jq : Hid (Below wr.heap.size wr wq) := drawn_below hwq
                rw [← hwq]
                clear hwq x0 x1
                have Cq := hid (below_step Cx.out Jq.out)
                have Dq := hid (below_step Dx.out Jq.out)
                have Bq := hid (below_step HBx.out Jq.out)
                have hz1 := (Kp.of_below Jq.out).cell _ _ hz1
                have hz2 := (Kp.of_below Jq.out).cell _ _ hz2
                have hy1 := (Kp.of_below Jq.out).cell _ _ hy1
                have hy2 := (Kp.of_below Jq.out).cell _ _ hy2
                have hk2 := (Kp.of_below Jq.out).cell _ _ hk2
                obtain ⟨x0, x1⟩ := HC.out wq Dq.out
                have HCl := hid (HDo.out wq.drew (.slice uo u.length uc) u (x : Int) (j : Int) (below_step Cq.out (drawn_below1 _)) (HU6.out.kp (Kp.of_below (below_step Bq.out (drawn_below1 _)))) hul.1 ⟨⟨by omega, by omega⟩, by omega, by omega⟩)
                have hYl := doR_few s a u (x : Int) (j : Int)
                obtain ⟨Y, hY⟩ : ∃ Y, Y = doR s a u (x : Int) (j : Int) := ⟨_, rfl⟩
                rw [← hY] at HCl HPz hYl
                clear hY g1 g2 e1 f1 f2
                go_cut [15, 16] from 125 to 134 (fun x y wx => y = .int .i64 Y.2 ∧ Is wx x Y.1 ∧ Below wq.heap.size wq wx)
                case first =>
                  go_region_with (first
                    | (refine HCl.out.mono ?_; rintro e w7 ⟨v7, rfl, o7, hb7⟩; have HOz := hid o7.is; have Jz := hid (below_step (Below.refl _ _).drew hb7); clear o7 hb7))
                  all_goals (
                    simp only [Act.put, List.getElem_toArray, List.getElem_cons_succ, List.getElem_cons_zero, List.setIfInBounds_toArray, List.set_cons_succ, List.set_cons_zero]
                    go_wp2
                    go_meet
                    case rel => exact ⟨rfl, HOz.out, Jz.out⟩)
                obtain ⟨rfl, ho7, hj7⟩ := hcut
                obtain ⟨w7, hw7⟩ : ∃ W, W = wc := ⟨_, rfl⟩
                rw [← hw7] at ho7 hj7 ⊢
                clear hw7 HCl x0 x1
                have HO7 := hid ho7
                have C7 := hid (below_step Cq.out hj7)
                have D7 := hid (below_step Dq.out hj7)
                have B7 := hid (below_step Bq.out hj7)
                have hy1 := (Kp.of_below hj7).cell _ _ hy1
                have hy2 := (Kp.of_below hj7).cell _ _ hy2
                have hk2 := (Kp.of_below hj7).cell _ _ hk2
                clear ho7 hj7 hz1 hz2
                obtain ⟨x0, x1⟩ := HC.out w7 D7.out
                have HCl := hid (HDo.out w7.drew tv t ((x : Int) + (o : Int)) (j : Int) (below_step C7.out (drawn_below1 _)) (HTt.out.kp (Kp.of_below (below_step C7.out (drawn_below1 _)))) htl ⟨⟨by omega, by omega⟩, by omega, by omega⟩)
                obtain ⟨Z, hZ⟩ : ∃ Z, Z = doR s a t ((x : Int) + (o : Int)) (j : Int) := ⟨_, rfl⟩
                rw [← hZ] at HCl HPz
                clear hZ
                go_upto_region 26 with fail
                go_cut [17, 18] from 135 to 144 (fun x y wx => y = .int .i64 Z.2 ∧ Is wx x Z.1 ∧ Below w7.heap.size w7 wx)
                case first =>
                  go_region_with (first
                    | (refine HCl.out.mono ?_; rintro e w8 ⟨v8, rfl, o8, hb8⟩; have HOz := hid o8.is; have Jz := hid (below_step (Below.refl _ _).drew hb8); clear o8 hb8))
                  all_goals (
                    simp only [Act.put, List.getElem_toArray, List.getElem_cons_succ, List.getElem_cons_zero, List.setIfInBounds_toArray, List.set_cons_succ, List.set_cons_zero]
                    go_wp2
                    go_meet
                    case rel => exact ⟨rfl, HOz.out, Jz.out⟩)
                obtain ⟨rfl, ho8, hj8⟩ := hcut
                obtain ⟨w8, hw8⟩ : ∃ W, W = wc := ⟨_, rfl⟩
                rw [← hw8] at ho8 hj8 ⊢
                clear hw8 HCl x0 x1 hy1 hy2
                have HO8 := hid ho8
                have HO78 := hid (HO7.out.kp (Kp.of_below hj8))
                have C8 := hid (below_step C7.out hj8)
                have D8 := hid (below_step D7.out hj8)
                have B8 := hid (below_step B7.out hj8)
                have hk2 := (Kp.of_below hj8).cell _ _ hk2
                clear ho8 hj8 HO7
                obtain ⟨x0, x1⟩ := HC.out w8 D8.out
                rcases HPz.out with ⟨p1, p2⟩ | ⟨p1, p2⟩
                · have HCl := hid (replace_any _ _ _ s t Y.1 (o : Int) w8.drew (HS.out.kp (Kp.of_below (below_step C8.out (drawn_below1 _)))) (HTt.out.kp (Kp.of_below (below_step C8.out (drawn_below1 _)))) (HO78.out.kp (Kp.of_below (drawn_below1 _))) (HT.out.below (below_step C8.out (drawn_below1 _))) (by omega) (by omega) (by omega) (by omega))
                  have p3 := congrArg Prod.fst p2
                  have p4 := congrArg Prod.snd p2
                  simp only at p3 p4
                  rw [← p3, ← p4] at HCl
                  rw [p1]
                  clear p1 p2 p3 p4 HPz
                  go_upto_region 28 with fail
                  go_cut [19, 20] from 147 to 158 (fun x y wx => y = .int .i64 Z.2 ∧ Is wx x Z.1 ∧ Below w8.heap.size w8 wx)
                  case first =>
                    go_region_with (first
                      | (refine HCl.out.mono ?_; rintro e w9 ⟨v9, rfl, o9, hb9⟩; have HOz := hid o9.is; have Jz := hid (below_step (Below.refl _ _).drew hb9); clear o9 hb9))
                    all_goals (
                      simp only [Act.put, List.getElem_toArray, List.getElem_cons_succ, List.getElem_cons_zero, List.setIfInBounds_toArray, List.set_cons_succ, List.set_cons_zero]
                      go_wp2
                      go_meet
                      case rel => exact ⟨rfl, HOz.out, Jz.out⟩)
                  obtain ⟨rfl, ho9, hj9⟩ := hcut
                  obtain ⟨w9, hw9⟩ : ∃ W, W = wc := ⟨_, rfl⟩
                  rw [← hw9] at ho9 hj9 ⊢
                  clear hw9 HCl x0 x1 hk2
                  have HO9 := hid ho9
                  have J9 := hid hj9
                  have B9 := hid (below_step B8.out hj9)
                  clear ho9 hj9
                  have ff : (Z.2 != Z.2) = false := by simp
                  go_wp2_with fail
                  refine (sameRow8_any _ _ _ _ w9 (HO8.out.kp (Kp.of_below J9.out)) HO9.out).mono ?_
                  rintro e w10 ⟨rfl, n10, hw10⟩
                  have B10 := hid (below_step B9.out (drawn_below hw10))
                  clear hw10
                  rw [decide_eq_true rfl]
                  go_wp2
                  go_roundw
                  case rel => exact ⟨k + 1, q + 1, hlk, by go_num, by go_num, by rw [HQ.out]; omega, B10.out⟩
                  case measure => simp [intOf]; omega
                · have p5 : (Y.2 == 0) = false := by rw [p1]; rfl
                  rw [p1, p2]
                  clear HPz hk2
                  go_wp2
                  go_roundw
                  case rel => exact ⟨k + 1, q + 1, hlk, by go_num, by go_num, by rw [HQ.out]; omega, B8.out⟩
                  case measure => simp [intOf]; omega
              · have hdk : decide ((k : Int) < (m.length : Int)) = false := by simpa using (show ¬ (k : Int) < (m.length : Int) by omega)
                have HNq : Hid (R0.length + (allP s a 1 (us.take (i + 1))).length = q) := by
                  show _ = _
                  rw [HNx.out, HQ.out]
                  omega
                clear hq
                go_wp2
                go_roundw
                case rel => exact ⟨i + 1, hlt, by go_num, by rw [HNq.out], Bx.out⟩
                case measure => simp [intOf]; omega
          · have hdi : decide ((i : Int) < (us.length : Int)) = false := by simpa using (show ¬ (i : Int) < (us.length : Int) by omega)
            have HNe : R0.length + (allP s a 1 (us.take i)).length = L.length := by rw [List.take_of_length_le (by omega)]; exact HLl.out.symm
            rw [HNe]
            have ff : ((L.length : Int) == (L.length : Int)) = true := by simp
            clear HNe
            go_wp2
            go_ret
            exact ⟨rfl, Cr.out⟩
  · rw [decide_eq_false he]
    have HE := hid he
    clear he
    go_wp2_with fail
    refine (HAll.out w2 tv t C2.out (HTt.out.kp (Kp.of_below C2.out)) htl).mono ?_
    rintro e w3 ⟨v3, rfl, o3, hb3⟩
    have h9 : allR s a t = [] := by unfold allR; rw [if_neg HE.out]
    rw [h9] at o3
    obtain ⟨lo, lc, hv3, hlc1, hlc2⟩ := o3.shape
    subst hv3
    have C3 := hid (below_step C2.out hb3)
    clear o3 hb3 x0 x1 h9
    go_wp2
    go_ret
    exact ⟨rfl, C3.out⟩

end Go.Proofs.YtgpbnbmjgcchfaaGreatDoor
