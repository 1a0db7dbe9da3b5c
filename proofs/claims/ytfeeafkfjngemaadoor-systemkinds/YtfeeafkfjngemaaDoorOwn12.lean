/- SystemKinds walked. -/
import Derived.Test.YtfeeafkfjngemaaDoorOwn11
import Derived.Test.YtfeeafkfjngemaaDoorOwn10
namespace Go.Proofs.YtfeeafkfjngemaaDoor
open Go.RowKit Go.Maps Go.BigFrame

set_option maxRecDepth 100000 in
set_option maxHeartbeats 3200000 in
theorem systemKinds_any (sv rv uv : Value) (s : List Sy) (a : List Rl) (tu : List Int) (d : Int) (w : World) (hs : Sg w sv s) (ha : RU w rv a) (hu : Is w uv tu) (hd1 : -9223372036854775808 ≤ d) (hd2 : d ≤ 9223372036854775807) (hT : Tabs w) :
    Calls Tryd.prog 4 #[.agg #[sv, rv], uv, .int .i64 d] w fun e w' => e = .returned (.bool true) ∧ Below w.heap.size w w' := by
  obtain ⟨so, sc, rfl, hso, hsc, _⟩ := Row.flat hs
  obtain ⟨ao, ac, rfl, hao, hac, _⟩ := Row.flat ha
  obtain ⟨uo, uc, rfl, huo, huc, _⟩ := Row.flat hu
  unfold maxLen at hsc hac huc
  have HS := hid hs
  have HA := hid ha
  have HU := hid hu
  have HT := hid hT
  clear hs ha hu hT
  obtain ⟨w0, hw0⟩ : ∃ X, X = w.alloc (.cells #[.slice so s.length sc, .slice ao a.length ac] 25) := ⟨_, rfl⟩
  have C0 : Hid (Below w.heap.size w w0) := by rw [hw0]; exact below_alloc _
  have HC : Hid (∀ W, Below w0.heap.size w0 W → W.cell? ⟨w.heap.size, 0, none⟩ = some (.slice so s.length sc) ∧ W.cell? ⟨w.heap.size, 1, none⟩ = some (.slice ao a.length ac)) := fun W hW => by
    have hk := Kp.of_below hW
    rw [hw0] at hk
    exact ⟨hk.cell _ _ (cell_new rfl), hk.cell _ _ (cell_new rfl)⟩
  go_enter Tryd.func4, Tryd.ntmps4
  go_wp2_with fail
  rw [← hw0]
  clear hw0
  refine (shown7_any w0 (HT.out.below C0.out)).mono ?_
  rintro e w1 ⟨rfl, hb1⟩
  have C1 := hid (below_step C0.out hb1)
  have D1 := hid hb1
  clear hb1
  obtain ⟨x0, x1⟩ := HC.out w1 D1.out
  go_wp2_with fail
  refine (refRight_any _ _ s a w1 (HS.out.kp (Kp.of_below C1.out)) (HA.out.kp (Kp.of_below C1.out))).mono ?_
  rintro e w2 ⟨rfl, hb2⟩
  have C2 := hid (below_step C1.out hb2)
  have D2 := hid (below_step D1.out hb2)
  clear hb2 x0 x1
  cases hok : sysB s a with
  | false =>
    clear hok
    go_wp2
    go_ret
    exact ⟨rfl, C2.out⟩
  | true =>
    obtain ⟨hah, hru⟩ := sys_right hok
    have hs64 := (ahead_parts hah).2.1
    have ha64 := (ahead_parts hah).2.2.2
    have HOk := hid hok
    have HRu := hid hru
    clear hok hah hru
    obtain ⟨x0, x1⟩ := HC.out w2 D2.out
    have y0 := cell_old (o := .cells #[] 48) x0
    obtain ⟨v3, w3, hr3, hs3, hg3⟩ := copy_sig 22 (empty_row2 (w := w2) (base := w2.heap.size) 48 (Nat.le_refl _)) ((HS.out.kp (Kp.of_below C2.out)).kp (Kp.of_below (below_alloc _))) (by simp) (by omega)
    have hb3 : Below w2.heap.size w2 w3 := (below_alloc _).grown hg3 (by simp) (fun j hj => by cases hj; exact Nat.le_refl _)
    have C3 := hid (below_step C2.out hb3)
    have D3 := hid (below_step D2.out hb3)
    have HS3 := hid hs3
    have HR3 := hid hr3
    obtain ⟨to3, tc3, hv3, _⟩ := Row.flat hs3
    subst hv3
    clear hr3 hs3 hg3 hb3
    obtain ⟨w4, hw4⟩ : ∃ X, X = w3.alloc (.cells #[.slice to3 s.length tc3, .slice none 0 0] 25) := ⟨_, rfl⟩
    have b4 : Hid (Below w3.heap.size w3 w4) := by rw [hw4]; exact below_alloc _
    have HB4 : Hid (w4.heap[w3.heap.size]? = some (.cells #[.slice to3 s.length tc3, .slice none 0 0] 25)) := by rw [hw4]; exact heap_alloc_new _ _
    go_wp2_with (first
      | (at_builtin; refine wpList_append_run rfl _ _ _ rfl _ _ rfl rfl HR3.out ?_))
    rw [← hw4]
    clear hw4 y0 x0 x1
    go_loopw [10] (fun iv wr => ∃ (k : Nat) (rv : Value), k ≤ a.length ∧ iv = .int .i64 k ∧ wr.heap[w3.heap.size]? = some (.cells #[.slice to3 s.length tc3, rv] 25) ∧ KR wr w3.heap.size rv ((a.take k).map (kindR d)) ∧ Below w3.heap.size w3 wr) (fun iv _ => a.length - (intOf iv).toNat)
    case atStart => exact ⟨0, _, Nat.zero_le _, rfl, HB4.out, KR.nil _ _, b4.out⟩
    case round =>
      obtain ⟨k, rv, hk, rfl, hbt, hkr, hbl⟩ := hrel
      have HBt := hid hbt
      have HK := hid hkr
      have HBl := hid hbl
      have CB := hid (below_step C3.out hbl)
      have DB := hid (below_step D3.out hbl)
      obtain ⟨z0, z1⟩ := HC.out wr DB.out
      clear hbt hkr hbl HB4
      by_cases hlt : k < a.length
      · obtain ⟨g, off, l, r, a1, c1, a2, c2, rfl, hm, hc0, hc1, hi1, hi2, hl1, hl2⟩ := (HA.out.kp (Kp.of_below C3.out)).at hlt
        have HI1 := hid hi1
        have HI2 := hid hi2
        have HNx : Hid ((a.take (k + 1)).map (kindR d) = (a.take k).map (kindR d) ++ [kindR d (l, r)]) := by
          show _ = _
          rw [take_get hm, List.map_append]
          rfl
        have kp := Kp.of_below HBl.out
        have e0 := kp.cell _ _ hc0
        have e1 := kp.cell _ _ hc1
        have hbtl : w3.heap.size < wr.heap.size := (Array.getElem?_eq_some_iff.1 HBt.out).1
        have HLt := hid hbtl
        have HOl : Hid (∀ j, rv.ownBlock = some j → w3.heap.size < j ∧ j < wr.heap.size) := fun j hj => HK.out.own hj
        clear hc0 hc1 hi1 hi2 hm kp hbtl
        go_wp2_with fail
        refine (refShift_any _ l d wr (HI1.out.kp (Kp.of_below HBl.out)) hl1 hd1 hd2).mono ?_
        rintro e w5 ⟨v5, rfl, ho5, hb5⟩
        have D5 := hid hb5
        have HO5 := hid ho5
        obtain ⟨y0, y1⟩ := HC.out w5 (below_step DB.out hb5)
        have e0' := (Kp.of_below hb5).cell _ _ e0
        have e1' := (Kp.of_below hb5).cell _ _ e1
        clear ho5 hb5 z0 z1 e0 e1
        go_wp2_with fail
        refine (refShift_any _ r d w5 (HI2.out.kp (Kp.of_below (below_step HBl.out D5.out))) hl2 hd1 hd2).mono ?_
        rintro e w6 ⟨v6, rfl, ho6, hb6⟩
        have HB6 := hid hb6
        have D6 := hid (below_step D5.out hb6)
        have HO6 := hid ho6
        obtain ⟨z0, z1⟩ := HC.out w6 (below_step DB.out D6.out)
        have e0 := (Kp.of_below hb6).cell _ _ e0'
        have e1 := (Kp.of_below hb6).cell _ _ e1'
        clear ho6 hb6 y0 y1 e0' e1'
        by_cases hok : okShift d l = true ∧ okShift d r = true
        · obtain ⟨m1, m2⟩ := mov_ok hok.1
          obtain ⟨m3, m4⟩ := mov_ok hok.2
          have HKd : Hid (kindR d (l, r) = (movL d l, movL d r)) := by show _ = _; unfold kindR; rw [if_pos hok]
          rw [m2] at HO5
          rw [m4] at HO6
          rw [m1, m3]
          obtain ⟨b5, c5, hv5, _⟩ := HO5.out.shape
          subst hv5
          obtain ⟨b6, c6, hv6, _⟩ := HO6.out.shape
          subst hv6
          have hm1 : (movL d l).length = l.length := by unfold movL; simp
          have hm2 : (movL d r).length = r.length := by unfold movL; simp
          have HM1 : Hid ((movL d l).length * 8 ≤ 140737488351232) := by show _ ≤ _; rw [hm1]; exact hl1
          have HM2 : Hid ((movL d r).length * 8 ≤ 140737488351232) := by show _ ≤ _; rw [hm2]; exact hl2
          clear m1 m2 m3 m4 hm1 hm2 hok
          obtain ⟨v7, w7, hr7, q6, q7, f7, hbt8, hk8, hb8⟩ := kinds_join (p := (.slice b5 (movL d l).length c5, .slice b6 (movL d r).length c6)) (r := (movL d l, movL d r)) HBt.out HK.out HBl.out D6.out ((isx_new HO5.out HLt.out (fun j hj => (HOl.out j hj).2)).later HB6.out) (isx_new HO6.out (Nat.lt_of_lt_of_le HLt.out D5.out.size) (fun j hj => Nat.lt_of_lt_of_le (HOl.out j hj).2 D5.out.size)) HM1.out HM2.out (by rw [List.length_map, List.length_take]; omega)
          obtain ⟨b7, c7, hv7, _⟩ := hk8.shape
          generalize (List.map (kindR d) (a.take k) ++ _).length = N7 at hv7
          subst hv7
          have HR7 := hid hr7
          have HBt8 := hid hbt8
          have HK8 := hid hk8
          have HB8 := hid hb8
          clear hr7 hbt8 hk8 hb8
          have q6' := cell_old (o := .cells #[.slice b5 (movL d l).length c5, .slice b6 (movL d r).length c6] 37) q6
          go_wp2_with (first
            | (at_builtin; refine wpList_append_run rfl _ _ _ rfl _ _ rfl rfl HR7.out ?_))
          go_roundw
          case rel => exact ⟨k + 1, _, hlt, by go_num, HBt8.out, by rw [HNx.out, HKd.out]; exact HK8.out, HB8.out⟩
          case measure => simp only [intOf]; omega
        · have HKd : Hid (kindR d (l, r) = (l, r)) := by show _ = _; unfold kindR; rw [if_neg hok]
          by_cases ho1 : okShift d l = true
          · have ho2 : ¬ okShift d r = true := fun h => hok ⟨ho1, h⟩
            rw [(mov_ok ho1).1, mov_no ho2]
            clear hok ho1 ho2
            obtain ⟨v7, w7, hr7, q6, q7, f7, hbt8, hk8, hb8⟩ := kinds_join (p := (.slice a1 l.length c1, .slice a2 r.length c2)) (r := (l, r)) HBt.out HK.out HBl.out D6.out (isx_old HI1.out (below_step HBl.out D6.out) (fun j hj => (HOl.out j hj).1)) (isx_old HI2.out (below_step HBl.out D6.out) (fun j hj => (HOl.out j hj).1)) hl1 hl2 (by rw [List.length_map, List.length_take]; omega)
            obtain ⟨b7, c7, hv7, _⟩ := hk8.shape
            generalize (List.map (kindR d) (a.take k) ++ _).length = N7 at hv7
            subst hv7
            have HR7 := hid hr7
            have HBt8 := hid hbt8
            have HK8 := hid hk8
            have HB8 := hid hb8
            clear hr7 hbt8 hk8 hb8
            have q6' := cell_old (o := .cells #[.slice a1 l.length c1, .slice a2 r.length c2] 37) q6
            go_wp2_with (first
              | (at_builtin; refine wpList_append_run rfl _ _ _ rfl _ _ rfl rfl HR7.out ?_))
            go_roundw
            case rel => exact ⟨k + 1, _, hlt, by go_num, HBt8.out, by rw [HNx.out, HKd.out]; exact HK8.out, HB8.out⟩
            case measure => simp only [intOf]; omega
          · rw [mov_no ho1]
            obtain ⟨E6, hE6⟩ : ∃ E, E = shiftE d r := ⟨_, rfl⟩
            rw [← hE6]
            clear hok ho1 hE6
            obtain ⟨v7, w7, hr7, q6, q7, f7, hbt8, hk8, hb8⟩ := kinds_join (p := (.slice a1 l.length c1, .slice a2 r.length c2)) (r := (l, r)) HBt.out HK.out HBl.out D6.out (isx_old HI1.out (below_step HBl.out D6.out) (fun j hj => (HOl.out j hj).1)) (isx_old HI2.out (below_step HBl.out D6.out) (fun j hj => (HOl.out j hj).1)) hl1 hl2 (by rw [List.length_map, List.length_take]; omega)
            obtain ⟨b7, c7, hv7, _⟩ := hk8.shape
            generalize (List.map (kindR d) (a.take k) ++ _).length = N7 at hv7
            subst hv7
            have HR7 := hid hr7
            have HBt8 := hid hbt8
            have HK8 := hid hk8
            have HB8 := hid hb8
            clear hr7 hbt8 hk8 hb8
            have q6' := cell_old (o := .cells #[.slice a1 l.length c1, .slice a2 r.length c2] 37) q6
            go_wp2_with (first
              | (at_builtin; refine wpList_append_run rfl _ _ _ rfl _ _ rfl rfl HR7.out ?_))
            go_roundw
            case rel => exact ⟨k + 1, _, hlt, by go_num, HBt8.out, by rw [HNx.out, HKd.out]; exact HK8.out, HB8.out⟩
            case measure => simp only [intOf]; omega
      · have hke : a.take k = a := List.take_of_length_le (by omega)
        rw [hke] at HK
        have HL : Hid ((a.map (kindR d)).length = a.length) := by show _ = _; rw [List.length_map]
        obtain ⟨ro, rc, hrv, hrc1, hrc2⟩ := HK.out.shape
        rw [HL.out] at hrv hrc1
        subst hrv
        unfold maxLen at hrc2
        clear hke
        go_wp2
        go_loopw [15] (fun iv wi => ∃ (i : Nat) (rs : List Rl), i ≤ tu.length ∧ iv = .int .i64 i ∧ rs.Perm (a.map (kindR d)) ∧ wi.heap[w3.heap.size]? = some (.cells #[.slice to3 s.length tc3, .slice ro a.length rc] 25) ∧ KR wi w3.heap.size (.slice ro a.length rc) rs ∧ Below w3.heap.size w3 wi) (fun iv _ => tu.length - (intOf iv).toNat)
        case atStart => exact ⟨0, _, Nat.zero_le _, rfl, List.Perm.refl _, HBt.out, HK.out, HBl.out⟩
        case round =>
          clear HBt HK HBl CB DB z0 z1
          obtain ⟨i, rs, hi, rfl, hpm, hbt, hkr, hbl⟩ := hrel
          have HP := hid hpm
          have HBt := hid hbt
          have HK := hid hkr
          have HBl := hid hbl
          have CB := hid (below_step C3.out hbl)
          have DB := hid (below_step D3.out hbl)
          obtain ⟨z0, z1⟩ := HC.out _ DB.out
          have hln : rs.length = a.length := by rw [hpm.length_eq, List.length_map]
          have HLn := hid hln
          have t1 := cell_of_row _ _ 1 _ _ _ hbt
          have t0 := cell_of_row _ _ 0 _ _ _ hbt
          simp only [List.getElem?_toArray, List.getElem?_cons_zero, List.getElem?_cons_succ] at t1 t0
          clear hpm hbt hkr hbl hln
          by_cases hlt : i < tu.length
          · by_cases h0 : 0 < a.length
            · have hd1 : decide ((i : Int) < (tu.length : Int)) = true := by simpa using hlt
              have hd2 : decide ((a.length : Int) > 0) = true := by simpa using h0
              obtain ⟨gu, ou, c, rfl, _, hcx, hcb1, hcb2⟩ := (HU.out.kp (Kp.of_below CB.out)).at hlt
              obtain ⟨gr, rfl⟩ : ∃ gr, ro = some ⟨gr, 0, none⟩ := by
                obtain ⟨us, hl, hc, ho⟩ := HK.out
                rcases ho.2 with ⟨hv, hn⟩ | ⟨g, cap, cur, hv, _⟩
                · simp only [Value.slice.injEq] at hv; omega
                · simp only [Value.slice.injEq] at hv; exact ⟨g, hv.1⟩
              have hmi : ((i : Int).tmod (a.length : Int)) = ((i % a.length : Nat) : Int) := rfl
              go_upto_if 111 with fail
              go_cut [16] from 112 to 114 (fun x wx => (∃ K : Nat, x = .int .i64 K ∧ K ≤ 9223372036854775807) ∧ wx = wr)
              case first =>
                by_cases hc0 : c < 0
                · have hdc : decide (c < 0) = true := by simpa using hc0
                  obtain ⟨K, hK⟩ : ∃ K : Nat, (K : Int) = -(c + 1) := ⟨(-(c + 1)).toNat, by omega⟩
                  have hw1 : IntKind.i64.wrap (c + 1) = c + 1 := IntWalk.i64_in _ ⟨by omega, by omega⟩
                  have hw2 : IntKind.i64.wrap (-(c + 1)) = (K : Int) := by rw [← hK]; exact IntWalk.i64_in _ ⟨by omega, by omega⟩
                  have hK2 : K ≤ 9223372036854775807 := by omega
                  clear hK
                  go_wp2
                  go_meet
                  case rel => exact ⟨⟨K, rfl, hK2⟩, rfl⟩
                · have hdc : decide (c < 0) = false := by simpa using hc0
                  obtain ⟨K, rfl⟩ : ∃ K : Nat, c = (K : Int) := ⟨c.toNat, by omega⟩
                  go_wp2
                  go_meet
                  case rel => exact ⟨⟨K, rfl, by omega⟩, rfl⟩
              obtain ⟨⟨K, rfl, hK2⟩, rfl⟩ := hcut
              have hmk : ((K : Int).tmod (a.length : Int)) = ((K % a.length : Nat) : Int) := rfl
              have hki : i % a.length < rs.length := by rw [HLn.out]; exact Nat.mod_lt _ h0
              have hkk : K % a.length < rs.length := by rw [HLn.out]; exact Nat.mod_lt _ h0
              have hkr := HK.out
              rw [← HLn.out] at hkr
              obtain ⟨⟨p1, p2⟩, ⟨q1, q2⟩, ⟨i1, i2, i3, i4⟩, ⟨j1, j2, j3, j4⟩, htg, ⟨o1, o2, o3, o4⟩, hsw⟩ := hkr.swap hki hkk
              obtain ⟨r1, r2, r3, rfl⟩ := o1
              obtain ⟨r4, r5, r6, rfl⟩ := o2
              obtain ⟨r7, r8, r9, rfl⟩ := o3
              obtain ⟨rA, rB, rC, rfl⟩ := o4
              have HSw := hid hsw
              have hil : i % a.length < a.length := Nat.mod_lt _ h0
              have hkl : K % a.length < a.length := Nat.mod_lt _ h0
              generalize i % a.length = I at hki i1 i2 i3 i4 HSw hil hmi
              generalize K % a.length = J at hkk j1 j2 j3 j4 HSw hkl hmk
              clear hkr hsw
              go_wp2
              by_cases hIJ : I = J
              · subst hIJ
                have e1 := i1.symm.trans j1
                have e2 := i2.symm.trans j2
                simp only [Option.some.injEq, Value.slice.injEq] at e1 e2
                obtain ⟨rfl, rfl, rfl⟩ := e1
                obtain ⟨rfl, rfl, rfl⟩ := e2
                clear j1 j2 j3 j4
                go_region
                generalize hX : World.drew _ = X9
                obtain ⟨k9, h9, _, b9⟩ := HSw.out _ hX
                rw [HLn.out] at k9
                have K9 := hid k9
                have H9 := hid (h9.trans HBt.out)
                have B9 := hid (b9 _ _ (Nat.le_refl _) HBl.out)
                have P9 := hid ((swap_perm hki hki).trans HP.out)
                clear hX k9 h9 b9 HSw i1 i2 i3 i4
                go_wp2
                go_roundw
                case rel => exact ⟨i + 1, _, hlt, by go_num, P9.out, H9.out, K9.out, B9.out⟩
                case measure => simp only [intOf]; omega
              · have hn1 : ¬ J = I := fun e => hIJ e.symm
                have hn2 : ¬ I * 2 = J * 2 := by omega
                have hn3 : ¬ J * 2 = I * 2 := by omega
                go_region
                generalize hX : World.drew _ = X9
                obtain ⟨k9, h9, _, b9⟩ := HSw.out _ hX
                rw [HLn.out] at k9
                have K9 := hid k9
                have H9 := hid (h9.trans HBt.out)
                have B9 := hid (b9 _ _ (Nat.le_refl _) HBl.out)
                have P9 := hid ((swap_perm hki hkk).trans HP.out)
                clear hX k9 h9 b9 HSw i1 i2 i3 i4 j1 j2 j3 j4
                go_wp2
                go_roundw
                case rel => exact ⟨i + 1, _, hlt, by go_num, P9.out, H9.out, K9.out, B9.out⟩
                case measure => simp only [intOf]; omega
            · obtain ⟨hS1, hS2⟩ := kinds_same HOk.out HP.out
              have HS1 := hid hS1
              have HS2 := hid hS2
              clear hS1 hS2
              have hd1 : decide ((i : Int) < (tu.length : Int)) = true := by simpa using hlt
              have hd2 : decide ((a.length : Int) > 0) = false := by simpa using h0
              have HTc : Hid (∀ W, Below wr.heap.size wr W → W.cell? ⟨w3.heap.size, 0, none⟩ = some (.slice to3 s.length tc3) ∧ W.cell? ⟨w3.heap.size, 1, none⟩ = some (.slice ro a.length rc)) := fun W hW => ⟨(Kp.of_below hW).cell _ _ t0, (Kp.of_below hW).cell _ _ t1⟩
              go_wp2_with fail
              refine (sysSame_any _ _ _ _ s s a a wr (HS.out.kp (Kp.of_below CB.out)) (HA.out.kp (Kp.of_below CB.out)) (HS.out.kp (Kp.of_below CB.out)) (HA.out.kp (Kp.of_below CB.out)) (HT.out.below CB.out)).mono ?_
              rintro e w7 ⟨rfl, hb7⟩
              have D7 := hid hb7
              have C7 := hid (below_step CB.out hb7)
              rw [same_self HOk.out]
              clear hb7 z0 z1 t0 t1
              obtain ⟨z0, z1⟩ := HC.out w7 (below_step DB.out D7.out)
              obtain ⟨t0, t1⟩ := HTc.out w7 D7.out
              go_wp2_with fail
              refine (sysSame_any _ _ _ _ s s a rs w7 (HS.out.kp (Kp.of_below C7.out)) (HA.out.kp (Kp.of_below C7.out)) (HS3.out.kp (Kp.of_below (below_step HBl.out D7.out))) (HK.out.ru.kp (Kp.of_below D7.out)) (HT.out.below C7.out)).mono ?_
              rintro e w8 ⟨rfl, hb8⟩
              have D8 := hid (below_step D7.out hb8)
              have C8 := hid (below_step C7.out hb8)
              rw [HS1.out]
              clear hb8 z0 z1 t0 t1
              obtain ⟨z0, z1⟩ := HC.out w8 (below_step DB.out D8.out)
              obtain ⟨t0, t1⟩ := HTc.out w8 D8.out
              go_wp2_with fail
              refine (sysSame_any _ _ _ _ s s rs a w8 (HS3.out.kp (Kp.of_below (below_step HBl.out D8.out))) (HK.out.ru.kp (Kp.of_below D8.out)) (HS.out.kp (Kp.of_below C8.out)) (HA.out.kp (Kp.of_below C8.out)) (HT.out.below C8.out)).mono ?_
              rintro e w9 ⟨rfl, hb9⟩
              have C9 := hid (below_step C8.out hb9)
              rw [HS2.out]
              clear t0 t1 z0 z1
              obtain ⟨z0, z1⟩ := HC.out w9 (below_step DB.out (below_step D8.out hb9))
              have D9 := hid (below_step DB.out (below_step D8.out hb9))
              clear hb9

              have hz0 : ((a.length : Int) == 0) = true := by rw [beq_iff_eq]; omega
              go_wp2
              go_ret
              exact ⟨rfl, C9.out⟩
          · obtain ⟨hS1, hS2⟩ := kinds_same HOk.out HP.out
            have HS1 := hid hS1
            have HS2 := hid hS2
            clear hS1 hS2
            have hd1 : decide ((i : Int) < (tu.length : Int)) = false := by simpa using hlt
            have HTc : Hid (∀ W, Below wr.heap.size wr W → W.cell? ⟨w3.heap.size, 0, none⟩ = some (.slice to3 s.length tc3) ∧ W.cell? ⟨w3.heap.size, 1, none⟩ = some (.slice ro a.length rc)) := fun W hW => ⟨(Kp.of_below hW).cell _ _ t0, (Kp.of_below hW).cell _ _ t1⟩
            go_wp2_with fail
            refine (sysSame_any _ _ _ _ s s a a wr (HS.out.kp (Kp.of_below CB.out)) (HA.out.kp (Kp.of_below CB.out)) (HS.out.kp (Kp.of_below CB.out)) (HA.out.kp (Kp.of_below CB.out)) (HT.out.below CB.out)).mono ?_
            rintro e w7 ⟨rfl, hb7⟩
            have D7 := hid hb7
            have C7 := hid (below_step CB.out hb7)
            rw [same_self HOk.out]
            clear hb7 z0 z1 t0 t1
            obtain ⟨z0, z1⟩ := HC.out w7 (below_step DB.out D7.out)
            obtain ⟨t0, t1⟩ := HTc.out w7 D7.out
            go_wp2_with fail
            refine (sysSame_any _ _ _ _ s s a rs w7 (HS.out.kp (Kp.of_below C7.out)) (HA.out.kp (Kp.of_below C7.out)) (HS3.out.kp (Kp.of_below (below_step HBl.out D7.out))) (HK.out.ru.kp (Kp.of_below D7.out)) (HT.out.below C7.out)).mono ?_
            rintro e w8 ⟨rfl, hb8⟩
            have D8 := hid (below_step D7.out hb8)
            have C8 := hid (below_step C7.out hb8)
            rw [HS1.out]
            clear hb8 z0 z1 t0 t1
            obtain ⟨z0, z1⟩ := HC.out w8 (below_step DB.out D8.out)
            obtain ⟨t0, t1⟩ := HTc.out w8 D8.out
            go_wp2_with fail
            refine (sysSame_any _ _ _ _ s s rs a w8 (HS3.out.kp (Kp.of_below (below_step HBl.out D8.out))) (HK.out.ru.kp (Kp.of_below D8.out)) (HS.out.kp (Kp.of_below C8.out)) (HA.out.kp (Kp.of_below C8.out)) (HT.out.below C8.out)).mono ?_
            rintro e w9 ⟨rfl, hb9⟩
            have C9 := hid (below_step C8.out hb9)
            rw [HS2.out]
            clear t0 t1 z0 z1
            obtain ⟨z0, z1⟩ := HC.out w9 (below_step DB.out (below_step D8.out hb9))
            have D9 := hid (below_step DB.out (below_step D8.out hb9))
            clear hb9

            by_cases h0 : a.length = 0
            · have hz0 : ((a.length : Int) == 0) = true := by rw [beq_iff_eq]; omega
              go_wp2
              go_ret
              exact ⟨rfl, C9.out⟩
            · have hz0 : ((a.length : Int) == 0) = false := by rw [beq_eq_false_iff_ne]; omega
              obtain ⟨g, off, l, r, a1, c1, a2, c2, rfl, hm, _⟩ := (HA.out.kp (Kp.of_below C9.out)).at (k := 0) (by omega)
              have hge : (1 : Int) ≤ (a.length : Int) := by omega
              have y0 := cell_old (o := .cells #[.slice none 0 0, .slice none 0 0] 25) z0
              have y1 := cell_old (o := .cells #[.slice none 0 0, .slice none 0 0] 25) z1
              clear hm
              obtain ⟨y, ys, hay⟩ : ∃ y ys, a = y :: ys := by
                cases a with
                | nil => exact absurd rfl h0
                | cons y ys => exact ⟨y, ys, rfl⟩
              have HNe : Hid (a.length ≠ ys.length) := fun h => by rw [hay, List.length_cons] at h; omega
              have hyl : a.length - 1 = ys.length := by rw [hay]; rfl
              have hRt : RU w9 (.slice (some ⟨g, off + 2, none⟩) ys.length (ac - 1)) ys := by
                have h9 := HA.out.kp (Kp.of_below C9.out)
                have h8 : RU w9 (.slice (some ⟨g, off, none⟩) a.length ac) (y :: ys) := by rw [← hay]; exact h9
                exact h8.tail
              by_cases hac1 : ac = 1
              · subst hac1
                have hy0 : ys = [] := List.eq_nil_of_length_eq_zero (by omega)
                have HRt : Hid (RU w9 (.slice (some ⟨g, off, none⟩) 0 0) ys) := by rw [hy0]; exact Row.nil (by simp [maxLen])
                clear hRt hay hyl hy0
                go_wp2
                go_region
                generalize hW : World.drew _ = WA
                have bA : Below w9.heap.size w9 WA := by rw [← hW]; exact (below_alloc _).drew
                have l0 : WA.cell? ⟨w9.heap.size, 0, none⟩ = some (.slice so s.length sc) := by rw [← hW]; exact cell_new rfl
                have l1 : WA.cell? ⟨w9.heap.size, 1, none⟩ = some (.slice (some ⟨g, off, none⟩) 0 0) := by rw [← hW]; exact cell_new rfl
                have CA := hid (below_step C9.out bA)
                have BA := hid bA
                have L0 := hid l0
                have L1 := hid l1
                have HRA := hid (HRt.out.kp (Kp.of_below bA))
                clear hW bA z0 z1 y0 y1
                obtain ⟨z0, z1⟩ := HC.out WA (below_step D9.out BA.out)
                go_wp2_with fail
                refine (sysSame_any _ _ _ _ s s a ys WA (HS.out.kp (Kp.of_below CA.out)) (HA.out.kp (Kp.of_below CA.out)) (HS.out.kp (Kp.of_below CA.out)) HRA.out (HT.out.below CA.out)).mono ?_
                rintro e wB ⟨rfl, hbB⟩
                rw [same_less HNe.out]
                have CB2 := hid (below_step CA.out hbB)
                have m0 := (Kp.of_below hbB).cell _ _ L0.out
                have m1 := (Kp.of_below hbB).cell _ _ L1.out
                have HRB := hid (HRA.out.kp (Kp.of_below hbB))
                clear z0 z1 l0 l1
                obtain ⟨z0, z1⟩ := HC.out wB (below_step D9.out (below_step BA.out hbB))
                clear hbB
                go_wp2_with fail
                refine (sysSame_any _ _ _ _ s s ys a wB (HS.out.kp (Kp.of_below CB2.out)) HRB.out (HS.out.kp (Kp.of_below CB2.out)) (HA.out.kp (Kp.of_below CB2.out)) (HT.out.below CB2.out)).mono ?_
                rintro e wC ⟨rfl, hbC⟩
                rw [same_less (fun h => HNe.out h.symm)]
                have CC := hid (below_step CB2.out hbC)
                clear hbC z0 z1 m0 m1
                go_wp2
                go_ret
                exact ⟨rfl, CC.out⟩

              · rw [← hyl] at hRt
                have HRt := hid hRt
                clear hRt hay hyl
                go_wp2
                go_region
                generalize hW : World.drew _ = WA
                have bA : Below w9.heap.size w9 WA := by rw [← hW]; exact (below_alloc _).drew
                have l0 : WA.cell? ⟨w9.heap.size, 0, none⟩ = some (.slice so s.length sc) := by rw [← hW]; exact cell_new rfl
                have l1 : WA.cell? ⟨w9.heap.size, 1, none⟩ = some (.slice (some ⟨g, off + 2, none⟩) (a.length - 1) (ac - 1)) := by rw [← hW]; exact cell_new rfl
                have CA := hid (below_step C9.out bA)
                have BA := hid bA
                have L0 := hid l0
                have L1 := hid l1
                have HRA := hid (HRt.out.kp (Kp.of_below bA))
                clear hW bA z0 z1 y0 y1
                obtain ⟨z0, z1⟩ := HC.out WA (below_step D9.out BA.out)
                go_wp2_with fail
                refine (sysSame_any _ _ _ _ s s a ys WA (HS.out.kp (Kp.of_below CA.out)) (HA.out.kp (Kp.of_below CA.out)) (HS.out.kp (Kp.of_below CA.out)) HRA.out (HT.out.below CA.out)).mono ?_
                rintro e wB ⟨rfl, hbB⟩
                rw [same_less HNe.out]
                have CB2 := hid (below_step CA.out hbB)
                have m0 := (Kp.of_below hbB).cell _ _ L0.out
                have m1 := (Kp.of_below hbB).cell _ _ L1.out
                have HRB := hid (HRA.out.kp (Kp.of_below hbB))
                clear z0 z1 l0 l1
                obtain ⟨z0, z1⟩ := HC.out wB (below_step D9.out (below_step BA.out hbB))
                clear hbB
                go_wp2_with fail
                refine (sysSame_any _ _ _ _ s s ys a wB (HS.out.kp (Kp.of_below CB2.out)) HRB.out (HS.out.kp (Kp.of_below CB2.out)) (HA.out.kp (Kp.of_below CB2.out)) (HT.out.below CB2.out)).mono ?_
                rintro e wC ⟨rfl, hbC⟩
                rw [same_less (fun h => HNe.out h.symm)]
                have CC := hid (below_step CB2.out hbC)
                clear hbC z0 z1 m0 m1
                go_wp2
                go_ret
                exact ⟨rfl, CC.out⟩

end Go.Proofs.YtfeeafkfjngemaaDoor
