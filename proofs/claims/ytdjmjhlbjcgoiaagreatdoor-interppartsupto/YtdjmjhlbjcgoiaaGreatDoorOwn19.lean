/- InterpParts walked. -/
import Derived.Test.YtdjmjhlbjcgoiaaGreatDoorOwn18
namespace Go.Proofs.YtdjmjhlbjcgoiaaGreatDoor
open Go.RowKit Go.Maps Go.BigFrame

set_option maxRecDepth 100000 in
set_option maxHeartbeats 6400000 in
theorem interpParts_any (hsh : Shown12) (sv lv tv : Value) (sig : List Sy) (l : List Ip) (t : List Int) (d : Int) (w : World) (hs : Sg w sv sig) (hl : Ins w lv l) (ht : Is w tv t) (hT : Tabs w) (hb : t.length * 24 ≤ 140737488351232) (hd1 : -9223372036854775808 ≤ d) (hd2 : d ≤ 9223372036854775807) :
    Calls Tryz.prog 6 #[sv, lv, tv, .int .i64 d] w fun e w' => e = .returned (.bool true) ∧ Below w.heap.size w w' := by
  obtain ⟨tq, tc, rfl, _, _, _⟩ := Row.flat ht
  obtain ⟨lo, lc, rfl, _, hlcm, _⟩ := Row.flat hl
  unfold maxLen at hlcm
  have hlim := hl.lim
  have HSh := hid hsh
  have HS := hid hs
  have HL := hid hl
  have HTt := hid ht
  have HT := hid hT
  clear hs hl hT hsh ht
  have HOf : Hid (∀ (W : World) (xv : Value) (x : List Int), Below w.heap.size w W → Is W xv x → x.length * 24 ≤ 140737488351232 → Calls Tryz.prog 16 #[sv, .slice lo l.length lc, xv] W fun e w' => (∃ v', e = .returned (.tuple #[v', .int .i64 (ofPE sig l x)]) ∧ OM w' W.heap.size v' (ofPL sig l x)) ∧ Below W.heap.size W w') := fun W xv x hW hx hxl =>
    interpOf_any _ _ _ sig l x W (HS.out.kp (Kp.of_below hW)) (HL.out.kp (Kp.of_below hW)) hx (HT.out.below hW) hxl
  go_enter Tryz.func6, Tryz.ntmps6
  go_wp2_with fail
  refine (HSh.out w HT.out).mono ?_
  rintro e w1 ⟨rfl, hb1⟩
  have B1 := hid hb1
  clear hb1
  obtain ⟨E, hE⟩ : ∃ E, E = ofPE sig l t := ⟨_, rfl⟩
  obtain ⟨p, hp⟩ : ∃ p, p = ofPL sig l t := ⟨_, rfl⟩
  have HE := hid hE
  have HP := hid hp
  have HC2 := hid (HOf.out w1 _ t B1.out (HTt.out.kp (Kp.of_below B1.out)) hb)
  rw [← hE, ← hp] at HC2
  clear hE hp
  go_wp2_with fail
  refine HC2.out.mono ?_
  rintro e w2 ⟨⟨v, rfl, hom⟩, hb2⟩
  have HM := hid hom.ms
  obtain ⟨pa, pc, rfl⟩ := hom.slice
  have B2 := hid (below_step B1.out hb2)
  clear hom hb2 HC2 B1
  go_wp2_with fail
  refine (right12_any _ _ _ sig l t w2 (HS.out.kp (Kp.of_below B2.out)) (HL.out.kp (Kp.of_below B2.out)) (HTt.out.kp (Kp.of_below B2.out)) (by omega)).mono ?_
  rintro e w3 ⟨rfl, hb3⟩
  have B3 := hid (below_step B2.out hb3)
  have HM3 := hid (HM.out.kp (Kp.of_below hb3))
  clear hb3 HM B2
  by_cases hr : inE sig l = 0 ∧ termE sig t = 0
  · rw [decide_eq_true hr]
    obtain ⟨hin, htt⟩ := hr
    have HIn := hid hin
    have HTe := hid htt
    go_wp2_with fail
    refine (shift_any _ t d w3 (HTt.out.kp (Kp.of_below B3.out)) (by omega) hd1 hd2).mono ?_
    rintro e w4 ⟨u, rfl, hou, hb4⟩
    obtain ⟨F, hF⟩ : ∃ F, F = shiftE d t := ⟨_, rfl⟩
    rw [← hF]
    have HF := hid hF
    clear hF
    have B4 := hid (below_step B3.out hb4)
    have HM4 := hid (HM3.out.kp (Kp.of_below hb4))
    have HU := hid hou.is
    obtain ⟨ua, uc, huv, _⟩ := hou.shape
    obtain ⟨un, hun⟩ : ∃ n, n = (shiftL d t).length := ⟨_, rfl⟩
    rw [← hun] at huv
    subst huv
    clear hb4 hou hun HM3 hin htt
    go_upto_if 59 with fail
    go_cut [] from 60 to 75 (fun wx => Below w4.heap.size w4 wx)
    case first =>
      by_cases hok : okShift d t = true
      · obtain ⟨m1, m2⟩ := mov_ok hok
        obtain rfl : F = 0 := by rw [HF.out, m1]
        obtain ⟨o1, o2⟩ := of_mov (l := l) hok HTe.out
        rw [m2] at HU
        have HC5 := hid (HOf.out w4 _ _ B4.out HU.out (by unfold movL; rw [List.length_map]; exact hb))
        rw [o1, o2, ← HE.out, ← HP.out] at HC5
        clear m1 m2 o1 o2 hok
        go_wp2_with fail
        refine HC5.out.mono ?_
        rintro e w5 ⟨⟨v5, rfl, hom5⟩, hb5⟩
        have HM5 := hid hom5.ms
        have HM45 := hid (HM4.out.kp (Kp.of_below hb5))
        have C5 := hid hb5
        have hEN : (E != E) = false := by simp
        clear hom5 hb5 HC5
        go_wp2_with fail
        refine (same12_any _ _ p p w5 HM45.out HM5.out).mono ?_
        rw [show decide (p = p) = true by simp]
        rintro e w6 ⟨rfl, n6, hw6⟩
        have C6 := hid (below_step C5.out (drawn_below hw6))
        clear hw6
        go_wp2
        go_meet
        case rel => exact C6.out
      · obtain rfl : F = 40 := by rw [HF.out, mov_no hok]
        have C6 := hid (Below.refl w4.heap.size w4)
        go_wp2
        go_meet
        case rel => exact C6.out
    obtain ⟨w5, hw5⟩ : ∃ X, X = wc := ⟨_, rfl⟩
    have B5 := hid (below_step B4.out hcut)
    have HM5 := hid (HM4.out.kp (Kp.of_below hcut))
    rw [← hw5] at B5 HM5 ⊢
    clear hw5 hcut HM4 HU B4 B3
    have HE2 : Hid (E = ovE (ofV sig l (varsL t) t)) := by show _ = _; rw [HE.out]; unfold ofPE; rw [if_pos HIn.out, if_pos HTe.out]
    have HP2 : Hid (p = ovL (ofV sig l (varsL t) t)) := by show _ = _; rw [HP.out]; unfold ofPL; rw [if_pos ⟨HIn.out, HTe.out⟩]
    cases hov : ofV sig l (varsL t) t with
    | none =>
      as_aux_lemma =>
        rw [hov] at HE2
        have hE2 : E = 2 := HE2.out
        subst hE2
        clear hov HP2
        go_wp2
        go_ret
        exact ⟨rfl, B5.out⟩
    | some P =>
      as_aux_lemma =>
        rw [hov] at HE2 HP2
        have hE2 : E = 0 := HE2.out
        subst hE2
        have hP2 : p = P := HP2.out
        subst hP2
        have HOv := hid hov
        clear hov
        go_wp2_with fail
        refine (vars_any _ t w5 (HTt.out.kp (Kp.of_below B5.out)) (by omega)).mono ?_
        rintro e w6 ⟨vv, rfl, hov, hb6⟩
        obtain ⟨va, vc, hvv, hvc, _⟩ := hov.shape
        have B6 := hid (below_step B5.out hb6)
        have HM6 := hid (HM5.out.kp (Kp.of_below hb6))
        clear hov hb6 HM5
        by_cases hnv : 0 < (varsL t).length
        · have hd0 : decide (0 < (varsL t).length) = true := by simpa using hnv
          obtain ⟨N, hN⟩ : ∃ N, N = (varsL t).length := ⟨_, rfl⟩
          rw [← hN] at hvv hd0 hnv
          subst hvv
          clear hN
          go_wp2
          go_ret
          exact ⟨rfl, B6.out⟩
        · have hv0 : varsL t = [] := List.eq_nil_of_length_eq_zero (by omega)
          rw [hv0] at hvv HOv
          have HNv := hid (novars12 hv0)
          subst hvv
          clear hnv hvc
          obtain ⟨C, us, hte, hul, hur⟩ : ∃ (C : Nat) (us : List (List Int)), t = (C : Int) :: us.flatten ∧ us.length = arN sig (C : Int) ∧ ∀ u ∈ us, rowE sig u = 0 := by
            have h1 := (term_parts HTe.out).2
            have h2 := HNv.out
            have har := sigE_ok (inE_ok HIn.out).1
            clear HE HP HE2 HP2 HTt HM6 HOf HOv HNv HTe B6 B5 HIn HF hv0
            cases t with
            | nil => exact absurd (row_first.1 h1) (by simp [firstT])
            | cons c r =>
              have hc : ¬ c < 0 := h2 c (by simp)
              obtain ⟨C, rfl⟩ : ∃ C : Nat, c = (C : Int) := ⟨c.toNat, by omega⟩
              obtain ⟨_, us, hul, rfl, hur⟩ := kids12 har h1 hc
              exact ⟨C, us, rfl, hul, hur⟩
          have har := sigE_ok (inE_ok HIn.out).1
          have hc : ¬ (C : Int) < 0 := by omega
          obtain ⟨hpl, hki⟩ := root_kids12 (by rw [← hte]; exact HTe.out) hc hul hur
          obtain ⟨hq1, hq2, hq3⟩ := ofV_parts har hc hul hur (by rw [← hte]; exact HOv.out)
          rw [← hte] at hpl hki
          have HTr := hid hte
          obtain ⟨ps, hps⟩ : ∃ ps, ps = us.map fun u => ovL (ofV sig l [] u) := ⟨_, rfl⟩
          rw [← hps] at hq2 hq3
          have hpsl : ps.length = us.length := by rw [hps, List.length_map]
          have HQ2 := hid hq2
          have HQ3 := hid hq3
          have HSub : Hid (∀ (i : Nat) u, us[i]? = some u → (placeE sig t ((1 + (us.take i).flatten.length : Nat) : Int) = 0 ∧ subL sig t ((1 + (us.take i).flatten.length : Nat) : Int) = u) ∧ ofPE sig l u = 0 ∧ (∃ q, ps[i]? = some q ∧ ofPL sig l u = q) ∧ u.length ≤ t.length) := fun i u hi => by
            have hum := List.mem_of_getElem? hi
            obtain ⟨q, hq⟩ := hq1 u hum
            have hs : ∀ x ∈ u, x ∈ t := fun x hx => by rw [HTr.out]; exact List.mem_cons_of_mem _ (List.mem_flatten.2 ⟨u, hum, hx⟩)
            obtain ⟨g1, g2⟩ := of_part12 HIn.out HTe.out HNv.out hs (hur u hum) hq
            refine ⟨by have := sub12 (us := us) (c := (C : Int)) (by rw [← HTr.out]; exact HTe.out) hur hi; rw [← HTr.out] at this; exact this, g1, ⟨q, by rw [hps, List.getElem?_map, hi]; simp [hq, ovL], g2⟩, ?_⟩
            have := (List.sublist_flatten_of_mem hum).length_le
            rw [HTr.out, List.length_cons]
            omega
          have HPl : Hid (∀ i, i < us.length → (places 1 (us.map List.length))[i]? = some ((1 + (us.take i).flatten.length : Nat) : Int)) := fun i hi => places_at us 1 i hi
          have HPll : Hid ((places 1 (us.map List.length)).length = us.length) := by
            have gen : ∀ (ns : List Nat) (q : Nat), (places q ns).length = ns.length := fun ns => by
              induction ns with
              | nil => intro q; rfl
              | cons n ns ih => intro q; rw [places, List.length_cons, List.length_cons, ih]
            show _ = _
            rw [gen, List.length_map]
          have HSp : Hid (∀ (k : Nat) (a : Int) (q : List Mn), l[k]? = some (a, q) → a = (C : Int) → q = spol l (C : Int)) := fun k a q hk ha => by
            subst ha
            exact (spol_of (in_nodup HIn.out) (List.mem_of_getElem? hk)).symm
          have HT0 : Hid (t[0]? = some (C : Int)) := by show _ = _; rw [HTr.out]; rfl
          have husl : us.length ≤ t.length := by
            have gen : ∀ vs : List (List Int), (∀ u ∈ vs, rowE sig u = 0) → vs.length ≤ vs.flatten.length := fun vs => by
              induction vs with
              | nil => intro _; simp
              | cons u vs ih =>
                intro h
                have h1 := ih fun x hx => h x (by simp [hx])
                have h2 : u ≠ [] := fun e => by
                  have := h u (by simp)
                  rw [e] at this
                  exact absurd (row_first.1 this) (by simp [firstT])
                have := List.length_pos_iff.2 h2
                rw [List.flatten_cons, List.length_append, List.length_cons]
                omega
            have := gen us hur
            rw [HTr.out, List.length_cons]
            omega
          have HPs := hid hpsl
          clear hq1 hq2 hq3 hps hte hul hur har hc HOv hpsl
          have HKd := hid (kids_any _ _ sig t 0 w6 (HS.out.kp (Kp.of_below B6.out)) (HTt.out.kp (Kp.of_below B6.out)) (HT.out.below B6.out) (by omega) (by omega) (by omega))
          rw [hpl, hki] at HKd
          clear hpl hki
          generalize places 1 (us.map List.length) = K at HKd HPl HPll
          go_wp2_with fail
          refine HKd.out.mono ?_
          rintro e w7 ⟨kv, rfl, hok, hb7⟩
          have HK := hid hok.is
          obtain ⟨ka, kc, rfl, hkc1, hkc2⟩ := hok.shape
          unfold maxLen at hkc2
          have B7 := hid (below_step B6.out hb7)
          have HM7 := hid (HM6.out.kp (Kp.of_below hb7))
          clear hok hb7 HKd HM6 B6
          have HN0 := hid (RP12.new (fun _ => true) w7)
          obtain ⟨w8, hw8⟩ : ∃ X, X = w7.alloc (.cells #[] 31) := ⟨_, rfl⟩
          rw [← hw8] at HN0
          go_wp2
          rw [← hw8]
          clear hw8
          go_loopw [18, 19, 20, 21, 22, 23] (fun a i _ _ _ _ wr => ∃ (j : Nat) (vals : List Value) (qs : List (List Mn)), j ≤ K.length ∧ i = .int .i64 j ∧ RP12 (fun _ => true) w7 wr a vals qs ∧ qs = ps.take j) (fun _ i _ _ _ _ _ => K.length - (intOf i).toNat)
          case atStart => exact ⟨0, [], [], Nat.zero_le _, rfl, HN0.out, by simp⟩
          case round =>
            clear HN0
            obtain ⟨j, vals, qs, hj, rfl, hrp, hqs⟩ := hrel
            have HRP := hid hrp
            have HQs := hid hqs
            have HB := hid hrp.bel
            obtain ⟨aa, ac, rfl, hac1, hac2⟩ := hrp.shape
            unfold maxLen at hac2
            clear hrp hqs
            by_cases hlt : j < K.length
            · as_aux_lemma =>
                have hju : j < us.length := by have := HPll.out; omega
                have hql : qs.length ≤ us.length := by rw [HQs.out, List.length_take, HPs.out]; omega
                obtain ⟨u, hu⟩ : ∃ u, us[j]? = some u := ⟨_, List.getElem?_eq_getElem hju⟩
                obtain ⟨⟨s1, s2⟩, s3, ⟨q, s4, s5⟩, s6⟩ := HSub.out j u hu
                have hdj : decide ((j : Int) < (K.length : Int)) = true := by simpa using hlt
                have hwj : IntKind.i64.wrap ((j : Int) + 1) = ((j + 1 : Nat) : Int) := by rw [IntWalk.i64_in _ ⟨by omega, by omega⟩]; omega
                obtain ⟨gk, ok, x, rfl, hx, hxc, hx1, hx2⟩ := (HK.out.kp (Kp.of_below HB.out)).at hlt
                rw [HPl.out j hju] at hx
                cases hx
                obtain ⟨xp, hxp⟩ : ∃ x : Int, x = ((1 + (us.take j).flatten.length : Nat) : Int) := ⟨_, rfl⟩
                rw [← hxp] at s1 s2 hxc hx1 hx2
                have BW := hid (below_step B7.out HB.out)
                have HSb := hid (sub_any _ _ sig t xp wr (HS.out.kp (Kp.of_below BW.out)) (HTt.out.kp (Kp.of_below BW.out)) (HT.out.below BW.out) (by omega) hx1 hx2)
                rw [s1, s2] at HSb
                clear s1 s2 hxp hu
                go_wp2_with fail
                refine HSb.out.mono ?_
                rintro e w9 ⟨xv, rfl, hox, hb9⟩
                have B9 := hid (below_step BW.out hb9)
                have HRP9 := hid (HRP.out.later hb9)
                have HC := hid (HOf.out w9 _ u B9.out hox.is (by omega))
                rw [s3, s5] at HC
                clear hox hb9 HSb HRP HB
                go_wp2_with fail
                refine HC.out.mono ?_
                rintro e w10 ⟨⟨qv, rfl, hoq⟩, hb10⟩
                obtain ⟨qa, qc, rfl⟩ := hoq.slice
                have hRP10 := HRP9.out.later hb10
                obtain ⟨v11, w11, hr11, hrp11⟩ := hRP10.push 49 (om_only hoq (fun g hg => by
                  unfold noB
                  rw [Bool.and_eq_true, decide_eq_true_eq]
                  refine ⟨rfl, fun e => ?_⟩
                  have := own_blk_lt HRP9.out.row e
                  omega)) (by omega)
                have HR11 := hid hr11
                have HRP11 := hid hrp11
                have HQ11 : Hid (qs ++ [q] = ps.take (j + 1)) := by show _ = _; rw [take_get s4, HQs.out]
                clear hoq hb10 hRP10 hr11 hrp11 HC HRP9 s3 s4 s5 s6
                go_wp2_with (first
                  | (at_builtin; refine wpList_append_run rfl _ _ _ rfl _ _ rfl rfl HR11.out ?_))
                go_roundw
                case rel => exact ⟨j + 1, _, _, hlt, by go_num, HRP11.out, HQ11.out⟩
                case measure => simp only [intOf]; omega
            · as_aux_lemma =>
                have hdj : decide ((j : Int) < (K.length : Int)) = false := by simpa using hlt
                obtain rfl : qs = ps := by rw [HQs.out, List.take_of_length_le (by have h1 := HPs.out; have h2 := HPll.out; omega)]
                have HAr := hid ((HRP.out.ps (fun _ _ => rfl)).kp (only_kp _ _))
                have BW := hid (below_step B7.out HB.out)
                have HMw := hid (HM7.out.kp (Kp.of_below HB.out))
                obtain ⟨wb, hwb⟩ : ∃ X, X = wr := ⟨_, rfl⟩
                subst hwb
                clear HRP HQs HB HM7 HPl HPll HSub HPs HOf HK hkc1 hkc2 husl
                go_wp2
                go_loopw [24, 25, 26] (fun i _ _ wx => ∃ m : Nat, m ≤ l.length ∧ i = .int .i64 m ∧ Below wb.heap.size wb wx) (fun i _ _ _ => l.length - (intOf i).toNat)
                case atStart => exact ⟨0, Nat.zero_le _, rfl, Below.refl _ _⟩
                case round =>
                  obtain ⟨m, hm, rfl, hbx⟩ := hrel
                  have HBx := hid hbx
                  clear hbx
                  by_cases hml : m < l.length
                  · as_aux_lemma =>
                      have hdm : decide ((m : Int) < (l.length : Int)) = true := by simpa using hml
                      have hwm : IntKind.i64.wrap ((m : Int) + 1) = ((m + 1 : Nat) : Int) := by rw [IntWalk.i64_in _ ⟨by omega, by omega⟩]; omega
                      obtain ⟨g, off, dd, pp, a1, c1, rfl, hm1, hc0, hc1, hp, hcl, hcu, hp1, hp2⟩ := (HL.out.kp (Kp.of_below (below_step BW.out HBx.out))).at hml
                      have HTl := HT0.out
                      have htl : 0 < t.length := (List.getElem?_eq_some_iff.1 HTl).1
                      obtain ⟨gt, ot, c', rfl, ht0, htc, _, _⟩ := (HTt.out.kp (Kp.of_below (below_step BW.out HBx.out))).at htl
                      rw [HTl] at ht0
                      cases ht0
                      rw [Nat.add_zero] at htc
                      have HM1 := hid hm1
                      have HPp := hid hp
                      clear hm1 hp HTl
                      by_cases hdc : dd = (C : Int)
                      · as_aux_lemma =>
                          have hpe := HSp.out m dd pp HM1.out hdc
                          subst hpe
                          have hde : (dd == (C : Int)) = true := by simpa using hdc
                          clear hdc
                          go_wp2
                          go_quiet (fail)
                          obtain ⟨wq, hwq⟩ : ∃ X, X = wr.drewN nq := ⟨_, rfl⟩
                          rw [← hwq]
                          have HBq := hid (below_step HBx.out (drawn_below hwq))
                          have HPq := hid (HPp.out.kp (Kp.of_below (drawn_below hwq)))
                          have hc1q := (Kp.of_below (drawn_below hwq)).cell _ _ hc1
                          clear hwq HPp
                          go_wp2_with fail
                          refine (compose_any _ _ (spol l (C : Int)) qs wq HPq.out (HAr.out.kp (Kp.of_below HBq.out))).mono ?_
                          rw [HQ2.out, ← HQ3.out]
                          rintro e w12 ⟨v12, rfl, ho12, hb12⟩
                          have HO12 := hid ho12.ms
                          obtain ⟨oa, oc, rfl⟩ := ho12.slice
                          have HB12 := hid (below_step HBq.out hb12)
                          clear ho12 hb12
                          go_wp2_with fail
                          refine (same12_any _ _ p p w12 (HMw.out.kp (Kp.of_below HB12.out)) HO12.out).mono ?_
                          rw [show decide (p = p) = true by simp]
                          rintro e w13 ⟨rfl, n13, hw13⟩
                          have HB13 := hid (below_step HB12.out (drawn_below hw13))
                          clear hw13
                          go_wp2
                          go_roundw
                          case rel => exact ⟨m + 1, hml, by go_num, HB13.out⟩
                          case measure => simp only [intOf]; omega
                      · as_aux_lemma =>
                          have hde : (dd == (C : Int)) = false := by simpa using hdc
                          clear hdc
                          go_wp2
                          go_quiet (fail)
                          obtain ⟨wq, hwq⟩ : ∃ X, X = wr.drewN nq := ⟨_, rfl⟩
                          rw [← hwq]
                          have HBq := hid (below_step HBx.out (drawn_below hwq))
                          clear hwq
                          go_wp2
                          go_roundw
                          case rel => exact ⟨m + 1, hml, by go_num, HBq.out⟩
                          case measure => simp only [intOf]; omega
                  · as_aux_lemma =>
                      have hdm : decide ((m : Int) < (l.length : Int)) = false := by simpa using hml
                      have BZ := hid (below_step BW.out HBx.out)
                      go_wp2
                      go_ret
                      exact ⟨rfl, BZ.out⟩
  · rw [decide_eq_false hr]
    have hE2 : ¬ E = 0 := by
      rw [HE.out]
      unfold ofPE
      by_cases h1 : inE sig l = 0
      · rw [if_pos h1, if_neg (fun h => hr ⟨h1, h⟩)]
        exact fun h => hr ⟨h1, h⟩
      · rw [if_neg h1]; exact h1
    have hp0 : p = [] := by rw [HP.out]; unfold ofPL; rw [if_neg hr]
    have hd0 : (E != 0) = true := by simpa using hE2
    subst hp0
    clear hr hE2
    go_wp2
    go_ret
    exact ⟨rfl, B3.out⟩

end Go.Proofs.YtdjmjhlbjcgoiaaGreatDoor
