/- SubstNumbers. -/
import Derived.Test.YtifpanfgojfbkabDoorTRows
import Derived.Test.YtifpanfgojfbkabDoorTCanonC
import Derived.Test.YtifpanfgojfbkabDoorTNumB
namespace Go.Proofs.YtifpanfgojfbkabDoor
open Go.RowKit Go.Maps Go.BigFrame

theorem shiftL_ok {d : Int} {t : List Int} (h : okShift d t = true) : shiftE d t = 0 ∧ shiftL d t = t.map (fun c => if c < 0 then c - d else c) := by
  unfold shiftE shiftL
  rw [if_pos h, if_pos h]
  exact ⟨rfl, rfl⟩

theorem shiftL_no {d : Int} {t : List Int} (h : ¬ okShift d t = true) : shiftE d t = 40 ∧ shiftL d t = [] := by
  unfold shiftE shiftL
  rw [if_neg h, if_neg h]
  exact ⟨rfl, rfl⟩

theorem canL_shifted {d : Int} {l : List (List Int)} (h : ∀ t ∈ l, okShift d t = true) : canL (l.map (shiftL d)) = canL l ∧ (l.map (shiftL d)).map List.length = l.map List.length := by
  have e : l.map (shiftL d) = l.map fun t => t.map fun c => if c < 0 then c - d else c := List.map_congr_left fun t ht => (shiftL_ok (h t ht)).2
  rw [e]
  refine ⟨canL_shift d l fun t ht c hc h0 => ?_, by rw [List.map_map]; exact List.map_congr_left fun t _ => by simp⟩
  have h1 := List.all_eq_true.1 (h t ht) c hc
  have h2 : isVarB (-1 - c + d) = true := by simpa [h0] using h1
  exact (isVarB_iff.1 h2).1

set_option maxRecDepth 100000 in
set_option maxHeartbeats 3200000 in
theorem substNumbers_any (v : Value) (l : List (List Int)) (d : Int) (w : World) (h : Rs w v l) (hT : Tabs w) (hn : l.length * 24 ≤ 140737488351232) (hsum : (l.map List.length).sum ≤ 4611686018427387904) (hd1 : -9223372036854775808 ≤ d) (hd2 : d ≤ 9223372036854775807) :
    Calls Tryd.prog 3 #[v, .int .i64 d] w fun e w' => e = .returned (.bool true) ∧ Below w.heap.size w w' := by
  obtain ⟨ao, cap, rfl, hao, hca, _⟩ := Row.flat h
  unfold maxLen at hca
  have HL := hid h
  have HSm := hid h.small
  have HT := hid hT
  clear h hT
  go_enter Tryd.func3, Tryd.ntmps3
  go_wp2_with fail
  refine (shown_any w HT.out).mono ?_
  rintro e w1 ⟨rfl, hb1⟩
  have HB1 := hid hb1
  clear hb1
  go_wp2_with fail
  refine (canon_any _ l w1 (HL.out.kp (Kp.of_below HB1.out)) hn hsum).mono ?_
  rintro e w2 ⟨va, vs2, rfl, ho2, hr2, hb2⟩
  have hcl := canL_length l
  have HA2 : Hid (Rs w2 va (canL l)) := rs_of_own (by rw [hcl]; exact ho2) hr2 (lens_small (canG_lens l []) HSm.out)
  have HB2 := hid (below_step HB1.out hb2)
  clear ho2 hr2 hb2 HB1
  go_wp2_with fail
  refine (canon_any va (canL l) w2 HA2.out (by rw [hcl]; exact hn) (by rw [show (canL l).map List.length = l.map List.length from canG_lens l []]; exact hsum)).mono ?_
  rintro e w3 ⟨vb, vs3, rfl, ho3, hr3, hb3⟩
  have HA3 : Hid (Rs w3 vb (canL (canL l))) := rs_of_own (by rw [canL_length]; exact ho3) hr3 (lens_small (canG_lens _ []) (lens_small (canG_lens l []) HSm.out))
  have HA23 := hid (HA2.out.kp (Kp.of_below hb3))
  have HB3 := hid (below_step HB2.out hb3)
  clear ho3 hr3 hb3 HA2 HB2
  go_wp2_with fail
  refine (sameAll_any vb va _ _ w3 HA3.out HA23.out).mono ?_
  rintro e W0 ⟨rfl, hb4⟩
  rw [decide_eq_true (canL_again l)]
  have HA0 := hid (HA23.out.kp (Kp.of_below hb4))
  have HB0 := hid (below_step HB3.out hb4)
  have HL0 := hid (HL.out.kp (Kp.of_below HB0.out))
  clear hb4 HA3 HA23 HB3
  go_wp2
  go_loopw [7, 8] (fun x iv wr => ∃ (i : Nat) (vs : List Value), i ≤ l.length ∧ iv = .int .i64 i ∧ (∀ t ∈ l.take i, okShift d t = true) ∧ wr.ownsRow W0.heap.size 26 1 x i vs ∧ OwR wr W0.heap.size vs ((l.take i).map (shiftL d)) ∧ Below W0.heap.size W0 wr) (fun _ iv _ => l.length - (intOf iv).toNat)
  case atStart => exact ⟨0, [], Nat.zero_le _, rfl, fun t ht => (by simp at ht), empty_row _ (Nat.le_refl _), ⟨rfl, fun j u x hj => (by simp at hj)⟩, below_alloc _⟩
  case round =>
    obtain ⟨i, vs, hi, rfl, hall, how, hor, hbl⟩ := hrel
    have HAll := hid hall
    have HOw := hid how
    have HOr := hid hor
    have HBl := hid hbl
    clear hall how hor
    by_cases hlt : i < l.length
    · obtain ⟨g, off, ra, t, rc, rfl, hm, hc0, hit, ht8⟩ := (HL0.out.kp (Kp.of_below hbl)).at hlt
      have HM := hid hm
      have HIt := hid hit
      clear hm hit hbl
      go_wp2_with fail
      refine (shift_any _ t d wr HIt.out ht8 hd1 hd2).mono ?_
      rintro e w5 ⟨vx, rfl, ho5, hb5⟩
      have HKs := hid hb5
      by_cases hok : okShift d t = true
      · have HOk := hid hok
        have hsl : (shiftL d t).length = t.length := by rw [(shiftL_ok hok).2]; simp
        rw [(shiftL_ok hok).1]
        have HOx := hid ho5
        obtain ⟨xo, xc, rfl, hxc1, hxc2⟩ := ho5.shape
        rw [hsl] at HOx hxc1 ⊢
        unfold maxLen at hxc2
        have hd0 := (Kp.of_below HKs.out).cell _ _ hc0
        have HSl := hid hsl
        clear ho5 hb5 hok hsl
        by_cases hlo : -4611686018427387904 < d
        · by_cases hhi : d < 4611686018427387904
          · have hwn : IntKind.i64.wrap (-d) = -d := IntWalk.i64_in _ ⟨by omega, by omega⟩
            go_wp2_with fail
            refine (shift_any _ (shiftL d t) (-d) w5 HOx.out.is (by rw [HSl.out]; exact ht8) (by omega) (by omega)).mono ?_
            rintro e w6 ⟨vy, rfl, ho6, hb6⟩
            have HY := hid ho6.is
            have HK6 := hid hb6
            have he0 := (Kp.of_below hb6).cell _ _ hd0
            have hback := shift_back d t HOk.out
            rw [← (shiftL_ok HOk.out).2] at hback
            have HBack := hid hback
            have HIt6 := hid (HIt.out.kp (Kp.of_below (below_step HKs.out hb6)))
            clear ho6 hb6 hback
            go_wp2_with fail
            go_loopw [13, 14] (fun bv kv wy => ∃ k : Nat, k ≤ t.length ∧ bv = .bool ((t.take k).all (fun c => decide (-1048576 ≤ c))) ∧ kv = .int .i64 k ∧ wy = w6) (fun _ kv _ => t.length - (intOf kv).toNat)
            case atStart => exact ⟨0, Nat.zero_le _, by simp, rfl, rfl⟩
            case round =>
              obtain ⟨k, hk, rfl, rfl, hw⟩ := hrel
              have hw8 := hw.symm
              subst hw8
              clear hw
              obtain ⟨Bk, hBk⟩ : ∃ Bk, Bk = (t.take k).all (fun c => decide (-1048576 ≤ c)) := ⟨_, rfl⟩
              rw [← hBk]
              have HBk := hid hBk
              clear hBk
              by_cases hkt : k < t.length
              · obtain ⟨g2, off2, c, rfl, hx1, hx2, hx3, hx4⟩ := HIt6.out.at hkt
                have HX := hid hx1
                clear hx1
                have HStep : Hid (∀ B : Bool, B = (Bk && decide (-1048576 ≤ c)) → B = (t.take (k + 1)).all (fun c => decide (-1048576 ≤ c))) := fun B hB => by
                  rw [hB, HBk.out, take_get HX.out, List.all_append]
                  simp
                cases Bk
                · go_wp2
                  go_roundw
                  case rel => exact ⟨k + 1, by omega, congrArg Value.bool (HStep.out false rfl), by go_num, trivial⟩
                  case measure => simp [intOf]; omega
                · go_wp2
                  go_roundw
                  case rel => exact ⟨k + 1, by omega, congrArg Value.bool (HStep.out (decide (-1048576 ≤ c)) (by simp)), by go_num, trivial⟩
                  case measure => simp [intOf]; omega
              · have hke : k = t.length := by omega
                have HBk2 : Hid (Bk = true ↔ ∀ c ∈ t, -1048576 ≤ c) := by
                  show _ ↔ _
                  rw [HBk.out, hke, List.take_length, List.all_eq_true]
                  simp
                clear HBk
                cases Bk
                · have hno : ¬ okShift (-d) (shiftL d t) = true := fun h9 => (by
                    have := HBk2.out.2 (HBack.out.1.1 h9)
                    cases this)
                  rw [(shiftL_no hno).1]
                  clear hno
                  obtain ⟨v6, w6, hr6, ho6, hg6⟩ := join_row 22 (ownsRow_later HOw.out (below_step HKs.out HK6.out)) (Nat.le_trans HBl.out.size (below_step HKs.out HK6.out).size) (by omega) (u := .slice xo t.length xc) rfl
                  have HR6 := hid hr6
                  have HO6 : Hid (w6.ownsRow W0.heap.size 26 1 v6 (i + 1) (vs ++ [.slice xo t.length xc])) := ho6
                  have hba := below_step (below_step HKs.out HK6.out) (below_alloc (.cells #[.slice xo t.length xc] 26))
                  have HW6 : Hid (OwR w6 W0.heap.size (vs ++ [.slice xo t.length xc]) ((l.take (i + 1)).map (shiftL d))) := by
                    have hstep : ∀ (j : Nat) (u : Value) (x : List Int), vs[j]? = some u → ((l.take i).map (shiftL d))[j]? = some x → OwI w6 W0.heap.size u x := fun j u x h1 h2 => by
                      have hu := HOr.out.2 j u x h1 h2
                      exact (hu.later hba).kept hg6 (ownsRow_apart (hu.later hba).2 (ownsRow_later HOw.out hba) (by decide))
                    have hnew : OwI w6 W0.heap.size (.slice xo t.length xc) (shiftL d t) := by
                      have h1 := ((HOx.out.mono HBl.out.size).later HK6.out).later (below_alloc (.cells #[.slice xo t.length xc] 26))
                      exact h1.kept hg6 (ownsRow_apart h1.2 (ownsRow_later HOw.out hba) (by decide))
                    rw [take_get HM.out, List.map_append]
                    refine ⟨by rw [List.length_append, List.length_append, HOr.out.1]; rfl, fun j u x hj hx => ?_⟩
                    by_cases hjl : j < vs.length
                    · rw [List.getElem?_append_left hjl] at hj
                      rw [List.getElem?_append_left (by rw [← HOr.out.1]; exact hjl)] at hx
                      exact hstep j u x hj hx
                    · rw [List.getElem?_append_right (by omega)] at hj
                      rw [List.getElem?_append_right (by rw [← HOr.out.1]; omega), ← HOr.out.1] at hx
                      have hj0 : j - vs.length = 0 := by
                        have := (List.getElem?_eq_some_iff.1 hj).1
                        simp at this
                        omega
                      rw [hj0] at hj hx
                      simp at hj hx
                      subst hj
                      subst hx
                      exact hnew
                  have HB6 : Hid (Below W0.heap.size W0 w6) := (below_step HBl.out hba).grown hg6 (below_step HBl.out hba).size (fun j hj => own_blk HOw.out hj)
                  have HAll2 : Hid (∀ t ∈ l.take (i + 1), okShift d t = true) := fun y hy => by
                    rw [take_get HM.out] at hy
                    rcases List.mem_append.1 hy with hy | hy
                    · exact HAll.out y hy
                    · simp at hy
                      subst hy
                      exact HOk.out
                  clear hr6 ho6 hg6 hba
                  go_wp2_with (first
                    | (at_builtin; refine wpList_append_run rfl _ _ _ rfl _ _ rfl rfl HR6.out ?_))
                  go_roundw
                  case rel => exact ⟨i + 1, _, by omega, by go_num, HAll2.out, HO6.out, HW6.out, HB6.out⟩
                  case measure => simp [intOf]; omega
                · have hyes : okShift (-d) (shiftL d t) = true := HBack.out.1.2 (HBk2.out.1 rfl)
                  have hy2 : shiftL (-d) (shiftL d t) = t := by
                    rw [(shiftL_ok hyes).2]
                    exact HBack.out.2
                  rw [(shiftL_ok hyes).1]
                  rw [hy2] at HY
                  clear hyes hy2
                  go_wp2_with fail
                  refine (same_any vy _ t t _ HY.out HIt6.out).mono ?_
                  rintro e w7 ⟨rfl, n7, hw7⟩
                  rw [decide_eq_true rfl]
                  have HK7 := hid (below_step HK6.out (drawn_below hw7))
                  clear hw7
                  obtain ⟨v6, w6, hr6, ho6, hg6⟩ := join_row 22 (ownsRow_later HOw.out (below_step HKs.out HK7.out)) (Nat.le_trans HBl.out.size (below_step HKs.out HK7.out).size) (by omega) (u := .slice xo t.length xc) rfl
                  have HR6 := hid hr6
                  have HO6 : Hid (w6.ownsRow W0.heap.size 26 1 v6 (i + 1) (vs ++ [.slice xo t.length xc])) := ho6
                  have hba := below_step (below_step HKs.out HK7.out) (below_alloc (.cells #[.slice xo t.length xc] 26))
                  have HW6 : Hid (OwR w6 W0.heap.size (vs ++ [.slice xo t.length xc]) ((l.take (i + 1)).map (shiftL d))) := by
                    have hstep : ∀ (j : Nat) (u : Value) (x : List Int), vs[j]? = some u → ((l.take i).map (shiftL d))[j]? = some x → OwI w6 W0.heap.size u x := fun j u x h1 h2 => by
                      have hu := HOr.out.2 j u x h1 h2
                      exact (hu.later hba).kept hg6 (ownsRow_apart (hu.later hba).2 (ownsRow_later HOw.out hba) (by decide))
                    have hnew : OwI w6 W0.heap.size (.slice xo t.length xc) (shiftL d t) := by
                      have h1 := ((HOx.out.mono HBl.out.size).later HK7.out).later (below_alloc (.cells #[.slice xo t.length xc] 26))
                      exact h1.kept hg6 (ownsRow_apart h1.2 (ownsRow_later HOw.out hba) (by decide))
                    rw [take_get HM.out, List.map_append]
                    refine ⟨by rw [List.length_append, List.length_append, HOr.out.1]; rfl, fun j u x hj hx => ?_⟩
                    by_cases hjl : j < vs.length
                    · rw [List.getElem?_append_left hjl] at hj
                      rw [List.getElem?_append_left (by rw [← HOr.out.1]; exact hjl)] at hx
                      exact hstep j u x hj hx
                    · rw [List.getElem?_append_right (by omega)] at hj
                      rw [List.getElem?_append_right (by rw [← HOr.out.1]; omega), ← HOr.out.1] at hx
                      have hj0 : j - vs.length = 0 := by
                        have := (List.getElem?_eq_some_iff.1 hj).1
                        simp at this
                        omega
                      rw [hj0] at hj hx
                      simp at hj hx
                      subst hj
                      subst hx
                      exact hnew
                  have HB6 : Hid (Below W0.heap.size W0 w6) := (below_step HBl.out hba).grown hg6 (below_step HBl.out hba).size (fun j hj => own_blk HOw.out hj)
                  have HAll2 : Hid (∀ t ∈ l.take (i + 1), okShift d t = true) := fun y hy => by
                    rw [take_get HM.out] at hy
                    rcases List.mem_append.1 hy with hy | hy
                    · exact HAll.out y hy
                    · simp at hy
                      subst hy
                      exact HOk.out
                  clear hr6 ho6 hg6 hba
                  go_wp2_with (first
                    | (at_builtin; refine wpList_append_run rfl _ _ _ rfl _ _ rfl rfl HR6.out ?_))
                  go_roundw
                  case rel => exact ⟨i + 1, _, by omega, by go_num, HAll2.out, HO6.out, HW6.out, HB6.out⟩
                  case measure => simp [intOf]; omega
          · obtain ⟨v6, w6, hr6, ho6, hg6⟩ := join_row 22 (ownsRow_later HOw.out (below_step HKs.out (Below.refl _ _))) (Nat.le_trans HBl.out.size (below_step HKs.out (Below.refl _ _)).size) (by omega) (u := .slice xo t.length xc) rfl
            have HR6 := hid hr6
            have HO6 : Hid (w6.ownsRow W0.heap.size 26 1 v6 (i + 1) (vs ++ [.slice xo t.length xc])) := ho6
            have hba := below_step (below_step HKs.out (Below.refl _ _)) (below_alloc (.cells #[.slice xo t.length xc] 26))
            have HW6 : Hid (OwR w6 W0.heap.size (vs ++ [.slice xo t.length xc]) ((l.take (i + 1)).map (shiftL d))) := by
              have hstep : ∀ (j : Nat) (u : Value) (x : List Int), vs[j]? = some u → ((l.take i).map (shiftL d))[j]? = some x → OwI w6 W0.heap.size u x := fun j u x h1 h2 => by
                have hu := HOr.out.2 j u x h1 h2
                exact (hu.later hba).kept hg6 (ownsRow_apart (hu.later hba).2 (ownsRow_later HOw.out hba) (by decide))
              have hnew : OwI w6 W0.heap.size (.slice xo t.length xc) (shiftL d t) := by
                have h1 := ((HOx.out.mono HBl.out.size).later (Below.refl _ _)).later (below_alloc (.cells #[.slice xo t.length xc] 26))
                exact h1.kept hg6 (ownsRow_apart h1.2 (ownsRow_later HOw.out hba) (by decide))
              rw [take_get HM.out, List.map_append]
              refine ⟨by rw [List.length_append, List.length_append, HOr.out.1]; rfl, fun j u x hj hx => ?_⟩
              by_cases hjl : j < vs.length
              · rw [List.getElem?_append_left hjl] at hj
                rw [List.getElem?_append_left (by rw [← HOr.out.1]; exact hjl)] at hx
                exact hstep j u x hj hx
              · rw [List.getElem?_append_right (by omega)] at hj
                rw [List.getElem?_append_right (by rw [← HOr.out.1]; omega), ← HOr.out.1] at hx
                have hj0 : j - vs.length = 0 := by
                  have := (List.getElem?_eq_some_iff.1 hj).1
                  simp at this
                  omega
                rw [hj0] at hj hx
                simp at hj hx
                subst hj
                subst hx
                exact hnew
            have HB6 : Hid (Below W0.heap.size W0 w6) := (below_step HBl.out hba).grown hg6 (below_step HBl.out hba).size (fun j hj => own_blk HOw.out hj)
            have HAll2 : Hid (∀ t ∈ l.take (i + 1), okShift d t = true) := fun y hy => by
              rw [take_get HM.out] at hy
              rcases List.mem_append.1 hy with hy | hy
              · exact HAll.out y hy
              · simp at hy
                subst hy
                exact HOk.out
            clear hr6 ho6 hg6 hba
            go_wp2_with (first
              | (at_builtin; refine wpList_append_run rfl _ _ _ rfl _ _ rfl rfl HR6.out ?_))
            go_roundw
            case rel => exact ⟨i + 1, _, by omega, by go_num, HAll2.out, HO6.out, HW6.out, HB6.out⟩
            case measure => simp [intOf]; omega
        · obtain ⟨v6, w6, hr6, ho6, hg6⟩ := join_row 22 (ownsRow_later HOw.out (below_step HKs.out (Below.refl _ _))) (Nat.le_trans HBl.out.size (below_step HKs.out (Below.refl _ _)).size) (by omega) (u := .slice xo t.length xc) rfl
          have HR6 := hid hr6
          have HO6 : Hid (w6.ownsRow W0.heap.size 26 1 v6 (i + 1) (vs ++ [.slice xo t.length xc])) := ho6
          have hba := below_step (below_step HKs.out (Below.refl _ _)) (below_alloc (.cells #[.slice xo t.length xc] 26))
          have HW6 : Hid (OwR w6 W0.heap.size (vs ++ [.slice xo t.length xc]) ((l.take (i + 1)).map (shiftL d))) := by
            have hstep : ∀ (j : Nat) (u : Value) (x : List Int), vs[j]? = some u → ((l.take i).map (shiftL d))[j]? = some x → OwI w6 W0.heap.size u x := fun j u x h1 h2 => by
              have hu := HOr.out.2 j u x h1 h2
              exact (hu.later hba).kept hg6 (ownsRow_apart (hu.later hba).2 (ownsRow_later HOw.out hba) (by decide))
            have hnew : OwI w6 W0.heap.size (.slice xo t.length xc) (shiftL d t) := by
              have h1 := ((HOx.out.mono HBl.out.size).later (Below.refl _ _)).later (below_alloc (.cells #[.slice xo t.length xc] 26))
              exact h1.kept hg6 (ownsRow_apart h1.2 (ownsRow_later HOw.out hba) (by decide))
            rw [take_get HM.out, List.map_append]
            refine ⟨by rw [List.length_append, List.length_append, HOr.out.1]; rfl, fun j u x hj hx => ?_⟩
            by_cases hjl : j < vs.length
            · rw [List.getElem?_append_left hjl] at hj
              rw [List.getElem?_append_left (by rw [← HOr.out.1]; exact hjl)] at hx
              exact hstep j u x hj hx
            · rw [List.getElem?_append_right (by omega)] at hj
              rw [List.getElem?_append_right (by rw [← HOr.out.1]; omega), ← HOr.out.1] at hx
              have hj0 : j - vs.length = 0 := by
                have := (List.getElem?_eq_some_iff.1 hj).1
                simp at this
                omega
              rw [hj0] at hj hx
              simp at hj hx
              subst hj
              subst hx
              exact hnew
          have HB6 : Hid (Below W0.heap.size W0 w6) := (below_step HBl.out hba).grown hg6 (below_step HBl.out hba).size (fun j hj => own_blk HOw.out hj)
          have HAll2 : Hid (∀ t ∈ l.take (i + 1), okShift d t = true) := fun y hy => by
            rw [take_get HM.out] at hy
            rcases List.mem_append.1 hy with hy | hy
            · exact HAll.out y hy
            · simp at hy
              subst hy
              exact HOk.out
          clear hr6 ho6 hg6 hba
          go_wp2_with (first
            | (at_builtin; refine wpList_append_run rfl _ _ _ rfl _ _ rfl rfl HR6.out ?_))
          go_roundw
          case rel => exact ⟨i + 1, _, by omega, by go_num, HAll2.out, HO6.out, HW6.out, HB6.out⟩
          case measure => simp [intOf]; omega
      · have hsl := (shiftL_no hok).2
        rw [(shiftL_no hok).1]
        rw [hsl] at ho5
        obtain ⟨xo, xc, rfl, _, _⟩ := ho5.shape
        have HBe := hid (below_step HB0.out (below_step HBl.out HKs.out))
        clear ho5 hb5 hok hsl
        go_wp2
        go_ret
        exact ⟨rfl, HBe.out⟩
    · have hie : i = l.length := by omega
      subst hie
      rw [List.take_length] at HAll HOr
      obtain ⟨c1, c2⟩ := canL_shifted HAll.out
      have hml : (l.map (shiftL d)).length = l.length := by simp
      have HRm : Hid (Rs wr u7 (l.map (shiftL d))) := rs_of_own (by rw [hml]; exact HOw.out) HOr.out (lens_small c2 HSm.out)
      have HC1 := hid c1
      have HC2 := hid c2
      clear c1 c2
      go_wp2_with fail
      refine (canon_any u7 (l.map (shiftL d)) wr HRm.out (by rw [hml]; exact hn) (by rw [HC2.out]; exact hsum)).mono ?_
      rintro e w6 ⟨v6, vs6, rfl, ho6, hr6, hb6⟩
      have HR6 : Hid (Rs w6 v6 (canL (l.map (shiftL d)))) := rs_of_own (by rw [canL_length]; exact ho6) hr6 (lens_small (canG_lens _ []) (lens_small HC2.out HSm.out))
      rw [HC1.out] at HR6
      have HB6 := hid (below_step HBl.out hb6)
      clear ho6 hr6 hb6
      go_wp2_with fail
      refine (sameAll_any v6 va _ _ w6 HR6.out (HA0.out.kp (Kp.of_below HB6.out))).mono ?_
      rintro e w7 ⟨rfl, hb7⟩
      rw [decide_eq_true rfl]
      have HB7 := hid (below_step HB0.out (below_step HB6.out hb7))
      clear hb7
      go_wp2
      go_ret
      exact ⟨rfl, HB7.out⟩

end Go.Proofs.YtifpanfgojfbkabDoor
