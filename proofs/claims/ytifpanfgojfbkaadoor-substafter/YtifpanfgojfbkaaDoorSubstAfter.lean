/- SubstAfter. -/
import Derived.Test.YtifpanfgojfbkaaDoorTBindW
import Derived.Test.YtifpanfgojfbkaaDoorTAfterB
import Derived.Test.YtifpanfgojfbkaaDoorSubstApplies
namespace Go.Proofs.YtifpanfgojfbkaaDoor
open Go.RowKit Go.Maps Go.BigFrame

/-- How far the merging is. -/
def Mer (sig : List Sy) (s r acc : List Bd) (i k : Nat) : Prop := merge (fun u => applyL sig r u) s r = acc ++ merge (fun u => applyL sig r u) (s.drop i) (r.drop k) ∧ (∀ b ∈ s.take i, applyE sig r b.2 = 0) ∧ acc.length ≤ i + k ∧ (i = 0 ∨ r.length ≤ 1048576)

theorem Bs.drop {w : World} {g off rc k : Nat} {spot : Option Nat} {r : List Bd} (h : Bs w (.slice (some ⟨g, off, spot⟩) r.length rc) r) (hk : k ≤ r.length) : Bs w (.slice (some ⟨g, off + k * 2, spot⟩) (r.length - k) (rc - k)) (r.drop k) := by
  obtain ⟨ao, cp, hv, hc, hm, hx⟩ := h
  simp only [Value.slice.injEq, true_and] at hv
  obtain ⟨rfl, rfl⟩ := hv
  refine ⟨_, rc - k, by rw [List.length_drop], by rw [List.length_drop]; omega, by omega, fun h0 => ?_⟩
  rw [List.length_drop] at h0
  obtain ⟨g', off', e, hg, hcell⟩ := hx (by omega)
  simp only [Option.some.injEq, Addr.mk.injEq] at e
  obtain ⟨rfl, rfl, rfl⟩ := e
  refine ⟨g, off + k * 2, rfl, hg, fun j b hj => ?_⟩
  rw [List.getElem?_drop] at hj
  have := hcell (k + j) b hj
  rw [show off + k * 2 + j * 2 = off + (k + j) * 2 by omega]
  exact this

set_option maxRecDepth 100000 in
set_option maxHeartbeats 1000000 in
theorem substAfter_any (sv bv rv v : Value) (sig : List Sy) (s r : List Bd) (t : List Int) (w : World) (hs : Sg w sv sig) (hB : Bs w bv s) (hR : Bs w rv r) (hI : Is w v t) (hT : Tabs w) (hbr : r.length * 32 ≤ 140737488351232) (ht : t.length * 8 ≤ 140737488351232) :
    Calls Tryd.prog 7 #[sv, bv, rv, v] w fun e w' => e = .returned (.bool true) ∧ Below w.heap.size w w' := by
  obtain ⟨so, sc, rfl, hso, hsc, _⟩ := Row.flat hB
  obtain ⟨ro, rc, rfl, hro, hrc, _⟩ := Row.flat hR
  unfold maxLen at hsc hrc
  have HS := hid hs
  have HBs := hid hB
  have HRs := hid hR
  have HI := hid hI
  have HT := hid hT
  clear hs hB hT hI hR
  go_enter Tryd.func7, Tryd.ntmps7
  go_wp2_with fail
  refine (shown_any w HT.out).mono ?_
  rintro e w1 ⟨rfl, hb1⟩
  have HB1 := hid hb1
  clear hb1
  go_wp2_with fail
  refine (apply_any sv _ v sig s t w1 (HS.out.kp (Kp.of_below HB1.out)) (HBs.out.kp (Kp.of_below HB1.out)) (HI.out.kp (Kp.of_below HB1.out)) (HT.out.below HB1.out) ht).mono ?_
  rintro e w2 ⟨a2, rfl, ho2, hb2⟩
  have HB2 := hid (below_step HB1.out hb2)
  by_cases he : applyE sig s t = 0
  · have HE := hid he
    have hl2 := applyL_len sig s t
    have HA2 := hid ho2.is
    rw [he]
    clear ho2 hb2 HB1 he
    go_wp2_with fail
    refine (apply_any sv _ a2 sig r (applyL sig s t) w2 (HS.out.kp (Kp.of_below HB2.out)) (HRs.out.kp (Kp.of_below HB2.out)) HA2.out (HT.out.below HB2.out) (by omega)).mono ?_
    rintro e w3 ⟨a3, rfl, ho3, hb3⟩
    have HA3 := hid ho3.is
    have HB3 := hid (below_step HB2.out hb3)
    have HR3 := hid (HRs.out.kp (Kp.of_below HB3.out))
    have HS3 := hid (HBs.out.kp (Kp.of_below HB3.out))
    clear ho3 hb3 hl2 HA2
    obtain ⟨F, hF⟩ : ∃ F, F = applyE sig r (applyL sig s t) := ⟨_, rfl⟩
    obtain ⟨ys, hys⟩ : ∃ ys, ys = applyL sig r (applyL sig s t) := ⟨_, rfl⟩
    rw [← hF]
    rw [← hys] at HA3
    have HF := hid hF
    have HYs := hid hys
    have hfew : s.length ≤ 1048576 := binds_few (apply_ok HE.out).1
    clear hF hys
    go_wp2
    go_loopw [14, 15, 16] (fun x kv iv wr => ∃ (i k : Nat) (acc : List Bd), i ≤ s.length ∧ k ≤ r.length ∧ kv = .int .i64 k ∧ iv = .int .i64 i ∧ Mer sig s r acc i k ∧ OB w3 wr x acc ∧ Below w3.heap.size w3 wr) (fun _ _ iv _ => s.length - (intOf iv).toNat)
    case atStart => exact ⟨0, 0, [], Nat.zero_le _, Nat.zero_le _, rfl, rfl, ⟨rfl, fun b hb => (by simp at hb), by simp, .inl rfl⟩, OB.empty w3 w3 (Nat.le_refl _), below_alloc _⟩
    case round =>
      obtain ⟨i, k, acc, hi, hk, rfl, rfl, hmer, hob, hbl⟩ := hrel
      by_cases hlt : i < s.length
      · obtain ⟨g, off, x, ba, u, bc, rfl, hm, hc0, hc1, hit, hx1, hx2, hx3⟩ := HS3.out.at hlt
        have HM := hid hm
        have HIu := hid hit
        have HDs : Hid (s.drop i = (x, u) :: s.drop (i + 1)) := drop_get hm
        clear hm hit
        go_wp2_with fail
        go_loopw [14, 15] (fun y kv wy => ∃ (k : Nat) (acc : List Bd), k ≤ r.length ∧ kv = .int .i64 k ∧ Mer sig s r acc i k ∧ OB w3 wy y acc ∧ Below w3.heap.size w3 wy) (fun _ kv _ => r.length - (intOf kv).toNat)
        case atStart => exact ⟨k, acc, hk, rfl, hmer, hob, hbl⟩
        case round =>
          clear hmer hob hbl hk
          obtain ⟨k, acc, hk, rfl, hmer, hob, hbl⟩ := hrel
          have HMer := hid hmer
          have HOb := hid hob
          have HBl := hid hbl
          have hd0 := (Kp.of_below hbl).cell _ _ hc0
          have hd1 := (Kp.of_below hbl).cell _ _ hc1
          clear hmer hob hbl
          by_cases hkr : k < r.length
          · obtain ⟨g2, off2, y, ya, yu, yc, hq, hm2, hr0, hr1, hiy, hy1, hy2, hy3⟩ := HR3.out.at hkr
            have HIy := hid hiy
            have HDr : Hid (r.drop k = (y, yu) :: r.drop (k + 1)) := drop_get hm2
            subst hq
            have hs0 := (Kp.of_below HBl.out).cell _ _ hr0
            have hs1 := (Kp.of_below HBl.out).cell _ _ hr1
            clear hm2 hiy
            by_cases hyx : y < x
            · go_wp2
              go_quiet (fail)
              have HOq := hid (HOb.out.later (below_drewN (Below.refl wr.heap.size wr) nq))
              have HBq := hid (below_drewN HBl.out nq)
              obtain ⟨v6, w6, hr6, ho6, hb6⟩ := HOq.out.snoc 23 (x := y) (t := yu) HBq.out ⟨.inr HIy.out, hy1, hy2, hy3⟩ (by
                obtain ⟨_, _, m3, m4⟩ := HMer.out
                omega)
              have HR6 := hid hr6
              have HO6 := hid ho6
              have HB6 := hid hb6
              have HMer2 : Hid (Mer sig s r (acc ++ [(y, yu)]) i (k + 1)) := by
                obtain ⟨m1, m2, m3, m4⟩ := HMer.out
                refine ⟨?_, m2, by rw [List.length_append]; simp only [List.length_cons, List.length_nil]; omega, m4⟩
                rw [m1, HDs.out, HDr.out, merge_less _ _ _ _ _ hyx, List.append_assoc]
                rfl
              clear hr6 ho6 hb6
              go_wp2_with (first
                | (at_builtin; refine wpList_append_run rfl _ _ _ rfl _ _ rfl rfl HR6.out ?_))
              go_roundw
              case rel => exact ⟨k + 1, _, by omega, by go_num, HMer2.out, HO6.out, HB6.out⟩
              case measure => simp [intOf]; omega
            · by_cases hye : y = x
              · have hyb : (y == x) = true := by rw [beq_iff_eq]; exact hye
                have HNext : Hid (merge (fun u => applyL sig r u) s r = acc ++ ((x, applyL sig r u) :: merge (fun u => applyL sig r u) (s.drop (i + 1)) (r.drop (k + 1)))) := by
                  show _ = _
                  rw [HMer.out.1, HDs.out, HDr.out, merge_same _ _ _ _ _ hye]
                go_wp2
                go_quiet (fail)
                have HBq1 := hid (below_drewN HBl.out nq)
                have HObq1 := hid (HOb.out.later (below_drewN (Below.refl wr.heap.size wr) nq))
                go_wp2
                go_quiet (fail)
                have HBq := hid (below_drewN HBq1.out nq)
                have HObq := hid (HObq1.out.later (below_drewN (Below.refl _ _) nq))
                rw [World.drewN_drewN] at HBq HObq
                clear HBq1 HObq1
                go_wp2_with fail
                refine (apply_any sv _ _ sig r u _ (HS.out.kp (Kp.of_below (below_step HB3.out HBq.out))) (HR3.out.kp (Kp.of_below HBq.out)) (HIu.out.kp (Kp.of_below HBq.out)) (HT.out.below (below_step HB3.out HBq.out)) hx3).mono ?_
                rintro e w5 ⟨a5, rfl, ho5, hb5⟩
                have HB5 := hid (below_step HBq.out hb5)
                have HO5 := hid ho5
                have HOb5 := hid (HObq.out.later hb5)
                have hf0 := (Kp.of_below HB5.out).cell _ _ hc0
                have hf1 := (Kp.of_below HB5.out).cell _ _ hc1
                clear ho5 hb5 HObq
                by_cases heu : applyE sig r u = 0
                · have hl5 := applyL_len sig r u
                  have HMer2 : Hid (Mer sig s r (acc ++ [(x, applyL sig r u)]) (i + 1) (k + 1)) := by
                    obtain ⟨m1, m2, m3, m4⟩ := HMer.out
                    refine ⟨?_, fun b hb => ?_, by rw [List.length_append]; simp only [List.length_cons, List.length_nil]; omega, .inr (binds_few (apply_ok heu).1)⟩
                    · rw [HNext.out, List.append_assoc]; rfl
                    · rw [List.take_add_one, HM.out] at hb
                      rcases List.mem_append.1 hb with hb | hb
                      · exact m2 b hb
                      · simp at hb
                        subst hb
                        exact heu
                  rw [heu]
                  clear heu
                  generalize applyL sig r u = zs at HO5 hl5 HMer2
                  obtain ⟨zo, zc, rfl, _, _⟩ := HO5.out.shape
                  obtain ⟨v6, w6, hr6, ho6, hb6⟩ := HOb5.out.snoc 23 (x := x) (t := zs) HB5.out ⟨.inl (HO5.out.mono HBq.out.size), hx1, hx2, by simp only; omega⟩ (by
                    obtain ⟨_, _, m3, m4⟩ := HMer.out
                    omega)
                  have HR6 := hid hr6
                  have HO6 := hid ho6
                  have HB6 := hid hb6
                  clear hr6 ho6 hb6
                  go_wp2_with (first
                    | (at_builtin; refine wpList_append_run rfl _ _ _ rfl _ _ rfl rfl HR6.out ?_))
                  go_roundw
                  case rel => exact ⟨i + 1, k + 1, _, by omega, by omega, by go_num, by go_num, HMer2.out, HO6.out, HB6.out⟩
                  case measure => simp [intOf]; omega
                · generalize applyE sig r u = E at heu ⊢
                  have heb : (E != 0) = true := by simpa using heu
                  have HBe := hid (below_step HB3.out HB5.out)
                  go_wp2
                  go_ret
                  exact ⟨rfl, HBe.out⟩
              · have hyb : (y == x) = false := by rw [beq_eq_false_iff_ne]; exact hye
                have HNext : Hid (merge (fun u => applyL sig r u) s r = acc ++ ((x, applyL sig r u) :: merge (fun u => applyL sig r u) (s.drop (i + 1)) (r.drop k))) := by
                  show _ = _
                  rw [HMer.out.1, HDs.out, merge_more _ _ _ _ (fun c hc => by rw [HDr.out] at hc; simp at hc; subst hc; simp only; omega)]
                go_wp2
                go_quiet (fail)
                have HBq1 := hid (below_drewN HBl.out nq)
                have HObq1 := hid (HOb.out.later (below_drewN (Below.refl wr.heap.size wr) nq))
                go_wp2
                go_quiet (fail)
                have HBq := hid (below_drewN HBq1.out nq)
                have HObq := hid (HObq1.out.later (below_drewN (Below.refl _ _) nq))
                rw [World.drewN_drewN] at HBq HObq
                clear HBq1 HObq1
                go_wp2_with fail
                refine (apply_any sv _ _ sig r u _ (HS.out.kp (Kp.of_below (below_step HB3.out HBq.out))) (HR3.out.kp (Kp.of_below HBq.out)) (HIu.out.kp (Kp.of_below HBq.out)) (HT.out.below (below_step HB3.out HBq.out)) hx3).mono ?_
                rintro e w5 ⟨a5, rfl, ho5, hb5⟩
                have HB5 := hid (below_step HBq.out hb5)
                have HO5 := hid ho5
                have HOb5 := hid (HObq.out.later hb5)
                have hf0 := (Kp.of_below HB5.out).cell _ _ hc0
                have hf1 := (Kp.of_below HB5.out).cell _ _ hc1
                clear ho5 hb5 HObq
                by_cases heu : applyE sig r u = 0
                · have hl5 := applyL_len sig r u
                  have HMer2 : Hid (Mer sig s r (acc ++ [(x, applyL sig r u)]) (i + 1) (k)) := by
                    obtain ⟨m1, m2, m3, m4⟩ := HMer.out
                    refine ⟨?_, fun b hb => ?_, by rw [List.length_append]; simp only [List.length_cons, List.length_nil]; omega, .inr (binds_few (apply_ok heu).1)⟩
                    · rw [HNext.out, List.append_assoc]; rfl
                    · rw [List.take_add_one, HM.out] at hb
                      rcases List.mem_append.1 hb with hb | hb
                      · exact m2 b hb
                      · simp at hb
                        subst hb
                        exact heu
                  rw [heu]
                  clear heu
                  generalize applyL sig r u = zs at HO5 hl5 HMer2
                  obtain ⟨zo, zc, rfl, _, _⟩ := HO5.out.shape
                  obtain ⟨v6, w6, hr6, ho6, hb6⟩ := HOb5.out.snoc 23 (x := x) (t := zs) HB5.out ⟨.inl (HO5.out.mono HBq.out.size), hx1, hx2, by simp only; omega⟩ (by
                    obtain ⟨_, _, m3, m4⟩ := HMer.out
                    omega)
                  have HR6 := hid hr6
                  have HO6 := hid ho6
                  have HB6 := hid hb6
                  clear hr6 ho6 hb6
                  go_wp2_with (first
                    | (at_builtin; refine wpList_append_run rfl _ _ _ rfl _ _ rfl rfl HR6.out ?_))
                  go_roundw
                  case rel => exact ⟨i + 1, k, _, by omega, by omega, by go_num, by go_num, HMer2.out, HO6.out, HB6.out⟩
                  case measure => simp [intOf]; omega
                · generalize applyE sig r u = E at heu ⊢
                  have heb : (E != 0) = true := by simpa using heu
                  have HBe := hid (below_step HB3.out HB5.out)
                  go_wp2
                  go_ret
                  exact ⟨rfl, HBe.out⟩
          · have HNext : Hid (merge (fun u => applyL sig r u) s r = acc ++ ((x, applyL sig r u) :: merge (fun u => applyL sig r u) (s.drop (i + 1)) (r.drop k))) := by
              show _ = _
              rw [HMer.out.1, HDs.out, merge_more _ _ _ _ (fun c hc => by rw [List.drop_of_length_le (by omega)] at hc; simp at hc)]
            go_wp2
            go_quiet (fail)
            have HBq1 := hid (below_drewN HBl.out nq)
            have HObq1 := hid (HOb.out.later (below_drewN (Below.refl wr.heap.size wr) nq))
            go_wp2
            go_quiet (fail)
            have HBq := hid (below_drewN HBq1.out nq)
            have HObq := hid (HObq1.out.later (below_drewN (Below.refl _ _) nq))
            rw [World.drewN_drewN] at HBq HObq
            clear HBq1 HObq1
            go_wp2_with fail
            refine (apply_any sv _ _ sig r u _ (HS.out.kp (Kp.of_below (below_step HB3.out HBq.out))) (HR3.out.kp (Kp.of_below HBq.out)) (HIu.out.kp (Kp.of_below HBq.out)) (HT.out.below (below_step HB3.out HBq.out)) hx3).mono ?_
            rintro e w5 ⟨a5, rfl, ho5, hb5⟩
            have HB5 := hid (below_step HBq.out hb5)
            have HO5 := hid ho5
            have HOb5 := hid (HObq.out.later hb5)
            have hf0 := (Kp.of_below HB5.out).cell _ _ hc0
            have hf1 := (Kp.of_below HB5.out).cell _ _ hc1
            clear ho5 hb5 HObq
            by_cases heu : applyE sig r u = 0
            · have hl5 := applyL_len sig r u
              have HMer2 : Hid (Mer sig s r (acc ++ [(x, applyL sig r u)]) (i + 1) (k)) := by
                obtain ⟨m1, m2, m3, m4⟩ := HMer.out
                refine ⟨?_, fun b hb => ?_, by rw [List.length_append]; simp only [List.length_cons, List.length_nil]; omega, .inr (binds_few (apply_ok heu).1)⟩
                · rw [HNext.out, List.append_assoc]; rfl
                · rw [List.take_add_one, HM.out] at hb
                  rcases List.mem_append.1 hb with hb | hb
                  · exact m2 b hb
                  · simp at hb
                    subst hb
                    exact heu
              rw [heu]
              clear heu
              generalize applyL sig r u = zs at HO5 hl5 HMer2
              obtain ⟨zo, zc, rfl, _, _⟩ := HO5.out.shape
              obtain ⟨v6, w6, hr6, ho6, hb6⟩ := HOb5.out.snoc 23 (x := x) (t := zs) HB5.out ⟨.inl (HO5.out.mono HBq.out.size), hx1, hx2, by simp only; omega⟩ (by
                obtain ⟨_, _, m3, m4⟩ := HMer.out
                omega)
              have HR6 := hid hr6
              have HO6 := hid ho6
              have HB6 := hid hb6
              clear hr6 ho6 hb6
              go_wp2_with (first
                | (at_builtin; refine wpList_append_run rfl _ _ _ rfl _ _ rfl rfl HR6.out ?_))
              go_roundw
              case rel => exact ⟨i + 1, k, _, by omega, by omega, by go_num, by go_num, HMer2.out, HO6.out, HB6.out⟩
              case measure => simp [intOf]; omega
            · generalize applyE sig r u = E at heu ⊢
              have heb : (E != 0) = true := by simpa using heu
              have HBe := hid (below_step HB3.out HB5.out)
              go_wp2
              go_ret
              exact ⟨rfl, HBe.out⟩
      · have hie : i = s.length := by omega
        have HBoth : Hid (merge (fun u => applyL sig r u) s r = acc ++ r.drop k ∧ (∀ b ∈ s, applyE sig r b.2 = 0) ∧ (acc.length + (r.drop k).length) * 32 ≤ 140737488355328) := by
          obtain ⟨m1, m2, m3, m4⟩ := hmer
          rw [hie, List.take_length] at m2
          refine ⟨?_, m2, by rw [List.length_drop]; omega⟩
          rw [m1, List.drop_of_length_le (by omega)]
          rfl
        have HOb := hid hob
        have HBl := hid hbl
        clear hmer hob hbl
        cases ro with
        | none =>
          have hr0 : r.length = 0 := by
            by_cases h0 : 0 < r.length
            · obtain ⟨_, _, _, _, _, _, h9, _⟩ := HR3.out.at h0
              cases h9
            · omega
          have HDr : Hid (Bs w3 (.slice none 0 rc) (r.drop k)) := by
            rw [List.drop_of_length_le (by omega)]
            exact Row.nil (by unfold maxLen; omega)
          obtain ⟨v6, w6, hr6, ho6, hb6⟩ := HOb.out.old 23 HBl.out HDr.out HBoth.out.2.2
          rw [← HBoth.out.1] at ho6
          have HR6 := hid hr6
          have HO6 := hid (ho6.bs hb6)
          have HB6 := hid (below_step HB3.out hb6)
          have HK6 := hid hb6
          obtain ⟨bo, bc, rfl, _, hbc⟩ := HOb.out.shape
          unfold maxLen at hbc
          clear hr6 ho6 hb6 HDr
          go_wp2_with (first
            | (at_builtin; refine wpList_append_run rfl _ _ _ rfl _ _ rfl rfl HR6.out ?_))
          refine (apply_any sv v6 v sig _ t w6 (HS.out.kp (Kp.of_below HB6.out)) HO6.out (HI.out.kp (Kp.of_below HB6.out)) (HT.out.below HB6.out) ht).mono ?_
          rintro e w7 ⟨a7, rfl, ho7, hb7⟩
          have hab := after_both HE.out HBoth.out.2.1
          rw [← hab.1, ← HF.out]
          rw [← hab.2, ← HYs.out] at ho7
          have HA7 := hid ho7.is
          have HK7 := hid (below_step HK6.out hb7)
          have HB7 := hid (below_step HB6.out hb7)
          have hFF : (F == F) = true := by simp
          clear hab ho7 hb7
          go_wp2_with fail
          refine (same_any a3 a7 ys ys w7 (HA3.out.kp (Kp.of_below HK7.out)) HA7.out).mono ?_
          rintro e w8 ⟨rfl, n8, hw8⟩
          rw [decide_eq_true rfl]
          have HB8 := hid (below_step HB7.out (drawn_below hw8))
          clear hw8
          go_wp2
          go_ret
          exact ⟨rfl, HB8.out⟩
        | some ad =>
          obtain ⟨g, off, spot⟩ := ad
          by_cases hr0 : r.length = 0
          · have hk0 : k = 0 := by omega
            subst hk0
            have HDr : Hid (Bs w3 (.slice (some ⟨g, off, spot⟩) 0 rc) (r.drop 0)) := by
              rw [List.drop_of_length_le (by omega)]
              exact Row.nil (by unfold maxLen; omega)
            obtain ⟨v6, w6, hr6, ho6, hb6⟩ := HOb.out.old 23 HBl.out HDr.out HBoth.out.2.2
            rw [← HBoth.out.1] at ho6
            have HR6 := hid hr6
            have HO6 := hid (ho6.bs hb6)
            have HB6 := hid (below_step HB3.out hb6)
            have HK6 := hid hb6
            obtain ⟨bo, bc, rfl, _, hbc⟩ := HOb.out.shape
            unfold maxLen at hbc
            clear hr6 ho6 hb6 HDr
            go_wp2_with (first
              | (at_builtin; refine wpList_append_run rfl _ _ _ rfl _ _ rfl rfl HR6.out ?_))
            refine (apply_any sv v6 v sig _ t w6 (HS.out.kp (Kp.of_below HB6.out)) HO6.out (HI.out.kp (Kp.of_below HB6.out)) (HT.out.below HB6.out) ht).mono ?_
            rintro e w7 ⟨a7, rfl, ho7, hb7⟩
            have hab := after_both HE.out HBoth.out.2.1
            rw [← hab.1, ← HF.out]
            rw [← hab.2, ← HYs.out] at ho7
            have HA7 := hid ho7.is
            have HK7 := hid (below_step HK6.out hb7)
            have HB7 := hid (below_step HB6.out hb7)
            have hFF : (F == F) = true := by simp
            clear hab ho7 hb7
            go_wp2_with fail
            refine (same_any a3 a7 ys ys w7 (HA3.out.kp (Kp.of_below HK7.out)) HA7.out).mono ?_
            rintro e w8 ⟨rfl, n8, hw8⟩
            rw [decide_eq_true rfl]
            have HB8 := hid (below_step HB7.out (drawn_below hw8))
            clear hw8
            go_wp2
            go_ret
            exact ⟨rfl, HB8.out⟩
          · obtain ⟨g', off', y, ya, yu, yc, hq, _⟩ := HR3.out.at (k := 0) (by omega)
            cases hq
            by_cases hrk : rc = k
            · have hk2 : k = r.length := by omega
              subst hk2
              subst hrk
              have HDr : Hid (Bs w3 (.slice (some ⟨g, off, none⟩) 0 0) (r.drop r.length)) := by
                rw [List.drop_length]
                exact Row.nil (by unfold maxLen; omega)
              obtain ⟨v6, w6, hr6, ho6, hb6⟩ := HOb.out.old 23 HBl.out HDr.out HBoth.out.2.2
              rw [← HBoth.out.1] at ho6
              have HR6 := hid hr6
              have HO6 := hid (ho6.bs hb6)
              have HB6 := hid (below_step HB3.out hb6)
              have HK6 := hid hb6
              obtain ⟨bo, bc, rfl, _, hbc⟩ := HOb.out.shape
              unfold maxLen at hbc
              clear hr6 ho6 hb6 HDr
              go_wp2_with (first
                | (at_builtin; refine wpList_append_run rfl _ _ _ rfl _ _ rfl rfl HR6.out ?_))
              refine (apply_any sv v6 v sig _ t w6 (HS.out.kp (Kp.of_below HB6.out)) HO6.out (HI.out.kp (Kp.of_below HB6.out)) (HT.out.below HB6.out) ht).mono ?_
              rintro e w7 ⟨a7, rfl, ho7, hb7⟩
              have hab := after_both HE.out HBoth.out.2.1
              rw [← hab.1, ← HF.out]
              rw [← hab.2, ← HYs.out] at ho7
              have HA7 := hid ho7.is
              have HK7 := hid (below_step HK6.out hb7)
              have HB7 := hid (below_step HB6.out hb7)
              have hFF : (F == F) = true := by simp
              clear hab ho7 hb7
              go_wp2_with fail
              refine (same_any a3 a7 ys ys w7 (HA3.out.kp (Kp.of_below HK7.out)) HA7.out).mono ?_
              rintro e w8 ⟨rfl, n8, hw8⟩
              rw [decide_eq_true rfl]
              have HB8 := hid (below_step HB7.out (drawn_below hw8))
              clear hw8
              go_wp2
              go_ret
              exact ⟨rfl, HB8.out⟩
            · have HDr := hid (HR3.out.drop hk)
              obtain ⟨v6, w6, hr6, ho6, hb6⟩ := HOb.out.old 23 HBl.out HDr.out HBoth.out.2.2
              rw [← HBoth.out.1] at ho6
              have HR6 := hid hr6
              have HO6 := hid (ho6.bs hb6)
              have HB6 := hid (below_step HB3.out hb6)
              have HK6 := hid hb6
              obtain ⟨bo, bc, rfl, _, hbc⟩ := HOb.out.shape
              unfold maxLen at hbc
              clear hr6 ho6 hb6 HDr
              go_wp2_with (first
                | (at_builtin; refine wpList_append_run rfl _ _ _ rfl _ _ rfl rfl HR6.out ?_))
              refine (apply_any sv v6 v sig _ t w6 (HS.out.kp (Kp.of_below HB6.out)) HO6.out (HI.out.kp (Kp.of_below HB6.out)) (HT.out.below HB6.out) ht).mono ?_
              rintro e w7 ⟨a7, rfl, ho7, hb7⟩
              have hab := after_both HE.out HBoth.out.2.1
              rw [← hab.1, ← HF.out]
              rw [← hab.2, ← HYs.out] at ho7
              have HA7 := hid ho7.is
              have HK7 := hid (below_step HK6.out hb7)
              have HB7 := hid (below_step HB6.out hb7)
              have hFF : (F == F) = true := by simp
              clear hab ho7 hb7
              go_wp2_with fail
              refine (same_any a3 a7 ys ys w7 (HA3.out.kp (Kp.of_below HK7.out)) HA7.out).mono ?_
              rintro e w8 ⟨rfl, n8, hw8⟩
              rw [decide_eq_true rfl]
              have HB8 := hid (below_step HB7.out (drawn_below hw8))
              clear hw8
              go_wp2
              go_ret
              exact ⟨rfl, HB8.out⟩
  · have hlz : applyL sig s t = [] := by
      unfold applyL
      unfold applyE at he
      by_cases h1 : bindE sig s = 0
      · rw [if_pos h1] at he ⊢
        by_cases h2 : termE sig t = 0
        · rw [if_pos h2] at he ⊢
          obtain ⟨e1, e2⟩ := lay_eq (bnd s) t
          rw [e1] at he
          rw [e2]
          by_cases h3 : 512 < (laidL (bnd s) t).length
          · rw [if_pos h3]
          · rw [if_neg h3] at he
            exact absurd rfl he
        · rw [if_neg h2]
      · rw [if_neg h1]
    rw [hlz] at ho2
    obtain ⟨bo, bc, rfl, _, hbc⟩ := ho2.shape
    clear hlz ho2 hb2
    generalize applyE sig s t = E at he ⊢
    have heb : (E != 0) = true := by simpa using he
    go_wp2
    go_ret
    exact ⟨rfl, HB2.out⟩

end Go.Proofs.YtifpanfgojfbkaaDoor
