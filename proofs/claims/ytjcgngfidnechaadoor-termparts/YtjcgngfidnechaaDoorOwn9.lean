/- The places of a term are those of a tree: TermParts walked for every row over every signature. -/
import Derived.Test.YtjcgngfidnechaaDoorOwn7
import Derived.Test.YtjcgngfidnechaaDoorOwn8
namespace Go.Proofs.YtjcgngfidnechaaDoor
open Go.RowKit Go.Maps Go.BigFrame

theorem above_nat {sig : List Sy} {t : List Int} {i : Nat} (h : placeE sig t i = 0) : aboveL sig t i = (abD sig t i).map fun a : Nat => (a : Int) := by
  unfold aboveL
  rw [if_pos h, Int.toNat_natCast]

theorem term_of3 {sig : List Sy} {t u : List Int} (h : termE sig t = 0) (hu : rowE sig u = 0) : termE sig u = 0 := by
  unfold termE
  rw [if_pos (term_parts h).1]
  exact hu

theorem map_at {l : List Nat} {k a : Nat} (h : l[k]? = some a) : (l.map fun a : Nat => (a : Int))[k]? = some (a : Int) := by
  rw [List.getElem?_map, h]
  rfl

theorem row_place {w : World} {v : Value} {xs : List Int} {k : Nat} {x : Int} {base : Nat} (h : OwI w base v xs) (hk : xs[k]? = some x) : ∃ g cap, v = .slice (some ⟨g, 0, none⟩) xs.length cap ∧ w.cell? ⟨g, k, none⟩ = some (.int .i64 x) ∧ w.frozen? ⟨g, k, none⟩ = false ∧ base ≤ g := by
  obtain ⟨g, cap, rfl⟩ := own_form h.2 (by have := (List.getElem?_eq_some_iff.1 hk).1; omega)
  exact ⟨g, cap, rfl, (h.at hk).1, (h.at hk).2, own_ge h.2⟩

set_option maxRecDepth 100000 in
set_option maxHeartbeats 1600000 in
theorem termParts_any (sv v : Value) (sig : List Sy) (t : List Int) (w : World) (hs : Sg w sv sig) (h : Is w v t) (hT : Tabs w) (hb : t.length * 8 ≤ 140737488351232) :
    Calls Tryd.prog 7 #[sv, v] w fun e w' => e = .returned (.bool true) ∧ Below w.heap.size w w' := by
  obtain ⟨so, sc, rfl, hso, hsc, _⟩ := Row.flat hs
  obtain ⟨ao, cap, rfl, hao, hca, _⟩ := Row.flat h
  unfold maxLen at hca hsc
  obtain ⟨i0, hii, hz0, hz1, hz2⟩ := info_parts info_int
  have HS := hid hs
  have HT := hid hT
  have HI := hid h
  clear hs hT h
  go_enter Tryd.func7, Tryd.ntmps7
  go_wp2_with fail
  refine (shown3_any w HT.out).mono ?_
  rintro e w1 ⟨rfl, hb1⟩
  have B1 := hid hb1
  clear hb1
  go_wp2_with fail
  refine (check_any _ _ sig t w1 (HS.out.kp (Kp.of_below B1.out)) (HI.out.kp (Kp.of_below B1.out)) (HT.out.below B1.out) hb).mono ?_
  rintro e w2 ⟨rfl, hb2⟩
  have B2 := hid (below_step B1.out hb2)
  clear hb2
  go_wp2_with fail
  refine (refCheck_any _ _ sig t w2 (HS.out.kp (Kp.of_below B2.out)) (HI.out.kp (Kp.of_below B2.out)) hb).mono ?_
  rintro e w3 ⟨rfl, hb3⟩
  have B3 := hid (below_step B2.out hb3)
  clear hb3
  by_cases hte : termE sig t = 0
  · have HTe := hid hte
    have HRt := hid (term_parts hte).2
    have HA := hid (sigE_ok (term_parts hte).1)
    rw [hte]
    clear hte
    by_cases h200 : 200 < t.length
    · have h2 : (200 : Int) < (t.length : Int) := by omega
      go_wp2
      go_ret
      exact ⟨rfl, B3.out⟩
    · have h2 : ¬ (200 : Int) < (t.length : Int) := by omega
      go_wp2_with (first
        | (at_make; refine wpList_make_full _ rfl _ _ 27 rfl w3.heap.size 3 i0 (.int .i64 0) 1 under_ints hii hz0 hz1 .i64 .i64 _ _ t.length rfl rfl (by omega) (by omega) (by rw [hz2]; omega) (by unfold maxLen; omega) (Nat.le_refl _) ?_; intro w4 hown4 hgrow4))
      have B4 : Hid (Below w.heap.size w w4) := B3.out.grown hgrow4 B3.out.size (by intro k hk; cases hk)
      have ho4 := OwI.made hown4
      rw [clF_zero t.length (cntF sig t 0) (cnt_zero sig t)] at ho4
      have HO4 := hid ho4
      have HL4 := hid (own_lt ho4.2)
      have S3 := hid B3.out.size
      clear hown4 hgrow4 ho4 h2 B1 B2
      try go_wp2
      go_loopw [9] (fun iv wr => ∃ i : Nat, i ≤ t.length ∧ iv = .int .i64 i ∧ OwI wr w3.heap.size (.slice (some ⟨w3.heap.size, 0, none⟩) t.length t.length) (clF t.length (cntF sig t i)) ∧ Below w.heap.size w wr ∧ w3.heap.size < wr.heap.size) (fun iv _ => t.length - (intOf iv).toNat)
      case atStart => exact ⟨0, Nat.zero_le _, rfl, HO4.out, B4.out, HL4.out⟩
      case round =>
        obtain ⟨i, hi, rfl, how, hbl, hl3⟩ := hrel
        have HO := hid how
        have HB := hid hbl
        have HL := hid hl3
        clear how hbl hl3 HO4 B4
        by_cases hlt : i < t.length
        · have HPl := hid (place_in HTe.out hlt)
          go_wp2_with fail
          refine (above_any _ _ sig t i wr (HS.out.kp (Kp.of_below HB.out)) (HI.out.kp (Kp.of_below HB.out)) (HT.out.below HB.out) (by omega) (by omega) (by omega)).mono ?_
          rintro e w5 ⟨vup, rfl, ho5, hb5⟩
          rw [HPl.out]
          rw [above_nat HPl.out] at ho5
          have HUr := hid (abD_rise sig t i)
          have hul : (abD sig t i).length ≤ i := by
            unfold abD
            refine Nat.le_trans (List.length_filter_le _ _) ?_
            rw [List.length_range]
            exact Nat.le_refl _
          obtain ⟨U, hU⟩ : ∃ U, U = (abD sig t i).map fun a : Nat => (a : Int) := ⟨_, rfl⟩
          rw [← hU] at ho5
          have HUl : Hid (U.length = (abD sig t i).length) := by show _ = _; rw [hU, List.length_map]
          have hui : U.length ≤ i := by rw [HUl.out]; exact hul
          have HU := hid hU
          obtain ⟨uo, uc, rfl, huc1, huc2⟩ := ho5.shape
          unfold maxLen at huc2
          have HV5 := hid (ho5.mono (show w3.heap.size + 1 ≤ wr.heap.size from HL.out))
          have HO5 := hid (HO.out.later hb5)
          have HB5 := hid (below_step HB.out hb5)
          have HL5 := hid (Nat.lt_of_lt_of_le HL.out hb5.size)
          clear ho5 hb5 hU hul HO HB HL
          go_upto_region 13 with fail
          go_cut [74] from 58 to 74 (fun x wx => x = .bool false ∧ wx = w5)
          case first =>
            by_cases hi0 : i = 0
            · subst hi0
              go_wp2
              go_meet
              exact ⟨rfl, rfl⟩
            · have h0 := map_at (abD_root HRt.out (i := i) (by omega) hlt)
              rw [← HU.out] at h0
              obtain ⟨g, cp, hv, hc1, hc2, hc3⟩ := row_place HV5.out h0
              simp only [Value.slice.injEq, true_and] at hv
              obtain ⟨rfl, rfl⟩ := hv
              have hul0 : 0 < U.length := (List.getElem?_eq_some_iff.1 h0).1
              have hue : ((U.length : Int) == 0) = false := by rw [beq_eq_false_iff_ne]; omega
              have hip : 0 < i := by omega
              have hc1' : w5.cell? ⟨g, 0, none⟩ = some (.int .i64 0) := hc1
              clear hc1 h0
              go_wp2
              go_meet
              exact ⟨rfl, rfl⟩
          case rest =>
            obtain ⟨rfl, hw⟩ := hcut
            have hw8 := hw.symm
            subst hw8
            clear hw
            obtain ⟨hcell, hfr⟩ := HO5.out.at (clF_at hlt)
            have hN0 := cntF_small sig t i i
            have hq := HO5.out.put HB5.out S3.out (clF_len _ _).symm (k := i) (z := (cntF sig t i i : Int) + 1) (by omega) (clF_set hlt (fun j _ => cntK_zero sig t i j))
            have HQ := hid hq.1
            have HQb := hid hq.2
            have HV6 := hid (HV5.out.kept (set_grown w5 w3.heap.size i (.int .i64 ((cntF sig t i i : Int) + 1))) (by
              cases hv : (Value.slice uo U.length uc).ownBlock with
              | none => exact .inl rfl
              | some j =>
                have := own_blk HV5.out.2 hv
                exact .inr (by simp; omega)))
            have HL6 : Hid (w3.heap.size < (w5.setCell ⟨w3.heap.size, i, none⟩ (.int .i64 ((cntF sig t i i : Int) + 1))).heap.size) := by show _ < _; simpa [World.setCell] using HL5.out
            generalize cntF sig t i i = N0 at hcell hN0 HQ HQb HV6 HL6
            have hwN : IntKind.i64.wrap ((N0 : Int) + 1) = (N0 : Int) + 1 := IntWalk.i64_in _ ⟨by omega, by omega⟩
            clear hq HO5 HB5 HV5 HL5
            go_wp2
            clear hcell hfr hwN
            go_loopw [12] (fun kv ws => ∃ k : Nat, k ≤ U.length ∧ kv = .int .i64 k ∧ OwI ws w3.heap.size (.slice (some ⟨w3.heap.size, 0, none⟩) t.length t.length) (clF t.length (cntK sig t i k)) ∧ OwI ws (w3.heap.size + 1) (.slice uo U.length uc) U ∧ Below w.heap.size w ws ∧ w3.heap.size < ws.heap.size) (fun kv _ => U.length - (intOf kv).toNat)
            case atStart => exact ⟨0, Nat.zero_le _, rfl, HQ.out, HV6.out, HQb.out, HL6.out⟩
            case round =>
              obtain ⟨k, hk, rfl, how, hov, hbl, hl3⟩ := hrel
              have HO := hid how
              have HV := hid hov
              have HB := hid hbl
              have HL := hid hl3
              clear how hov hbl hl3 HQ HV6 HQb HL6
              by_cases hkl : k < U.length
              · obtain ⟨a, ha⟩ : ∃ a, (abD sig t i)[k]? = some a := ⟨_, List.getElem?_eq_getElem (by rw [← HUl.out]; exact hkl)⟩
                have hai := abD_mem (List.mem_of_getElem? ha)
                have hua := map_at ha
                rw [← HU.out] at hua
                obtain ⟨g, cp, hv, hc1, _, hc3⟩ := row_place HV.out hua
                simp only [Value.slice.injEq, true_and] at hv
                obtain ⟨rfl, rfl⟩ := hv
                have hat : a < t.length := by omega
                obtain ⟨hcell, hfr⟩ := HO.out.at (clF_at hat)
                have HSet : Hid ((clF t.length (cntK sig t i k)).set a ((cntK sig t i k a : Int) + 1) = clF t.length (cntK sig t i (k + 1))) := clF_set hat (fun j _ => cntK_next ha j)
                have hNk := cntK_small sig t i k a
                have hprev : k = 0 ∨ ∃ k' b, k = k' + 1 ∧ (abD sig t i)[k']? = some b ∧ b < a := by
                  cases k with
                  | zero => exact .inl rfl
                  | succ k' =>
                    obtain ⟨b, hb9⟩ : ∃ b, (abD sig t i)[k']? = some b := ⟨_, List.getElem?_eq_getElem (by rw [← HUl.out]; omega)⟩
                    refine .inr ⟨k', b, rfl, hb9, ?_⟩
                    obtain ⟨h1, h2⟩ := List.getElem?_eq_some_iff.1 hb9
                    obtain ⟨h3, h4⟩ := List.getElem?_eq_some_iff.1 ha
                    have := List.pairwise_iff_getElem.1 HUr.out k' (k' + 1) h1 h3 (by omega)
                    omega
                generalize cntK sig t i k a = N0 at hcell hNk HSet
                have hwN : IntKind.i64.wrap ((N0 : Int) + 1) = (N0 : Int) + 1 := IntWalk.i64_in _ ⟨by omega, by omega⟩
                have d1 : decide (i ≤ a) = false := by simp; omega
                clear hua ha
                rcases hprev with rfl | ⟨k', b, rfl, hb9, hba⟩
                · go_upto_region 19 with fail
                  refine region_below (by kernel_rfl) (by kernel_rfl) ?_
                  (go_big_quiet_want; go_big_quiet_op; go_big_quiet_on)
                  (go_big_quiet_want; go_big_quiet_op; go_big_quiet_on)
                  go_big_quiet_want
                  refine ⟨.pointer (some ⟨g, 0, none⟩), fun w' hw' => ?_, ?_⟩
                  · unfold Oper.quietAt; go_simp
                  simp only [Act.put, List.setIfInBounds_toArray, List.set_cons_zero, List.set_cons_succ]
                  go_big_quiet_on
                  go_big_quiet_want
                  refine ⟨.int .i64 (a : Int), fun w' hw' => ?_, ?_⟩
                  · have hh0 := (Kp.of_below hw').cell _ _ hc1; unfold Oper.quietAt; go_simp
                  simp only [Act.put, List.setIfInBounds_toArray, List.set_cons_zero, List.set_cons_succ]
                  go_big_quiet_on
                  go_big_quiet_want
                  refine ⟨.bool false, fun w' hw' => ?_, ?_⟩
                  · unfold Oper.quietAt; go_simp
                  simp only [Act.put, List.setIfInBounds_toArray, List.set_cons_zero, List.set_cons_succ]
                  go_big_quiet_on
                  (go_big_quiet_want; go_big_quiet_op; go_big_quiet_on)
                  (go_big_quiet_want; go_big_quiet_op; go_big_quiet_on)
                  (go_big_quiet_want; go_big_quiet_op; go_big_quiet_on)
                  go_big_quiet_want
                  refine ⟨.pointer (some ⟨g, 0, none⟩), fun w' hw' => ?_, ?_⟩
                  · unfold Oper.quietAt; go_simp
                  simp only [Act.put, List.setIfInBounds_toArray, List.set_cons_zero, List.set_cons_succ]
                  go_big_quiet_on
                  go_big_quiet_want
                  refine ⟨.int .i64 (a : Int), fun w' hw' => ?_, ?_⟩
                  · have hh0 := (Kp.of_below hw').cell _ _ hc1; unfold Oper.quietAt; go_simp
                  simp only [Act.put, List.setIfInBounds_toArray, List.set_cons_zero, List.set_cons_succ]
                  go_big_quiet_on
                  (go_big_quiet_want; go_big_quiet_op; go_big_quiet_on)
                  go_big_quiet_want
                  refine ⟨.bool false, fun w' hw' => ?_, ?_⟩
                  · unfold Oper.quietAt; go_simp
                  simp only [Act.put, List.setIfInBounds_toArray, List.set_cons_zero, List.set_cons_succ]
                  go_big_quiet_on
                  go_big_quiet_want
                  refine ⟨.bool false, fun w' hw' => ?_, ?_⟩
                  · unfold Oper.quietAt; go_simp
                  simp only [Act.put, List.setIfInBounds_toArray, List.set_cons_zero, List.set_cons_succ]
                  go_big_quiet_on
                  (go_big_quiet_want; go_big_quiet_op; go_big_quiet_on)
                  (go_big_quiet_want; go_big_quiet_op; go_big_quiet_on)
                  go_big_quiet_want
                  refine ⟨.bool false, fun w' hw' => ?_, ?_⟩
                  · unfold Oper.quietAt; go_simp
                  simp only [Act.put, List.setIfInBounds_toArray, List.set_cons_zero, List.set_cons_succ]
                  go_big_quiet_on
                  (go_big_quiet_want; go_big_quiet_op; go_big_quiet_on)
                  go_big_quiet_skip
                  go_big_quiet_skip
                  go_big_quiet_skip
                  go_big_quiet_skip
                  go_big_quiet_skip
                  go_big_quiet_skip
                  go_big_quiet_skip
                  go_big_quiet_skip
                  go_big_quiet_skip
                  go_big_quiet_skip
                  go_big_quiet_want
                  refine ⟨.bool false, fun w' hw' => ?_, ?_⟩
                  · unfold Oper.quietAt; go_simp
                  simp only [Act.put, List.setIfInBounds_toArray, List.set_cons_zero, List.set_cons_succ]
                  go_big_quiet_on
                  go_big_quiet_want
                  refine ⟨.bool false, fun w' hw' => ?_, ?_⟩
                  · unfold Oper.quietAt; go_simp
                  simp only [Act.put, List.setIfInBounds_toArray, List.set_cons_zero, List.set_cons_succ]
                  go_big_quiet_on
                  refine wpQuiet_nil ?_
                  intro w2 hb2
                  have hcellq := (Kp.of_below hb2).cell _ _ hcell
                  have hcq := (Kp.of_below hb2).cell _ _ hc1
                  have hfrq : w2.frozen? ⟨w3.heap.size, a, none⟩ = false := by rw [frozen_same (hb2.block _ HL.out)]; exact hfr
                  have hq2 := (HO.out.later hb2).put (below_step HB.out hb2) S3.out (clF_len _ _).symm (k := a) (z := (N0 : Int) + 1) (by omega) (HSet.out)
                  have HQ := hid hq2.1
                  have HQb := hid hq2.2
                  have HV6 := hid ((HV.out.later hb2).kept (set_grown w2 w3.heap.size a (.int .i64 ((N0 : Int) + 1))) (.inr (by simp only [Value.ownBlock, ne_eq, Option.some.injEq]; omega)))
                  have HL6 : Hid (w3.heap.size < (w2.setCell ⟨w3.heap.size, a, none⟩ (.int .i64 ((N0 : Int) + 1))).heap.size) := by have := hb2.size; have := HL.out; show _ < _; simp [World.setCell]; omega
                  clear hq2 hb2 hcell hfr hc1
                  go_wp2
                  go_roundw
                  case rel => exact ⟨0 + 1, by omega, by go_num, HQ.out, HV6.out, HQb.out, HL6.out⟩
                  case measure => simp [intOf]; omega
                · have hub := map_at hb9
                  rw [← HU.out] at hub
                  have hcb : wr.cell? ⟨g, k', none⟩ = some (.int .i64 (b : Int)) := (HV.out.at hub).1
                  have d2 : decide (a ≤ b) = false := by simp; omega
                  have hk0 : (0 : Int) ≤ (k' : Int) + 1 := by omega
                  have hkl2 : k' < U.length := by omega
                  have hwk2 : IntKind.i64.wrap (k' : Int) = (k' : Int) := IntWalk.i64_in _ ⟨by omega, by omega⟩
                  have hk1 : (0 : Int) < (k' : Int) + 1 := by omega
                  have hwk : IntKind.i64.wrap ((k' : Int) + 1 - 1) = (k' : Int) := by rw [IntWalk.i64_in _ ⟨by omega, by omega⟩]; omega
                  clear hub hb9
                  go_upto_region 19 with fail
                  refine region_below (by kernel_rfl) (by kernel_rfl) ?_
                  (go_big_quiet_want; go_big_quiet_op; go_big_quiet_on)
                  (go_big_quiet_want; go_big_quiet_op; go_big_quiet_on)
                  go_big_quiet_want
                  refine ⟨.pointer (some ⟨g, k' + 1, none⟩), fun w' hw' => ?_, ?_⟩
                  · unfold Oper.quietAt; go_simp
                  simp only [Act.put, List.setIfInBounds_toArray, List.set_cons_zero, List.set_cons_succ]
                  go_big_quiet_on
                  go_big_quiet_want
                  refine ⟨.int .i64 (a : Int), fun w' hw' => ?_, ?_⟩
                  · have hh0 := (Kp.of_below hw').cell _ _ hc1; unfold Oper.quietAt; go_simp
                  simp only [Act.put, List.setIfInBounds_toArray, List.set_cons_zero, List.set_cons_succ]
                  go_big_quiet_on
                  go_big_quiet_want
                  refine ⟨.bool false, fun w' hw' => ?_, ?_⟩
                  · unfold Oper.quietAt; go_simp
                  simp only [Act.put, List.setIfInBounds_toArray, List.set_cons_zero, List.set_cons_succ]
                  go_big_quiet_on
                  (go_big_quiet_want; go_big_quiet_op; go_big_quiet_on)
                  (go_big_quiet_want; go_big_quiet_op; go_big_quiet_on)
                  (go_big_quiet_want; go_big_quiet_op; go_big_quiet_on)
                  go_big_quiet_want
                  refine ⟨.pointer (some ⟨g, k' + 1, none⟩), fun w' hw' => ?_, ?_⟩
                  · unfold Oper.quietAt; go_simp
                  simp only [Act.put, List.setIfInBounds_toArray, List.set_cons_zero, List.set_cons_succ]
                  go_big_quiet_on
                  go_big_quiet_want
                  refine ⟨.int .i64 (a : Int), fun w' hw' => ?_, ?_⟩
                  · have hh0 := (Kp.of_below hw').cell _ _ hc1; unfold Oper.quietAt; go_simp
                  simp only [Act.put, List.setIfInBounds_toArray, List.set_cons_zero, List.set_cons_succ]
                  go_big_quiet_on
                  (go_big_quiet_want; go_big_quiet_op; go_big_quiet_on)
                  go_big_quiet_want
                  refine ⟨.bool false, fun w' hw' => ?_, ?_⟩
                  · unfold Oper.quietAt; go_simp
                  simp only [Act.put, List.setIfInBounds_toArray, List.set_cons_zero, List.set_cons_succ]
                  go_big_quiet_on
                  go_big_quiet_want
                  refine ⟨.bool false, fun w' hw' => ?_, ?_⟩
                  · unfold Oper.quietAt; go_simp
                  simp only [Act.put, List.setIfInBounds_toArray, List.set_cons_zero, List.set_cons_succ]
                  go_big_quiet_on
                  (go_big_quiet_want; go_big_quiet_op; go_big_quiet_on)
                  (go_big_quiet_want; go_big_quiet_op; go_big_quiet_on)
                  go_big_quiet_want
                  refine ⟨.bool true, fun w' hw' => ?_, ?_⟩
                  · unfold Oper.quietAt; go_simp
                  simp only [Act.put, List.setIfInBounds_toArray, List.set_cons_zero, List.set_cons_succ]
                  go_big_quiet_on
                  (go_big_quiet_want; go_big_quiet_op; go_big_quiet_on)
                  (go_big_quiet_want; go_big_quiet_op; go_big_quiet_on)
                  (go_big_quiet_want; go_big_quiet_op; go_big_quiet_on)
                  go_big_quiet_want
                  refine ⟨.int .i64 (k' : Int), fun w' hw' => ?_, ?_⟩
                  · unfold Oper.quietAt; go_simp
                  simp only [Act.put, List.setIfInBounds_toArray, List.set_cons_zero, List.set_cons_succ]
                  go_big_quiet_on
                  go_big_quiet_want
                  refine ⟨.pointer (some ⟨g, k', none⟩), fun w' hw' => ?_, ?_⟩
                  · unfold Oper.quietAt; go_simp
                  simp only [Act.put, List.setIfInBounds_toArray, List.set_cons_zero, List.set_cons_succ]
                  go_big_quiet_on
                  go_big_quiet_want
                  refine ⟨.int .i64 (b : Int), fun w' hw' => ?_, ?_⟩
                  · have hh0 := (Kp.of_below hw').cell _ _ hcb; unfold Oper.quietAt; go_simp
                  simp only [Act.put, List.setIfInBounds_toArray, List.set_cons_zero, List.set_cons_succ]
                  go_big_quiet_on
                  (go_big_quiet_want; go_big_quiet_op; go_big_quiet_on)
                  (go_big_quiet_want; go_big_quiet_op; go_big_quiet_on)
                  go_big_quiet_want
                  refine ⟨.pointer (some ⟨g, k' + 1, none⟩), fun w' hw' => ?_, ?_⟩
                  · unfold Oper.quietAt; go_simp
                  simp only [Act.put, List.setIfInBounds_toArray, List.set_cons_zero, List.set_cons_succ]
                  go_big_quiet_on
                  go_big_quiet_want
                  refine ⟨.int .i64 (a : Int), fun w' hw' => ?_, ?_⟩
                  · have hh0 := (Kp.of_below hw').cell _ _ hc1; unfold Oper.quietAt; go_simp
                  simp only [Act.put, List.setIfInBounds_toArray, List.set_cons_zero, List.set_cons_succ]
                  go_big_quiet_on
                  go_big_quiet_want
                  refine ⟨.bool false, fun w' hw' => ?_, ?_⟩
                  · unfold Oper.quietAt; go_simp
                  simp only [Act.put, List.setIfInBounds_toArray, List.set_cons_zero, List.set_cons_succ]
                  go_big_quiet_on
                  go_big_quiet_want
                  refine ⟨.bool false, fun w' hw' => ?_, ?_⟩
                  · unfold Oper.quietAt; go_simp
                  simp only [Act.put, List.setIfInBounds_toArray, List.set_cons_zero, List.set_cons_succ]
                  go_big_quiet_on
                  go_big_quiet_want
                  refine ⟨.bool false, fun w' hw' => ?_, ?_⟩
                  · unfold Oper.quietAt; go_simp
                  simp only [Act.put, List.setIfInBounds_toArray, List.set_cons_zero, List.set_cons_succ]
                  go_big_quiet_on
                  refine wpQuiet_nil ?_
                  intro w2 hb2
                  have hcellq := (Kp.of_below hb2).cell _ _ hcell
                  have hcq := (Kp.of_below hb2).cell _ _ hc1
                  have hfrq : w2.frozen? ⟨w3.heap.size, a, none⟩ = false := by rw [frozen_same (hb2.block _ HL.out)]; exact hfr
                  have hq2 := (HO.out.later hb2).put (below_step HB.out hb2) S3.out (clF_len _ _).symm (k := a) (z := (N0 : Int) + 1) (by omega) (HSet.out)
                  have HQ := hid hq2.1
                  have HQb := hid hq2.2
                  have HV6 := hid ((HV.out.later hb2).kept (set_grown w2 w3.heap.size a (.int .i64 ((N0 : Int) + 1))) (.inr (by simp only [Value.ownBlock, ne_eq, Option.some.injEq]; omega)))
                  have HL6 : Hid (w3.heap.size < (w2.setCell ⟨w3.heap.size, a, none⟩ (.int .i64 ((N0 : Int) + 1))).heap.size) := by have := hb2.size; have := HL.out; show _ < _; simp [World.setCell]; omega
                  clear hq2 hb2 hcell hfr hc1 hcb hwk
                  go_wp2
                  go_roundw
                  case rel => exact ⟨k' + 1 + 1, by omega, by go_num, HQ.out, HV6.out, HQb.out, HL6.out⟩
                  case measure => simp [intOf]; omega
              · have hke : k = (abD sig t i).length := by rw [← HUl.out]; omega
                have HO2 : Hid (OwI wr w3.heap.size (.slice (some ⟨w3.heap.size, 0, none⟩) t.length t.length) (clF t.length (cntF sig t (i + 1)))) := by
                  have := HO.out
                  rw [hke, clF_congr (fun j hj => cntK_all HA.out HRt.out hj)] at this
                  exact this
                clear hke HO
                go_wp2_with fail
                refine (kids_any _ _ sig t i wr (HS.out.kp (Kp.of_below HB.out)) (HI.out.kp (Kp.of_below HB.out)) (HT.out.below HB.out) (by omega) (by omega) (by omega)).mono ?_
                rintro e w8 ⟨vk, rfl, ho8, hb8⟩
                rw [HPl.out]
                obtain ⟨gt, ot, c, rfl, hx1, hx2, hx3, hx4⟩ := (HI.out.kp (Kp.of_below (below_step HB.out hb8))).at hlt
                have hkc := kids_count HPl.out hx1
                have HKa : Hid (∀ (k : Nat) (x : Int), (kidsL sig t i)[k]? = some x → ∃ n : Nat, x = n ∧ n < t.length ∧ abD sig t n = abD sig t i ++ [i]) := fun k x hk => kid_above HTe.out hlt hk
                have HRt8 := hid hx1
                generalize kidsL sig t i = K at ho8 hkc HKa
                obtain ⟨ko, kc, rfl, hkc1, hkc2⟩ := ho8.shape
                unfold maxLen at hkc2
                have HK8 := hid ho8
                have HKc := hid hkc
                have HO8 := hid (HO2.out.later hb8)
                have HB8 := hid (below_step HB.out hb8)
                have HL8 := hid (Nat.lt_of_lt_of_le HL.out hb8.size)
                clear ho8 hb8 hx1 HO2 HB HL HV hkc
                go_upto_region 23 with fail
                go_cut [165] from 132 to 165 (fun x wx => x = .bool false ∧ wx = w8)
                case first =>
                  by_cases hc0 : c < 0
                  · have hkc0 : K.length = 0 := by rw [HKc.out, if_pos hc0]
                    have hkc9 : ¬ 0 < K.length := by omega
                    have hcn : ¬ 0 ≤ c := by omega
                    clear hkc0
                    go_wp2
                    go_meet
                    exact ⟨rfl, rfl⟩
                  · have hkc := HKc.out
                    rw [if_neg hc0] at hkc
                    obtain ⟨cn, rfl⟩ : ∃ cn : Nat, c = cn := ⟨c.toNat, by omega⟩
                    have hcl : cn < sig.length := by
                      have h2 := (at_place HA.out HRt.out hlt).2.2.1
                      rw [drop_get HRt8.out, firstT_cons] at h2
                      cases hcd : codeD sig (cn : Int) with
                      | none => rw [hcd] at h2; simp at h2
                      | some e =>
                        obtain ⟨s, hsg, _⟩ := codeD_get hcd
                        exact (List.getElem?_eq_some_iff.1 hsg).1
                    obtain ⟨g2, off2, nm, ar, rfl, hs1, hs2, hs3, hs4, hs5, hs6⟩ := (HS.out.kp (Kp.of_below HB8.out)).at (k := cn) hcl
                    have har := HA.out _ (List.mem_of_getElem? hs1)
                    simp only at har
                    have hka : ((K.length : Int) != ar) = false := by
                      rw [hkc]
                      unfold arN
                      rw [Int.toNat_natCast, hs1]
                      simp
                      omega
                    have hcn : (0 : Int) ≤ (cn : Int) := by omega
                    clear hkc hs1 HRt8
                    go_wp2
                    go_meet
                    exact ⟨rfl, rfl⟩
                case rest =>
                  obtain ⟨rfl, hw⟩ := hcut
                  have hw8 := hw.symm
                  subst hw8
                  clear hw hx2 HKc
                  go_wp2
                  go_loopw [15] (fun kv ws => ∃ k : Nat, k ≤ K.length ∧ kv = .int .i64 k ∧ Below w8.heap.size w8 ws) (fun kv _ => K.length - (intOf kv).toNat)
                  case atStart => exact ⟨0, Nat.zero_le _, rfl, Below.refl _ _⟩
                  case round =>
                    obtain ⟨k, hk, rfl, hbl⟩ := hrel
                    have HBl := hid hbl
                    have HBw := hid (below_step HB8.out hbl)
                    by_cases hkl : k < K.length
                    · obtain ⟨x, hx⟩ : ∃ x, K[k]? = some x := ⟨_, List.getElem?_eq_getElem hkl⟩
                      obtain ⟨n, rfl, hnt, hab⟩ := HKa.out k x hx
                      obtain ⟨g, cp, hv, hc1, _, _⟩ := row_place (HK8.out.later hbl) hx
                      simp only [Value.slice.injEq, true_and] at hv
                      obtain ⟨rfl, rfl⟩ := hv
                      have HPn := hid (place_in HTe.out hnt)
                      have HAn : Hid (aboveL sig t n = U ++ [(i : Int)]) := by
                        show _ = _
                        rw [above_nat HPn.out, hab, List.map_append, ← HU.out]
                        rfl
                      clear hx hab hbl
                      go_wp2_with fail
                      refine (above_any _ _ sig t n wr (HS.out.kp (Kp.of_below HBw.out)) (HI.out.kp (Kp.of_below HBw.out)) (HT.out.below HBw.out) (by omega) (by omega) (by omega)).mono ?_
                      rintro e w9 ⟨vo, rfl, ho9, hb9⟩
                      rw [HPn.out]
                      rw [HAn.out] at ho9
                      have hue : (U ++ [(i : Int)])[U.length]? = some (i : Int) := by simp
                      obtain ⟨g9, c9, hv9, hc9, _, _⟩ := row_place ho9 hue
                      subst hv9
                      rw [show (U ++ [(i : Int)]).length = U.length + 1 by simp]
                      have hwu : IntKind.i64.wrap ((U.length : Int) + 1) = (U.length : Int) + 1 := IntWalk.i64_in _ ⟨by omega, by omega⟩
                      have HB9 := hid (below_step HBl.out hb9)
                      clear ho9 hb9 hue hc1
                      go_wp2
                      go_roundw
                      case rel => exact ⟨k + 1, by omega, by go_num, HB9.out⟩
                      case measure => simp [intOf]; omega
                    · have HOf := hid (HO8.out.later hbl)
                      have HLf := hid (Nat.lt_of_lt_of_le HL8.out hbl.size)
                      clear hbl
                      go_wp2
                      go_roundw
                      case rel => exact ⟨i + 1, by omega, by go_num, HOf.out, HBw.out, HLf.out⟩
                      case measure => simp [intOf]; omega
        · have hie : i = t.length := by omega
          subst hie
          have HOe := HO
          go_wp2
          go_loopw [18] (fun iv ws => ∃ i : Nat, i ≤ t.length ∧ iv = .int .i64 i ∧ Below wr.heap.size wr ws) (fun iv _ => t.length - (intOf iv).toNat)
          case atStart => exact ⟨0, Nat.zero_le _, rfl, Below.refl _ _⟩
          case round =>
            obtain ⟨i, hi2, rfl, hbl⟩ := hrel
            have HBl := hid hbl
            have HBw := hid (below_step HB.out hbl)
            by_cases hlt : i < t.length
            · have HPl := hid (place_in HTe.out hlt)
              have HSb := hid (sub_eq HTe.out hlt)
              obtain ⟨n1, n2, _, n4⟩ := at_place HA.out HRt.out hlt
              clear hbl
              go_wp2_with fail
              refine (sub_any _ _ sig t i wr (HS.out.kp (Kp.of_below HBw.out)) (HI.out.kp (Kp.of_below HBw.out)) (HT.out.below HBw.out) (by omega) (by omega) (by omega)).mono ?_
              rintro e w5 ⟨vs, rfl, ho5, hb5⟩
              rw [HPl.out]
              rw [HSb.out] at ho5
              have HW5 := hid (below_step HBw.out hb5)
              have hO5 := (HOe.out.later HBl.out).later hb5
              obtain ⟨gt, ot, c, rfl, hx1, hct, hx3, hx4⟩ := (HI.out.kp (Kp.of_below HW5.out)).at hlt
              have hSl : ((t.drop i).take (nodes sig t i)).length = nodes sig t i := by rw [List.length_take, List.length_drop]; omega
              have hS0 : ((t.drop i).take (nodes sig t i))[0]? = some c := by rw [List.getElem?_take_of_lt (by omega), List.getElem?_drop]; exact hx1
              have hcn : (clF t.length (cntF sig t t.length))[i]? = some ((nodes sig t i : Nat) : Int) := by rw [clF_at hlt, cnt_all HA.out HRt.out hlt]
              obtain ⟨hcc, _⟩ := hO5.at hcn
              have HTS := hid (term_of3 HTe.out n4)
              obtain ⟨S, hS⟩ : ∃ S, S = (t.drop i).take (nodes sig t i) := ⟨_, rfl⟩
              rw [← hS] at ho5 hS0 hSl HTS
              rw [← hSl] at hcc
              obtain ⟨gs, cs, hv, hcs, _, _⟩ := row_place ho5 hS0
              subst hv
              have hS0l : 0 < S.length := by omega
              have hcc2 : cs ≤ 9223372036854775807 ∧ S.length ≤ cs := by
                obtain ⟨_, c9, e9, h8, h9⟩ := ho5.shape
                simp only [Value.slice.injEq] at e9
                obtain ⟨_, _, rfl⟩ := e9
                unfold maxLen at h9
                omega
              have HCk : Hid (∀ W, Below w5.heap.size w5 W → Calls Tryd.prog 13 #[.slice so sig.length sc, .slice (some ⟨gs, 0, none⟩) S.length cs] W fun e w' => e = .returned (.int .i64 0) ∧ Below W.heap.size W w') := fun W hW => by
                have := check_any _ _ sig S W (HS.out.kp (Kp.of_below (below_step HW5.out hW))) (ho5.is.kp (Kp.of_below hW)) (HT.out.below (below_step HW5.out hW)) (by omega)
                rw [HTS.out] at this
                exact this
              have hSS : ((S.length : Int) != (S.length : Int)) = false := by simp
              have hcc3 : (c != c) = false := by simp
              have HB5 := hid (below_step HBl.out hb5)
              clear ho5 hb5 hO5 hx1 hS0 hcn hS hSl n1 n2 n4
              go_upto_region 35 with fail
              refine region_below (by kernel_rfl) (by kernel_rfl) ?_
              (go_big_quiet_want; go_big_quiet_op; go_big_quiet_on)
              go_big_quiet_want
              refine ⟨.bool false, fun w' hw' => ?_, ?_⟩
              · unfold Oper.quietAt; go_simp
              simp only [Act.put, List.setIfInBounds_toArray, List.set_cons_zero, List.set_cons_succ]
              go_big_quiet_on
              (go_big_quiet_want; go_big_quiet_op; go_big_quiet_on)
              (go_big_quiet_want; go_big_quiet_op; go_big_quiet_on)
              go_big_quiet_want
              refine ⟨.int .i64 (S.length : Int), fun w' hw' => ?_, ?_⟩
              · unfold Oper.quietAt; go_simp
              simp only [Act.put, List.setIfInBounds_toArray, List.set_cons_zero, List.set_cons_succ]
              go_big_quiet_on
              (go_big_quiet_want; go_big_quiet_op; go_big_quiet_on)
              (go_big_quiet_want; go_big_quiet_op; go_big_quiet_on)
              go_big_quiet_want
              refine ⟨.pointer (some ⟨w3.heap.size, i, none⟩), fun w' hw' => ?_, ?_⟩
              · unfold Oper.quietAt; go_simp
              simp only [Act.put, List.setIfInBounds_toArray, List.set_cons_zero, List.set_cons_succ]
              go_big_quiet_on
              go_big_quiet_want
              refine ⟨.int .i64 (S.length : Int), fun w' hw' => ?_, ?_⟩
              · have hh0 := (Kp.of_below hw').cell _ _ hcc; unfold Oper.quietAt; go_simp
              simp only [Act.put, List.setIfInBounds_toArray, List.set_cons_zero, List.set_cons_succ]
              go_big_quiet_on
              go_big_quiet_want
              refine ⟨.bool false, fun w' hw' => ?_, ?_⟩
              · unfold Oper.quietAt; go_simp
              simp only [Act.put, List.setIfInBounds_toArray, List.set_cons_zero, List.set_cons_succ]
              go_big_quiet_on
              go_big_quiet_want
              refine ⟨.bool false, fun w' hw' => ?_, ?_⟩
              · unfold Oper.quietAt; go_simp
              simp only [Act.put, List.setIfInBounds_toArray, List.set_cons_zero, List.set_cons_succ]
              go_big_quiet_on
              (go_big_quiet_want; go_big_quiet_op; go_big_quiet_on)
              (go_big_quiet_want; go_big_quiet_op; go_big_quiet_on)
              go_big_quiet_want
              refine ⟨.pointer (some ⟨gs, 0, none⟩), fun w' hw' => ?_, ?_⟩
              · unfold Oper.quietAt; go_simp
              simp only [Act.put, List.setIfInBounds_toArray, List.set_cons_zero, List.set_cons_succ]
              go_big_quiet_on
              go_big_quiet_want
              refine ⟨.int .i64 c, fun w' hw' => ?_, ?_⟩
              · have hh0 := (Kp.of_below hw').cell _ _ hcs; unfold Oper.quietAt; go_simp
              simp only [Act.put, List.setIfInBounds_toArray, List.set_cons_zero, List.set_cons_succ]
              go_big_quiet_on
              (go_big_quiet_want; go_big_quiet_op; go_big_quiet_on)
              (go_big_quiet_want; go_big_quiet_op; go_big_quiet_on)
              go_big_quiet_want
              refine ⟨.pointer (some ⟨gt, ot + i, none⟩), fun w' hw' => ?_, ?_⟩
              · unfold Oper.quietAt; go_simp
              simp only [Act.put, List.setIfInBounds_toArray, List.set_cons_zero, List.set_cons_succ]
              go_big_quiet_on
              go_big_quiet_want
              refine ⟨.int .i64 c, fun w' hw' => ?_, ?_⟩
              · have hh0 := (Kp.of_below hw').cell _ _ hct; unfold Oper.quietAt; go_simp
              simp only [Act.put, List.setIfInBounds_toArray, List.set_cons_zero, List.set_cons_succ]
              go_big_quiet_on
              go_big_quiet_want
              refine ⟨.bool false, fun w' hw' => ?_, ?_⟩
              · unfold Oper.quietAt; go_simp
              simp only [Act.put, List.setIfInBounds_toArray, List.set_cons_zero, List.set_cons_succ]
              go_big_quiet_on
              go_big_quiet_want
              refine ⟨.bool false, fun w' hw' => ?_, ?_⟩
              · unfold Oper.quietAt; go_simp
              simp only [Act.put, List.setIfInBounds_toArray, List.set_cons_zero, List.set_cons_succ]
              go_big_quiet_on
              (go_big_quiet_want; go_big_quiet_op; go_big_quiet_on)
              (go_big_quiet_want; go_big_quiet_op; go_big_quiet_on)
              (go_big_quiet_want; go_big_quiet_op; go_big_quiet_on)
              go_big_quiet_want
              refine ⟨.int .i64 0, fun w' hw' => ?_, ?_⟩
              · unfold Oper.quietAt; go_simp; exact (HCk.out w' hw').mono (fun e w2 ⟨he, hb⟩ => ⟨he, below_step hw' hb⟩)
              simp only [Act.put, List.setIfInBounds_toArray, List.set_cons_zero, List.set_cons_succ]
              go_big_quiet_on
              go_big_quiet_want
              refine ⟨.bool false, fun w' hw' => ?_, ?_⟩
              · unfold Oper.quietAt; go_simp
              simp only [Act.put, List.setIfInBounds_toArray, List.set_cons_zero, List.set_cons_succ]
              go_big_quiet_on
              go_big_quiet_want
              refine ⟨.bool false, fun w' hw' => ?_, ?_⟩
              · unfold Oper.quietAt; go_simp
              simp only [Act.put, List.setIfInBounds_toArray, List.set_cons_zero, List.set_cons_succ]
              go_big_quiet_on
              refine wpQuiet_nil ?_
              intro w6 hb6
              have HB6 := hid (below_step HB5.out hb6)
              clear hb6 HCk
              go_wp2
              go_roundw
              case rel => exact ⟨i + 1, by omega, by go_num, HB6.out⟩
              case measure => simp [intOf]; omega
            · go_wp2
              go_ret
              exact ⟨rfl, HBw.out⟩
  · generalize termE sig t = E at hte ⊢
    have heb : (E != 0) = true := by simpa using hte
    have hEE : (E != E) = false := by simp
    go_wp2
    go_ret
    exact ⟨rfl, B3.out⟩

end Go.Proofs.YtjcgngfidnechaaDoor
