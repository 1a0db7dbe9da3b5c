/- Texts of the proof, one behind the other. -/
import Derived.Test.YtcijfaijjpkdoacDoorOwn9
import Derived.Test.YtcijfaijjpkdoacDoorOwn10
import Derived.Test.YtcijfaijjpkdoacDoorOwn11
/- The document's Same of layer 7 walked. -/
namespace Go.Proofs.YtcijfaijjpkdoacDoor
open Go.RowKit Go.Maps Go.BigFrame

theorem vrN_next {sig : List Sy} {x y : Rl} {L : List Rl} {k : Nat} (h : L[k]? = some y) : vrN sig x (L.take (k + 1)) = vrN sig x (L.take k) + (if vrP sig x y then 1 else 0) := by
  unfold vrN
  rw [take_get h, List.countP_append, List.countP_singleton]

theorem vrN_le {sig : List Sy} {x : Rl} (L : List Rl) (k : Nat) (h : L.length ≤ 64) : vrN sig x (L.take k) ≤ 64 := by
  unfold vrN
  refine Nat.le_trans List.countP_le_length ?_
  rw [List.length_take]
  omega

set_option maxRecDepth 100000 in
set_option maxHeartbeats 6400000 in
theorem refSameS_any (sv av tv bv : Value) (s t : List Sy) (a b : List Rl) (w : World) (hs : Sg w sv s) (ha : RU w av a) (ht : Sg w tv t) (hb : RU w bv b) :
    Calls Tryd.prog 7 #[.agg #[sv, av], .agg #[tv, bv]] w fun e w' => e = .returned (.bool (sameB s a t b)) ∧ Below w.heap.size w w' := by
  obtain ⟨so, sc, rfl, hso, hsc, _⟩ := Row.flat hs
  obtain ⟨ao, ac, rfl, hao, hac, _⟩ := Row.flat ha
  obtain ⟨to2, tc, rfl, hto, htc, _⟩ := Row.flat ht
  obtain ⟨bo, bc, rfl, hbo, hbc, _⟩ := Row.flat hb
  unfold maxLen at hsc hac htc hbc
  have HS := hid hs
  have HA := hid ha
  have HS2 := hid ht
  have HA2 := hid hb
  clear hs ha ht hb
  obtain ⟨w0, hw0⟩ : ∃ X, X = (w.alloc (.cells #[.slice so s.length sc, .slice ao a.length ac] 25)).alloc (.cells #[.slice to2 t.length tc, .slice bo b.length bc] 25) := ⟨_, rfl⟩
  have C0 : Hid (Below w.heap.size w w0) := by rw [hw0]; exact below_step (below_alloc _) (below_alloc _)
  have HC : Hid (∀ W, Below w0.heap.size w0 W → (W.cell? ⟨w.heap.size, 0, none⟩ = some (.slice so s.length sc) ∧ W.cell? ⟨w.heap.size, 1, none⟩ = some (.slice ao a.length ac)) ∧ W.cell? ⟨w.heap.size + 1, 0, none⟩ = some (.slice to2 t.length tc) ∧ W.cell? ⟨w.heap.size + 1, 1, none⟩ = some (.slice bo b.length bc)) := fun W hW => by
    have hk := Kp.of_below hW
    rw [hw0] at hk
    have e9 : w.heap.size + 1 = (w.alloc (.cells #[.slice so s.length sc, .slice ao a.length ac] 25)).heap.size := (World.size_alloc _ _).symm
    rw [e9]
    exact ⟨⟨hk.cell _ _ (cell_old (cell_new rfl)), hk.cell _ _ (cell_old (cell_new rfl))⟩, hk.cell _ _ (cell_new rfl), hk.cell _ _ (cell_new rfl)⟩
  obtain ⟨R, hR⟩ : ∃ R, R = sameB s a t b := ⟨_, rfl⟩
  have HR := hid hR
  rw [← hR]
  clear hR
  obtain ⟨⟨x0, x1⟩, y0, y1⟩ := HC.out w0 (Below.refl _ _)
  go_enter Tryd.func7, Tryd.ntmps7
  go_wp2_with fail
  rw [← hw0]
  clear hw0
  refine (refRight_any _ _ s a w0 (HS.out.kp (Kp.of_below C0.out)) (HA.out.kp (Kp.of_below C0.out))).mono ?_
  rintro e w1 ⟨rfl, hb1⟩
  have C1 := hid (below_step C0.out hb1)
  have D1 := hid hb1
  clear hb1 x0 x1 y0 y1
  cases ha : sysB s a with
  | false =>
    have HF : Hid (R = false) := by show _ = _; rw [HR.out]; unfold sameB; rw [ha]; rfl
    clear ha
    go_wp2
    go_ret
    exact ⟨ret1b HF.out.symm, C1.out⟩
  | true =>
    have HA1 := hid ha
    clear ha
    obtain ⟨⟨x0, x1⟩, y0, y1⟩ := HC.out w1 D1.out
    go_wp2_with fail
    refine (refRight_any _ _ t b w1 (HS2.out.kp (Kp.of_below C1.out)) (HA2.out.kp (Kp.of_below C1.out))).mono ?_
    rintro e w2 ⟨rfl, hb2⟩
    have C2 := hid (below_step C1.out hb2)
    have D2 := hid (below_step D1.out hb2)
    clear hb2 x0 x1 y0 y1
    cases hb : sysB t b with
    | false =>
      have HF : Hid (R = false) := by show _ = _; rw [HR.out]; unfold sameB; rw [hb, Bool.and_false]; rfl
      clear hb
      go_wp2
      go_ret
      exact ⟨ret1b HF.out.symm, C2.out⟩
    | true =>
      have HB1 := hid hb
      clear hb
      obtain ⟨⟨x0, x1⟩, y0, y1⟩ := HC.out w2 D2.out
      by_cases hls : s.length = t.length
      · have hds : ((s.length : Int) != t.length) = false := by simp; omega
        have HLs := hid hls
        clear hls
        by_cases hll : a.length = b.length
        · have hdl : ((a.length : Int) != b.length) = false := by simp; omega
          have HLl := hid hll
          clear hll
          go_wp2
          go_loopw [5] (fun iv wr => ∃ k : Nat, k ≤ s.length ∧ iv = .int .i64 k ∧ s.take k = t.take k ∧ Below w0.heap.size w0 wr) (fun iv _ => s.length - (intOf iv).toNat)
          case atStart => exact ⟨0, Nat.zero_le _, rfl, rfl, D2.out⟩
          case round =>
            obtain ⟨k, hk, rfl, htk, hbl⟩ := hrel
            have HTk := hid htk
            have HB := hid hbl
            have CB := hid (below_step C0.out hbl)
            obtain ⟨⟨z0, z1⟩, z2, z3⟩ := HC.out wr hbl
            clear htk hbl x0 x1 y0 y1
            by_cases hlt : k < s.length
            · have hlt' : k < t.length := by have := HLs.out; omega
              obtain ⟨g, off, x1, x2, rfl, hx, c0, c1, _, _, _⟩ := (HS.out.kp (Kp.of_below CB.out)).at hlt
              obtain ⟨g', off', y1, y2, rfl, hy, d0, d1, _, _, _⟩ := (HS2.out.kp (Kp.of_below CB.out)).at hlt'
              have HX := hid hx
              have HY := hid hy
              have HNe : ((x1, x2) ≠ (y1, y2)) → R = false := fun hxy => by
                rw [HR.out]
                unfold sameB
                have h8 : decide (s = t) = false := by
                  rw [decide_eq_false_iff_not]
                  rintro rfl
                  have h9 := HX.out.symm.trans HY.out
                  exact hxy (by simpa using h9)
                rw [h8, Bool.and_false]
                rfl
              clear hx hy
              by_cases hs : x1.toList = y1.toList
              · by_cases hi : x2 = y2
                · obtain rfl := bytes_eq hs
                  subst hi
                  clear hs HNe
                  go_wp2
                  go_quiet (fail)
                  go_wp2
                  go_roundw
                  case rel => exact ⟨k + 1, by omega, by go_num, by rw [take_get HX.out, take_get HY.out, HTk.out], below_drewN HB.out _⟩
                  case measure => simp only [intOf]; omega
                · have HF : Hid (R = false) := HNe (fun h => hi (by cases h; rfl))
                  clear HNe
                  go_wp2
                  go_quiet (fail)
                  go_wp2
                  go_ret
                  exact ⟨ret1b HF.out.symm, below_drewN CB.out _⟩
              · have HF : Hid (R = false) := HNe (fun h => hs (by cases h; rfl))
                clear HNe
                go_wp2
                go_quiet (fail)
                go_wp2
                go_ret
                exact ⟨ret1b HF.out.symm, below_drewN CB.out _⟩
            · have HR3 : Hid (R = cntB s a b) := by
                show _ = _
                have h9 := HTk.out
                have h8 := HLs.out
                rw [List.take_of_length_le (by omega), List.take_of_length_le (by omega)] at h9
                obtain ⟨_, h2⟩ := sys_right HA1.out
                obtain ⟨_, h4⟩ := sys_right HB1.out
                rw [← h9] at h4
                rw [HR.out]
                unfold sameB
                rw [HA1.out, HB1.out, decide_eq_true h9, decide_eq_true HLl.out, pair_count h2 h4 HLl.out]
                rfl
              have HRa : Hid (∀ x ∈ a, ruleE s x = 0) := (sys_right HA1.out).2
              have HRb : Hid (∀ x ∈ b, ruleE s x = 0) := by
                have h9 := HTk.out
                have h8 := HLs.out
                rw [List.take_of_length_le (by omega), List.take_of_length_le (by omega)] at h9
                have h4 := (sys_right HB1.out).2
                rw [← h9] at h4
                exact h4
              have hla : a.length ≤ 64 := (ahead_parts (sys_right HA1.out).1).2.2.2
              have hlb : b.length ≤ 64 := (ahead_parts (sys_right HB1.out).1).2.2.2
              clear HTk
              go_wp2
              go_loopw [6] (fun iv wi => ∃ i : Nat, i ≤ a.length ∧ iv = .int .i64 i ∧ (∀ x ∈ a.take i, vrN s x a = vrN s x b) ∧ Below w0.heap.size w0 wi) (fun iv _ => a.length - (intOf iv).toNat)
              case atStart => exact ⟨0, Nat.zero_le _, rfl, by simp, HB.out⟩
              case round =>
                obtain ⟨i, hi, rfl, hcn, hbi⟩ := hrel
                obtain ⟨wo, hwo⟩ : ∃ X, X = wr := ⟨_, rfl⟩
                subst hwo
                have HCn := hid hcn
                have HBi := hid hbi
                have CBi := hid (below_step C0.out hbi)
                obtain ⟨⟨z0, z1⟩, z2, z3⟩ := HC.out wo hbi
                clear hcn hbi
                by_cases hlt : i < a.length
                · obtain ⟨g, off, l, r, a1, c1, a2, c2, rfl, hm, e0, e1, hi1, hi2, hl1, hl2⟩ := (HA.out.kp (Kp.of_below CBi.out)).at hlt
                  have HM := hid hm
                  have HI1 := hid hi1
                  have HI2 := hid hi2
                  have E0 := hid e0
                  have E1 := hid e1
                  have HRx := hid (HRa.out _ (List.mem_of_getElem? hm))
                  clear hm hi1 hi2 e0 e1
                  go_wp2
                  go_loopw [7, 8] (fun nv kv wi => ∃ (k : Nat) (N : Int), k ≤ a.length ∧ N = (vrN s (l, r) (a.take k) : Int) - (vrN s (l, r) (b.take k) : Int) ∧ nv = .int .i64 N ∧ kv = .int .i64 k ∧ Below wo.heap.size wo wi) (fun _ kv _ => a.length - (intOf kv).toNat)
                  case atStart => exact ⟨0, 0, Nat.zero_le _, rfl, rfl, rfl, Below.refl _ _⟩
                  case round =>
                    obtain ⟨k, N, hk, hN, rfl, rfl, hbk⟩ := hrel
                    have hn1 : -64 ≤ N := by have h1 := vrN_le (sig := s) (x := (l, r)) a k hla; have h2 := vrN_le (sig := s) (x := (l, r)) b k hlb; rw [hN]; omega
                    have hn2 : N ≤ 64 := by have h1 := vrN_le (sig := s) (x := (l, r)) a k hla; have h2 := vrN_le (sig := s) (x := (l, r)) b k hlb; rw [hN]; omega
                    have HN := hid hN
                    have HBk := hid hbk
                    have CBk := hid (below_step CBi.out hbk)
                    obtain ⟨⟨z0, z1⟩, z2, z3⟩ := HC.out wr (below_step HBi.out hbk)
                    have e0 := (Kp.of_below hbk).cell _ _ E0.out
                    have e1 := (Kp.of_below hbk).cell _ _ E1.out
                    clear hN hbk
                    by_cases hlt2 : k < a.length
                    · have hlt3 : k < b.length := by have := HLl.out; omega
                      obtain ⟨g2, off2, l2, r2, a3, c3, a4, c4, hg2, hm2, f0, f1, hj1, hj2, hl3, hl4⟩ := (HA.out.kp (Kp.of_below CBk.out)).at hlt2
                      cases hg2
                      obtain ⟨g3, off3, l3, r3, a5, c5, a6, c6, rfl, hm3, p0', p1', hj3, hj4, hl5, hl6⟩ := (HA2.out.kp (Kp.of_below CBk.out)).at hlt3
                      obtain ⟨V1, hV1⟩ : ∃ V, V = vrP s (l, r) (l2, r2) := ⟨_, rfl⟩
                      obtain ⟨V2, hV2⟩ : ∃ V, V = vrP s (l, r) (l3, r3) := ⟨_, rfl⟩
                      have hlr := rule_parts HRx.out
                      have hlr2 := rule_parts (HRa.out _ (List.mem_of_getElem? hm2))
                      have hlr3 := rule_parts (HRb.out _ (List.mem_of_getElem? hm3))
                      have HV1 : Hid (∀ W, Below wr.heap.size wr W → Calls Tryd.prog 16 #[.slice so s.length sc, .agg #[.slice a1 l.length c1, .slice a2 r.length c2], .agg #[.slice a3 l2.length c3, .slice a4 r2.length c4]] W fun e w' => e = .returned (.bool V1) ∧ Below W.heap.size W w') := fun W hW => by
                        rw [hV1]
                        have hk1 := Kp.of_below (below_step HBk.out hW)
                        exact refVariant_any _ _ _ _ _ s l r l2 r2 W (HS.out.kp (Kp.of_below (below_step CBk.out hW))) (HI1.out.kp hk1) (HI2.out.kp hk1) (hj1.kp (Kp.of_below hW)) (hj2.kp (Kp.of_below hW)) (by have h1 := hlr.2.2.1; have h2 := hlr.2.2.2.1; simp only at h1 h2; omega) (by have h1 := hlr2.2.2.1; have h2 := hlr2.2.2.2.1; simp only at h1 h2; omega)
                      have HV2' : Hid (∀ W, Below wr.heap.size wr W → Calls Tryd.prog 16 #[.slice so s.length sc, .agg #[.slice a1 l.length c1, .slice a2 r.length c2], .agg #[.slice a5 l3.length c5, .slice a6 r3.length c6]] W fun e w' => e = .returned (.bool V2) ∧ Below W.heap.size W w') := fun W hW => by
                        rw [hV2]
                        have hk1 := Kp.of_below (below_step HBk.out hW)
                        exact refVariant_any _ _ _ _ _ s l r l3 r3 W (HS.out.kp (Kp.of_below (below_step CBk.out hW))) (HI1.out.kp hk1) (HI2.out.kp hk1) (hj3.kp (Kp.of_below hW)) (hj4.kp (Kp.of_below hW)) (by have h1 := hlr.2.2.1; have h2 := hlr.2.2.2.1; simp only at h1 h2; omega) (by have h1 := hlr3.2.2.1; have h2 := hlr3.2.2.2.1; simp only at h1 h2; omega)
                      have HM2 := hid hm2
                      have HM3 := hid hm3
                      have HQ1 := hid hV1
                      have HQ2 := hid hV2
                      have P0 := hid p0'
                      have P1 := hid p1'
                      clear hm2 hm3 hV1 hV2 hlr hlr2 hlr3 hj1 hj2 hj3 hj4 p0' p1'
                      go_wp2_with fail
                      refine region_below (by kernel_rfl) (by kernel_rfl) ?_
                      go_big_quiet_want
                      refine ⟨.pointer (some ⟨w.heap.size, 0, none⟩), fun w' hw' => ?_, ?_⟩
                      · unfold Oper.quietAt; go_simp
                      simp only [Act.put, List.setIfInBounds_toArray, List.set_cons_zero, List.set_cons_succ]
                      go_big_quiet_on
                      go_big_quiet_want
                      refine ⟨.slice so s.length sc, fun w' hw' => ?_, ?_⟩
                      · have hh0 := (Kp.of_below hw').cell _ _ z0; unfold Oper.quietAt; go_simp
                      simp only [Act.put, List.setIfInBounds_toArray, List.set_cons_zero, List.set_cons_succ]
                      go_big_quiet_on
                      go_big_quiet_want
                      refine ⟨.pointer (some ⟨w.heap.size, 1, none⟩), fun w' hw' => ?_, ?_⟩
                      · unfold Oper.quietAt; go_simp
                      simp only [Act.put, List.setIfInBounds_toArray, List.set_cons_zero, List.set_cons_succ]
                      go_big_quiet_on
                      go_big_quiet_want
                      refine ⟨.slice (some ⟨g, off, none⟩) a.length ac, fun w' hw' => ?_, ?_⟩
                      · have hh0 := (Kp.of_below hw').cell _ _ z1; unfold Oper.quietAt; go_simp
                      simp only [Act.put, List.setIfInBounds_toArray, List.set_cons_zero, List.set_cons_succ]
                      go_big_quiet_on
                      (go_big_quiet_want; go_big_quiet_op; go_big_quiet_on)
                      go_big_quiet_want
                      refine ⟨.pointer (some ⟨g, off + i * 2, none⟩), fun w' hw' => ?_, ?_⟩
                      · unfold Oper.quietAt; go_simp
                      simp only [Act.put, List.setIfInBounds_toArray, List.set_cons_zero, List.set_cons_succ]
                      go_big_quiet_on
                      go_big_quiet_want
                      refine ⟨.agg #[.slice a1 l.length c1, .slice a2 r.length c2], fun w' hw' => ?_, ?_⟩
                      · have hh0 := (Kp.of_below hw').cell _ _ e0; have hh1 := (Kp.of_below hw').cell _ _ e1; unfold Oper.quietAt; go_simp
                      simp only [Act.put, List.setIfInBounds_toArray, List.set_cons_zero, List.set_cons_succ]
                      go_big_quiet_on
                      go_big_quiet_want
                      refine ⟨.pointer (some ⟨w.heap.size, 1, none⟩), fun w' hw' => ?_, ?_⟩
                      · unfold Oper.quietAt; go_simp
                      simp only [Act.put, List.setIfInBounds_toArray, List.set_cons_zero, List.set_cons_succ]
                      go_big_quiet_on
                      go_big_quiet_want
                      refine ⟨.slice (some ⟨g, off, none⟩) a.length ac, fun w' hw' => ?_, ?_⟩
                      · have hh0 := (Kp.of_below hw').cell _ _ z1; unfold Oper.quietAt; go_simp
                      simp only [Act.put, List.setIfInBounds_toArray, List.set_cons_zero, List.set_cons_succ]
                      go_big_quiet_on
                      (go_big_quiet_want; go_big_quiet_op; go_big_quiet_on)
                      go_big_quiet_want
                      refine ⟨.pointer (some ⟨g, off + k * 2, none⟩), fun w' hw' => ?_, ?_⟩
                      · unfold Oper.quietAt; go_simp
                      simp only [Act.put, List.setIfInBounds_toArray, List.set_cons_zero, List.set_cons_succ]
                      go_big_quiet_on
                      go_big_quiet_want
                      refine ⟨.agg #[.slice a3 l2.length c3, .slice a4 r2.length c4], fun w' hw' => ?_, ?_⟩
                      · have hh0 := (Kp.of_below hw').cell _ _ f0; have hh1 := (Kp.of_below hw').cell _ _ f1; unfold Oper.quietAt; go_simp
                      simp only [Act.put, List.setIfInBounds_toArray, List.set_cons_zero, List.set_cons_succ]
                      go_big_quiet_on
                      go_big_quiet_want
                      refine ⟨.bool V1, fun w' hw' => ?_, ?_⟩
                      · unfold Oper.quietAt; go_simp; exact (HV1.out w' hw').mono (fun e w2 ⟨he, hb⟩ => ⟨he, below_step hw' hb⟩)
                      simp only [Act.put, List.setIfInBounds_toArray, List.set_cons_zero, List.set_cons_succ]
                      go_big_quiet_on
                      refine wpQuiet_nil ?_
                      intro w3 hb3
                      have HBk3 := hid (below_step HBk.out hb3)
                      obtain ⟨⟨q0, q1⟩, q2, q3⟩ := HC.out w3 (below_step HBi.out HBk3.out)
                      have e20 := (Kp.of_below HBk3.out).cell _ _ E0.out
                      have e21 := (Kp.of_below HBk3.out).cell _ _ E1.out
                      have p0 := (Kp.of_below hb3).cell _ _ P0.out
                      have p1 := (Kp.of_below hb3).cell _ _ P1.out
                      have HV2 : Hid (∀ W, Below w3.heap.size w3 W → Calls Tryd.prog 16 #[.slice so s.length sc, .agg #[.slice a1 l.length c1, .slice a2 r.length c2], .agg #[.slice a5 l3.length c5, .slice a6 r3.length c6]] W fun e w' => e = .returned (.bool V2) ∧ Below W.heap.size W w') := fun W hW => HV2'.out W (below_step hb3 hW)
                      clear hb3 z0 z1 z2 z3 e0 e1 f0 f1 HV1 HV2' P0 P1
                      cases hE1 : V1 with
                      | true =>
                        have HE1 : Hid (vrP s (l, r) (l2, r2) = true) := by show _ = _; rw [← hE1, HQ1.out]
                        clear hE1
                        obtain ⟨M, hM⟩ : ∃ M, M = N + 1 := ⟨_, rfl⟩
                        have hw1 : IntKind.i64.wrap (N + 1) = M := by rw [hM]; exact IntWalk.i64_in _ ⟨by omega, by omega⟩
                        have hM1 : -65 ≤ M := by omega
                        have hM2' : M ≤ 65 := by omega
                        have HM := hid hM
                        clear hM
                        go_wp2_with fail
                        refine region_below (by kernel_rfl) (by kernel_rfl) ?_
                        go_big_quiet_want
                        refine ⟨.pointer (some ⟨w.heap.size, 0, none⟩), fun w' hw' => ?_, ?_⟩
                        · unfold Oper.quietAt; go_simp
                        simp only [Act.put, List.setIfInBounds_toArray, List.set_cons_zero, List.set_cons_succ]
                        go_big_quiet_on
                        go_big_quiet_want
                        refine ⟨.slice so s.length sc, fun w' hw' => ?_, ?_⟩
                        · have hh0 := (Kp.of_below hw').cell _ _ q0; unfold Oper.quietAt; go_simp
                        simp only [Act.put, List.setIfInBounds_toArray, List.set_cons_zero, List.set_cons_succ]
                        go_big_quiet_on
                        go_big_quiet_want
                        refine ⟨.pointer (some ⟨w.heap.size, 1, none⟩), fun w' hw' => ?_, ?_⟩
                        · unfold Oper.quietAt; go_simp
                        simp only [Act.put, List.setIfInBounds_toArray, List.set_cons_zero, List.set_cons_succ]
                        go_big_quiet_on
                        go_big_quiet_want
                        refine ⟨.slice (some ⟨g, off, none⟩) a.length ac, fun w' hw' => ?_, ?_⟩
                        · have hh0 := (Kp.of_below hw').cell _ _ q1; unfold Oper.quietAt; go_simp
                        simp only [Act.put, List.setIfInBounds_toArray, List.set_cons_zero, List.set_cons_succ]
                        go_big_quiet_on
                        (go_big_quiet_want; go_big_quiet_op; go_big_quiet_on)
                        go_big_quiet_want
                        refine ⟨.pointer (some ⟨g, off + i * 2, none⟩), fun w' hw' => ?_, ?_⟩
                        · unfold Oper.quietAt; go_simp
                        simp only [Act.put, List.setIfInBounds_toArray, List.set_cons_zero, List.set_cons_succ]
                        go_big_quiet_on
                        go_big_quiet_want
                        refine ⟨.agg #[.slice a1 l.length c1, .slice a2 r.length c2], fun w' hw' => ?_, ?_⟩
                        · have hh0 := (Kp.of_below hw').cell _ _ e20; have hh1 := (Kp.of_below hw').cell _ _ e21; unfold Oper.quietAt; go_simp
                        simp only [Act.put, List.setIfInBounds_toArray, List.set_cons_zero, List.set_cons_succ]
                        go_big_quiet_on
                        go_big_quiet_want
                        refine ⟨.pointer (some ⟨w.heap.size + 1, 1, none⟩), fun w' hw' => ?_, ?_⟩
                        · unfold Oper.quietAt; go_simp
                        simp only [Act.put, List.setIfInBounds_toArray, List.set_cons_zero, List.set_cons_succ]
                        go_big_quiet_on
                        go_big_quiet_want
                        refine ⟨.slice (some ⟨g3, off3, none⟩) b.length bc, fun w' hw' => ?_, ?_⟩
                        · have hh0 := (Kp.of_below hw').cell _ _ q3; unfold Oper.quietAt; go_simp
                        simp only [Act.put, List.setIfInBounds_toArray, List.set_cons_zero, List.set_cons_succ]
                        go_big_quiet_on
                        (go_big_quiet_want; go_big_quiet_op; go_big_quiet_on)
                        go_big_quiet_want
                        refine ⟨.pointer (some ⟨g3, off3 + k * 2, none⟩), fun w' hw' => ?_, ?_⟩
                        · unfold Oper.quietAt; go_simp
                        simp only [Act.put, List.setIfInBounds_toArray, List.set_cons_zero, List.set_cons_succ]
                        go_big_quiet_on
                        go_big_quiet_want
                        refine ⟨.agg #[.slice a5 l3.length c5, .slice a6 r3.length c6], fun w' hw' => ?_, ?_⟩
                        · have hh0 := (Kp.of_below hw').cell _ _ p0; have hh1 := (Kp.of_below hw').cell _ _ p1; unfold Oper.quietAt; go_simp
                        simp only [Act.put, List.setIfInBounds_toArray, List.set_cons_zero, List.set_cons_succ]
                        go_big_quiet_on
                        go_big_quiet_want
                        refine ⟨.bool V2, fun w' hw' => ?_, ?_⟩
                        · unfold Oper.quietAt; go_simp; exact (HV2.out w' hw').mono (fun e w2 ⟨he, hb⟩ => ⟨he, below_step hw' hb⟩)
                        simp only [Act.put, List.setIfInBounds_toArray, List.set_cons_zero, List.set_cons_succ]
                        go_big_quiet_on
                        refine wpQuiet_nil ?_
                        intro w4 hb4
                        have HBn := hid (below_step HBk3.out hb4)
                        clear hb4 q0 q1 q2 q3 e20 e21 p0 p1 HV2
                        cases hE2 : V2 with
                        | true =>
                          have HE2 : Hid (vrP s (l, r) (l3, r3) = true) := by show _ = _; rw [← hE2, HQ2.out]
                          clear hE2
                          have hM := HM.out
                          obtain ⟨M2, hM2⟩ : ∃ M2, M2 = M - 1 := ⟨_, rfl⟩
                          have hw2 : IntKind.i64.wrap (M - 1) = M2 := by rw [hM2]; exact IntWalk.i64_in _ ⟨by omega, by omega⟩
                          have HNx : Hid (M2 = (vrN s (l, r) (a.take (k + 1)) : Int) - (vrN s (l, r) (b.take (k + 1)) : Int)) := by
                            have h9 := HN.out
                            show _ = _
                            rw [vrN_next HM2.out, vrN_next HM3.out, HE1.out, HE2.out]
                            simp only [if_true]
                            omega
                          clear hM2 hM
                          go_wp2
                          go_roundw
                          case rel => exact ⟨k + 1, M2, hlt2, HNx.out, by go_num, by go_num, HBn.out⟩
                          case measure => simp only [intOf]; omega
                        | false =>
                          have HE2 : Hid (vrP s (l, r) (l3, r3) = false) := by show _ = _; rw [← hE2, HQ2.out]
                          clear hE2
                          have hM := HM.out
                          have HNx : Hid (M = (vrN s (l, r) (a.take (k + 1)) : Int) - (vrN s (l, r) (b.take (k + 1)) : Int)) := by
                            have h9 := HN.out
                            show _ = _
                            rw [vrN_next HM2.out, vrN_next HM3.out, HE1.out, HE2.out]
                            simp only [if_true, Bool.false_eq_true, if_false]
                            omega
                          clear hM
                          go_wp2
                          go_roundw
                          case rel => exact ⟨k + 1, M, hlt2, HNx.out, by go_num, by go_num, HBn.out⟩
                          case measure => simp only [intOf]; omega
                      | false =>
                        have HE1 : Hid (vrP s (l, r) (l2, r2) = false) := by show _ = _; rw [← hE1, HQ1.out]
                        clear hE1
                        go_wp2_with fail
                        refine region_below (by kernel_rfl) (by kernel_rfl) ?_
                        go_big_quiet_want
                        refine ⟨.pointer (some ⟨w.heap.size, 0, none⟩), fun w' hw' => ?_, ?_⟩
                        · unfold Oper.quietAt; go_simp
                        simp only [Act.put, List.setIfInBounds_toArray, List.set_cons_zero, List.set_cons_succ]
                        go_big_quiet_on
                        go_big_quiet_want
                        refine ⟨.slice so s.length sc, fun w' hw' => ?_, ?_⟩
                        · have hh0 := (Kp.of_below hw').cell _ _ q0; unfold Oper.quietAt; go_simp
                        simp only [Act.put, List.setIfInBounds_toArray, List.set_cons_zero, List.set_cons_succ]
                        go_big_quiet_on
                        go_big_quiet_want
                        refine ⟨.pointer (some ⟨w.heap.size, 1, none⟩), fun w' hw' => ?_, ?_⟩
                        · unfold Oper.quietAt; go_simp
                        simp only [Act.put, List.setIfInBounds_toArray, List.set_cons_zero, List.set_cons_succ]
                        go_big_quiet_on
                        go_big_quiet_want
                        refine ⟨.slice (some ⟨g, off, none⟩) a.length ac, fun w' hw' => ?_, ?_⟩
                        · have hh0 := (Kp.of_below hw').cell _ _ q1; unfold Oper.quietAt; go_simp
                        simp only [Act.put, List.setIfInBounds_toArray, List.set_cons_zero, List.set_cons_succ]
                        go_big_quiet_on
                        (go_big_quiet_want; go_big_quiet_op; go_big_quiet_on)
                        go_big_quiet_want
                        refine ⟨.pointer (some ⟨g, off + i * 2, none⟩), fun w' hw' => ?_, ?_⟩
                        · unfold Oper.quietAt; go_simp
                        simp only [Act.put, List.setIfInBounds_toArray, List.set_cons_zero, List.set_cons_succ]
                        go_big_quiet_on
                        go_big_quiet_want
                        refine ⟨.agg #[.slice a1 l.length c1, .slice a2 r.length c2], fun w' hw' => ?_, ?_⟩
                        · have hh0 := (Kp.of_below hw').cell _ _ e20; have hh1 := (Kp.of_below hw').cell _ _ e21; unfold Oper.quietAt; go_simp
                        simp only [Act.put, List.setIfInBounds_toArray, List.set_cons_zero, List.set_cons_succ]
                        go_big_quiet_on
                        go_big_quiet_want
                        refine ⟨.pointer (some ⟨w.heap.size + 1, 1, none⟩), fun w' hw' => ?_, ?_⟩
                        · unfold Oper.quietAt; go_simp
                        simp only [Act.put, List.setIfInBounds_toArray, List.set_cons_zero, List.set_cons_succ]
                        go_big_quiet_on
                        go_big_quiet_want
                        refine ⟨.slice (some ⟨g3, off3, none⟩) b.length bc, fun w' hw' => ?_, ?_⟩
                        · have hh0 := (Kp.of_below hw').cell _ _ q3; unfold Oper.quietAt; go_simp
                        simp only [Act.put, List.setIfInBounds_toArray, List.set_cons_zero, List.set_cons_succ]
                        go_big_quiet_on
                        (go_big_quiet_want; go_big_quiet_op; go_big_quiet_on)
                        go_big_quiet_want
                        refine ⟨.pointer (some ⟨g3, off3 + k * 2, none⟩), fun w' hw' => ?_, ?_⟩
                        · unfold Oper.quietAt; go_simp
                        simp only [Act.put, List.setIfInBounds_toArray, List.set_cons_zero, List.set_cons_succ]
                        go_big_quiet_on
                        go_big_quiet_want
                        refine ⟨.agg #[.slice a5 l3.length c5, .slice a6 r3.length c6], fun w' hw' => ?_, ?_⟩
                        · have hh0 := (Kp.of_below hw').cell _ _ p0; have hh1 := (Kp.of_below hw').cell _ _ p1; unfold Oper.quietAt; go_simp
                        simp only [Act.put, List.setIfInBounds_toArray, List.set_cons_zero, List.set_cons_succ]
                        go_big_quiet_on
                        go_big_quiet_want
                        refine ⟨.bool V2, fun w' hw' => ?_, ?_⟩
                        · unfold Oper.quietAt; go_simp; exact (HV2.out w' hw').mono (fun e w2 ⟨he, hb⟩ => ⟨he, below_step hw' hb⟩)
                        simp only [Act.put, List.setIfInBounds_toArray, List.set_cons_zero, List.set_cons_succ]
                        go_big_quiet_on
                        refine wpQuiet_nil ?_
                        intro w4 hb4
                        have HBn := hid (below_step HBk3.out hb4)
                        clear hb4 q0 q1 q2 q3 e20 e21 p0 p1 HV2
                        cases hE2 : V2 with
                        | true =>
                          have HE2 : Hid (vrP s (l, r) (l3, r3) = true) := by show _ = _; rw [← hE2, HQ2.out]
                          clear hE2
                          obtain ⟨M2, hM2⟩ : ∃ M2, M2 = N - 1 := ⟨_, rfl⟩
                          have hw2 : IntKind.i64.wrap (N - 1) = M2 := by rw [hM2]; exact IntWalk.i64_in _ ⟨by omega, by omega⟩
                          have HNx : Hid (M2 = (vrN s (l, r) (a.take (k + 1)) : Int) - (vrN s (l, r) (b.take (k + 1)) : Int)) := by
                            have h9 := HN.out
                            show _ = _
                            rw [vrN_next HM2.out, vrN_next HM3.out, HE1.out, HE2.out]
                            simp only [if_true, Bool.false_eq_true, if_false]
                            omega
                          clear hM2
                          go_wp2
                          go_roundw
                          case rel => exact ⟨k + 1, M2, hlt2, HNx.out, by go_num, by go_num, HBn.out⟩
                          case measure => simp only [intOf]; omega
                        | false =>
                          have HE2 : Hid (vrP s (l, r) (l3, r3) = false) := by show _ = _; rw [← hE2, HQ2.out]
                          clear hE2
                          have HNx : Hid (N = (vrN s (l, r) (a.take (k + 1)) : Int) - (vrN s (l, r) (b.take (k + 1)) : Int)) := by
                            have h9 := HN.out
                            show _ = _
                            rw [vrN_next HM2.out, vrN_next HM3.out, HE1.out, HE2.out]
                            simp only [Bool.false_eq_true, if_false]
                            omega
                          go_wp2
                          go_roundw
                          case rel => exact ⟨k + 1, N, hlt2, HNx.out, by go_num, by go_num, HBn.out⟩
                          case measure => simp only [intOf]; omega
                    · have HNe : Hid (N = (vrN s (l, r) a : Int) - (vrN s (l, r) b : Int)) := by
                        have h9 := HN.out
                        have h8 := HLl.out
                        rw [List.take_of_length_le (by omega), List.take_of_length_le (by omega)] at h9
                        exact h9
                      have CN := hid (below_step HBi.out HBk.out)
                      clear e0 e1
                      by_cases hz : N = 0
                      · have hd : (N != 0) = false := by simp [hz]
                        have HCx : Hid (∀ x ∈ a.take (i + 1), vrN s x a = vrN s x b) := fun x hx => by
                          rw [take_get HM.out, List.mem_append, List.mem_singleton] at hx
                          rcases hx with hx | rfl
                          · exact HCn.out x hx
                          · have h9 := HNe.out
                            omega
                        clear hz
                        go_wp2
                        go_roundw
                        case rel => exact ⟨i + 1, hlt, by go_num, HCx.out, CN.out⟩
                        case measure => simp only [intOf]; omega
                      · have hd : (N != 0) = true := by simpa using hz
                        have HF : Hid (R = false) := by
                          show _ = _
                          rw [HR3.out]
                          unfold cntB
                          rw [List.all_eq_false]
                          refine ⟨(l, r), List.mem_of_getElem? HM.out, ?_⟩
                          have h9 := HNe.out
                          rw [decide_eq_true_eq]
                          omega
                        clear hz
                        go_wp2
                        go_ret
                        exact ⟨ret1b HF.out.symm, CBk.out⟩
                · have HF : Hid (R = true) := by
                    show _ = _
                    have h9 := HCn.out
                    rw [List.take_of_length_le (by omega)] at h9
                    rw [HR3.out]
                    unfold cntB
                    rw [List.all_eq_true]
                    intro x hx
                    rw [decide_eq_true_eq]
                    exact h9 x hx
                  go_wp2
                  go_ret
                  exact ⟨ret1b HF.out.symm, CBi.out⟩
        · have hdl : ((a.length : Int) != b.length) = true := by rw [bne_iff_ne]; omega
          have HF : Hid (R = false) := by
            show _ = _
            rw [HR.out]
            unfold sameB
            rw [decide_eq_false hll, Bool.and_false]
            rfl
          clear hll
          go_wp2
          go_ret
          exact ⟨ret1b HF.out.symm, C2.out⟩
      · have hds : ((s.length : Int) != t.length) = true := by rw [bne_iff_ne]; omega
        have HF : Hid (R = false) := by
          show _ = _
          rw [HR.out]
          unfold sameB
          rw [decide_eq_false (fun h => hls (by rw [h])), Bool.and_false]
          rfl
        clear hls
        go_wp2
        go_ret
        exact ⟨ret1b HF.out.symm, C2.out⟩

end Go.Proofs.YtcijfaijjpkdoacDoor

/- The example's system. -/
namespace Go.Proofs.YtcijfaijjpkdoacDoor
open Go.RowKit Go.Maps Go.BigFrame

/-- The example's system lies in the blocks from B on. -/
structure AddsAt (W : World) (B : Nat) : Prop where
  size : B + 7 ≤ W.heap.size
  sig : Sg W (.slice (some ⟨B + 1, 0, none⟩) 3 3) sumS
  l0 : Is W (.slice (some ⟨B + 2, 0, none⟩) 3 3) [2, 0, -2]
  r0 : Is W (.slice (some ⟨B + 3, 0, none⟩) 1 1) [-2]
  l1 : Is W (.slice (some ⟨B + 4, 0, none⟩) 4 4) [2, 1, -1, -2]
  r1 : Is W (.slice (some ⟨B + 5, 0, none⟩) 4 4) [1, 2, -1, -2]

theorem heap_newg {w : World} {o : Obj} {g : Nat} (h : g = w.heap.size) : (w.alloc o).heap[g]? = some o := by
  subst h
  exact heap_alloc_new _ _

/-- What its rules' block holds. -/
def AddsR (W : World) (B : Nat) : Prop := W.heap[B + 6]? = some (.cells #[.slice (some ⟨B + 2, 0, none⟩) 3 3, .slice (some ⟨B + 3, 0, none⟩) 1 1, .slice (some ⟨B + 4, 0, none⟩) 4 4, .slice (some ⟨B + 5, 0, none⟩) 4 4] 34)

set_option maxRecDepth 100000 in
set_option maxHeartbeats 1600000 in
theorem adds_any (w : World) :
    Calls Tryd.prog 10 #[] w fun e w' => e = .returned (.agg #[.slice (some ⟨w.heap.size + 1, 0, none⟩) 3 3, .slice (some ⟨w.heap.size + 6, 0, none⟩) 2 2]) ∧ AddsAt w' w.heap.size ∧ AddsR w' w.heap.size ∧ w'.heap.size = w.heap.size + 7 ∧ Below w.heap.size w w' := by
  go_enter Tryd.func10, Tryd.ntmps10
  go_wp2
  generalize hW : World.alloc _ _ = W
  have hsz : W.heap.size = w.heap.size + 7 := by rw [← hW]; simp
  have hb : Below w.heap.size w W := by
    rw [← hW]
    exact below_step (below_step (below_step (below_step (below_step (below_step (below_alloc _) (below_alloc _)) (below_alloc _)) (below_alloc _)) (below_alloc _)) (below_alloc _)) (below_alloc _)
  have k0 : W.cell? ⟨w.heap.size, 0, none⟩ = some (.slice (some ⟨w.heap.size + 1, 0, none⟩) 3 3) := by rw [← hW]; repeat (first | (refine cell_newg ?_ rfl; simp; done) | refine cell_old ?_)
  have k1 : W.cell? ⟨w.heap.size, 1, none⟩ = some (.slice (some ⟨w.heap.size + 6, 0, none⟩) 2 2) := by rw [← hW]; repeat (first | (refine cell_newg ?_ rfl; simp; done) | refine cell_old ?_)
  have hA : AddsAt W w.heap.size := by
    refine ⟨by omega, ?_, ?_, ?_, ?_, ?_⟩
    · refine sg_lit (p := sumS) (by omega) (by decide) ⟨⟨by decide, by decide, by decide, ?_, ?_⟩, ⟨by decide, by decide, by decide, ?_, ?_⟩, ⟨by decide, by decide, by decide, ?_, ?_⟩, trivial⟩ <;> (rw [← hW]; repeat (first | (refine cell_newg ?_ rfl; simp; done) | refine cell_old ?_))
    · refine is_lit (p := [2, 0, -2]) (by omega) (by decide) ⟨ei (by omega) (by omega) ?_, ei (by omega) (by omega) ?_, ei (by omega) (by omega) ?_, trivial⟩ <;> (rw [← hW]; repeat (first | (refine cell_newg ?_ rfl; simp; done) | refine cell_old ?_))
    · refine is_lit (p := [-2]) (by omega) (by decide) ⟨ei (by omega) (by omega) ?_, trivial⟩ <;> (rw [← hW]; repeat (first | (refine cell_newg ?_ rfl; simp; done) | refine cell_old ?_))
    · refine is_lit (p := [2, 1, -1, -2]) (by omega) (by decide) ⟨ei (by omega) (by omega) ?_, ei (by omega) (by omega) ?_, ei (by omega) (by omega) ?_, ei (by omega) (by omega) ?_, trivial⟩ <;> (rw [← hW]; repeat (first | (refine cell_newg ?_ rfl; simp; done) | refine cell_old ?_))
    · refine is_lit (p := [1, 2, -1, -2]) (by omega) (by decide) ⟨ei (by omega) (by omega) ?_, ei (by omega) (by omega) ?_, ei (by omega) (by omega) ?_, ei (by omega) (by omega) ?_, trivial⟩ <;> (rw [← hW]; repeat (first | (refine cell_newg ?_ rfl; simp; done) | refine cell_old ?_))
  have hR : AddsR W w.heap.size := by
    unfold AddsR
    rw [← hW]
    exact heap_newg (by simp)
  clear hW
  refine bodyPost_ret (results_one rfl rfl ?_) rfl ⟨rfl, hA, hR, hsz, hb⟩
  go_simp

end Go.Proofs.YtcijfaijjpkdoacDoor

/- The examples of layer 7, plainly, and rules in a block of their own. -/
namespace Go.Proofs.YtcijfaijjpkdoacDoor
open Go.RowKit Go.Maps Go.BigFrame

def addR0 : Rl := ([2, 0, -2], [-2])
def addR1 : Rl := ([2, 1, -1, -2], [1, 2, -1, -2])
def addR2 : Rl := ([2, 1, -1, -2], [-3])

theorem sh7_check : sysE sumS [addR0, addR1] = (0, 0) := by kernel_rfl
theorem sh7_bad : sysE sumS [addR2, addR0] = (72, 0) := by kernel_rfl
theorem sh7_same : sameB sumS [addR0, addR1] sumS [addR1, addR0] = true := by kernel_rfl
theorem sh7_other : sameB sumS [addR0, addR1] sumS [addR2, addR0] = false := by kernel_rfl
theorem sh7_defined : definedL sumS [addR0, addR1] = [2] := by
  have h1 : sysB sumS [addR0, addR1] = true := by kernel_rfl
  have h2 : rootsL [addR0, addR1] = [2, 2] := by kernel_rfl
  have h3 : sortI [2, 2] = [2, 2] := by
    unfold sortI
    exact List.mergeSort_of_pairwise (by simp)
  have h4 : Lib.compact [(2 : Int), 2] = [2] := by decide
  unfold definedL
  rw [h1, h2, h3, h4]
  rfl

/-- Two rules in a block. -/
theorem ru_lit2 {W : World} {g : Nat} {a0 a1 a2 a3 : Option Addr} {n0 n1 n2 n3 c0 c1 c2 c3 : Nat} {p q r s : List Int} (h0 : W.cell? ⟨g, 0, none⟩ = some (.slice a0 n0 c0)) (h1 : W.cell? ⟨g, 1, none⟩ = some (.slice a1 n1 c1)) (h2 : W.cell? ⟨g, 2, none⟩ = some (.slice a2 n2 c2)) (h3 : W.cell? ⟨g, 3, none⟩ = some (.slice a3 n3 c3))
    (i0 : Is W (.slice a0 n0 c0) p) (i1 : Is W (.slice a1 n1 c1) q) (i2 : Is W (.slice a2 n2 c2) r) (i3 : Is W (.slice a3 n3 c3) s) (l0 : p.length ≤ 99) (l1 : q.length ≤ 99) (l2 : r.length ≤ 99) (l3 : s.length ≤ 99) : RU W (.slice (some ⟨g, 0, none⟩) 2 2) [(p, q), (r, s)] := by
  refine ⟨some ⟨g, 0, none⟩, 2, rfl, Nat.le_refl _, by unfold maxLen; omega, fun _ => ⟨g, 0, rfl, World.block_lt_of_cell? _ _ h0, fun k x hk => ?_⟩⟩
  match k, hk with
  | 0, hk =>
    cases hk
    exact ⟨by simp only; omega, by simp only; omega, _, _, h0, h1, i0, i1⟩
  | 1, hk =>
    cases hk
    exact ⟨by simp only; omega, by simp only; omega, _, _, h2, h3, i2, i3⟩
  | k + 2, hk => simp at hk

end Go.Proofs.YtcijfaijjpkdoacDoor

/- The examples of layer 7 come out true. -/
namespace Go.Proofs.YtcijfaijjpkdoacDoor
open Go.RowKit Go.Maps Go.BigFrame

/-- All blocks of W but X are as they were. -/
structure Exc (W W' : World) (X : Nat) : Prop where
  size : W.heap.size ≤ W'.heap.size
  same : ∀ g, g ≠ X → g < W.heap.size → W'.heap[g]? = W.heap[g]?

theorem Exc.cell {W W' : World} {X g o : Nat} {v : Value} (h : Exc W W' X) (hne : g ≠ X) (hc : W.cell? ⟨g, o, none⟩ = some v) : W'.cell? ⟨g, o, none⟩ = some v :=
  (cell_block (h.same g hne (World.block_lt_of_cell? _ _ hc)) o).trans hc

theorem Exc.is {W W' : World} {X g o n c : Nat} {xs : List Int} (h : Exc W W' X) (hne : g ≠ X) (hi : Is W (.slice (some ⟨g, o, none⟩) n c) xs) : Is W' (.slice (some ⟨g, o, none⟩) n c) xs := by
  obtain ⟨ao, cap, hv, h1, h2, h3⟩ := hi
  simp only [Value.slice.injEq] at hv
  obtain ⟨rfl, rfl, rfl⟩ := hv
  refine ⟨_, _, rfl, h1, h2, fun hp => ?_⟩
  obtain ⟨g', o', e, hl, hc⟩ := h3 hp
  cases e
  exact ⟨g, o, rfl, Nat.lt_of_lt_of_le hl h.size, fun k x hk => ⟨(hc k x hk).1, (hc k x hk).2.1, h.cell hne (hc k x hk).2.2⟩⟩

theorem Exc.sg {W W' : World} {X g o n c : Nat} {xs : List Sy} (h : Exc W W' X) (hne : g ≠ X) (hi : Sg W (.slice (some ⟨g, o, none⟩) n c) xs) : Sg W' (.slice (some ⟨g, o, none⟩) n c) xs := by
  obtain ⟨ao, cap, hv, h1, h2, h3⟩ := hi
  simp only [Value.slice.injEq] at hv
  obtain ⟨rfl, rfl, rfl⟩ := hv
  refine ⟨_, _, rfl, h1, h2, fun hp => ?_⟩
  obtain ⟨g', o', e, hl, hc⟩ := h3 hp
  cases e
  refine ⟨g, o, rfl, Nat.lt_of_lt_of_le hl h.size, fun k x hk => ?_⟩
  obtain ⟨e1, e2, e3, e4, e5⟩ := hc k x hk
  exact ⟨e1, e2, e3, h.cell hne e4, h.cell hne e5⟩

theorem AddsAt.exc {W W' : World} {X B : Nat} (h : AddsAt W B) (he : Exc W W' X) (hX : X < B + 1 ∨ B + 6 ≤ X) : AddsAt W' B :=
  ⟨Nat.le_trans h.size he.size, he.sg (by omega) h.sig, he.is (by omega) h.l0, he.is (by omega) h.r0, he.is (by omega) h.l1, he.is (by omega) h.r1⟩

theorem AddsAt.kp {W W' : World} {B : Nat} (h : AddsAt W B) (hk : Kp W W') : AddsAt W' B :=
  ⟨Nat.le_trans h.size hk.size, h.sig.kp hk, h.l0.kp hk, h.r0.kp hk, h.l1.kp hk, h.r1.kp hk⟩

theorem AddsR.cells {W : World} {B : Nat} (h : AddsR W B) : W.cell? ⟨B + 6, 0, none⟩ = some (.slice (some ⟨B + 2, 0, none⟩) 3 3) ∧ W.cell? ⟨B + 6, 1, none⟩ = some (.slice (some ⟨B + 3, 0, none⟩) 1 1) ∧ W.cell? ⟨B + 6, 2, none⟩ = some (.slice (some ⟨B + 4, 0, none⟩) 4 4) ∧ W.cell? ⟨B + 6, 3, none⟩ = some (.slice (some ⟨B + 5, 0, none⟩) 4 4) := by
  unfold AddsR at h
  exact ⟨cell_of_row _ _ _ _ _ _ h, cell_of_row _ _ _ _ _ _ h, cell_of_row _ _ _ _ _ _ h, cell_of_row _ _ _ _ _ _ h⟩

theorem adds_ru {W : World} {B : Nat} (h : AddsAt W B) (hr : AddsR W B) : RU W (.slice (some ⟨B + 6, 0, none⟩) 2 2) [addR0, addR1] := by
  obtain ⟨h0, h1, h2, h3⟩ := hr.cells
  exact ru_lit2 h0 h1 h2 h3 h.l0 h.r0 h.l1 h.r1 (by decide) (by decide) (by decide) (by decide)

/-- The world behind the swap of the example's rules. -/
theorem swap_world {W X : World} {B : Nat} (hR : AddsR W B) (hX : ((((W.setCell ⟨B + 6, 0, none⟩ (.slice (some ⟨B + 4, 0, none⟩) 4 4)).setCell ⟨B + 6, 1, none⟩ (.slice (some ⟨B + 5, 0, none⟩) 4 4)).setCell ⟨B + 6, 2, none⟩ (.slice (some ⟨B + 2, 0, none⟩) 3 3)).setCell ⟨B + 6, 3, none⟩ (.slice (some ⟨B + 3, 0, none⟩) 1 1)).drew = X) :
    Exc W X (B + 6) ∧ X.heap[B + 6]? = some (.cells #[.slice (some ⟨B + 4, 0, none⟩) 4 4, .slice (some ⟨B + 5, 0, none⟩) 4 4, .slice (some ⟨B + 2, 0, none⟩) 3 3, .slice (some ⟨B + 3, 0, none⟩) 1 1] 34) ∧ ∀ b w0, b ≤ B + 6 → Below b w0 W → Below b w0 X := by
  subst hX
  refine ⟨⟨by simp, fun g hne _ => ?_⟩, ?_, fun b w0 hle hb => ?_⟩
  · show (World.setCell _ _ _).heap[g]? = _
    rw [heap_setCell_other _ _ _ _ hne, heap_setCell_other _ _ _ _ hne, heap_setCell_other _ _ _ _ hne, heap_setCell_other _ _ _ _ hne]
  · show (World.setCell _ _ _).heap[B + 6]? = _
    exact heap_setCell_same _ _ _ _ _ _ (heap_setCell_same _ _ _ _ _ _ (heap_setCell_same _ _ _ _ _ _ (heap_setCell_same _ _ _ _ _ _ hR)))
  · exact ((((hb.setCell (p := ⟨B + 6, 0, none⟩) hle _).setCell (p := ⟨B + 6, 1, none⟩) hle _).setCell (p := ⟨B + 6, 2, none⟩) hle _).setCell (p := ⟨B + 6, 3, none⟩) hle _).drew

end Go.Proofs.YtcijfaijjpkdoacDoor

/- The examples of layer 7 come out true. -/
namespace Go.Proofs.YtcijfaijjpkdoacDoor
open Go.RowKit Go.Maps Go.BigFrame

/-- The world behind the store of a new right side. -/
theorem store_world {W X : World} {B : Nat} {v1 v2 v3 v4 : Value} (hR : W.heap[B + 6]? = some (.cells #[v1, v2, v3, v4] 34)) (hX : X = (W.setCell ⟨B + 6, 1, none⟩ (.slice (some ⟨W.heap.size, 0, none⟩) 1 1)).alloc (.cells #[.int .i64 (-3)] 3)) :
    Exc W X (B + 6) ∧ X.heap[B + 6]? = some (.cells #[v1, .slice (some ⟨W.heap.size, 0, none⟩) 1 1, v3, v4] 34) ∧ Is X (.slice (some ⟨W.heap.size, 0, none⟩) 1 1) [-3] ∧ ∀ b w0, b ≤ B + 6 → Below b w0 W → Below b w0 X := by
  have hlt : B + 6 < W.heap.size := (Array.getElem?_eq_some_iff.1 hR).1
  have ha : ∀ g, g < W.heap.size → X.heap[g]? = (W.setCell ⟨B + 6, 1, none⟩ (.slice (some ⟨W.heap.size, 0, none⟩) 1 1)).heap[g]? := fun g hg => by
    rw [hX]
    exact (grown_of_below (below_alloc _) none).block _ (by simpa using hg) (by simp)
  refine ⟨⟨by rw [hX]; simp, fun g hne hg => ?_⟩, ?_, ?_, fun b w0 hle hb => ?_⟩
  · rw [ha g hg, heap_setCell_other _ _ _ _ hne]
  · rw [ha _ hlt]
    exact heap_setCell_same _ _ _ _ _ _ hR
  · refine is_lit (p := [-3]) (by rw [hX]; simp) (by decide) ⟨ei (by omega) (by omega) ?_, trivial⟩
    rw [hX]
    exact cell_newg (by simp) rfl
  · rw [hX]
    have h1 := hb.setCell (p := ⟨B + 6, 1, none⟩) hle (.slice (some ⟨W.heap.size, 0, none⟩) 1 1)
    exact h1.grown (grown_of_below (below_alloc _) none) (by simp; omega) (fun j hj => by cases hj)

set_option maxRecDepth 100000 in
set_option maxHeartbeats 3200000 in
theorem shown7_any (w : World) (hT : Tabs w) :
    Calls Tryd.prog 5 #[] w fun e w' => e = .returned (.bool true) ∧ Below w.heap.size w w' := by
  have HT := hid hT
  clear hT
  go_enter Tryd.func5, Tryd.ntmps5
  go_wp2_with fail
  refine (adds_any w).mono ?_
  rintro e w1 ⟨rfl, hA1, hR1, hs1, hb1⟩
  obtain ⟨W1, hW1⟩ : ∃ X, X = w1.alloc (.cells #[.slice (some ⟨w.heap.size + 1, 0, none⟩) 3 3, .slice (some ⟨w.heap.size + 6, 0, none⟩) 2 2] 25) := ⟨_, rfl⟩
  have C1 : Hid (Below w.heap.size w W1) := by rw [hW1]; exact below_step hb1 (below_alloc _)
  have HS1 : Hid (∀ W, Below W1.heap.size W1 W → (W.cell? ⟨w1.heap.size, 0, none⟩ = some (.slice (some ⟨w.heap.size + 1, 0, none⟩) 3 3) ∧ W.cell? ⟨w1.heap.size, 1, none⟩ = some (.slice (some ⟨w.heap.size + 6, 0, none⟩) 2 2)) ∧ Sg W (.slice (some ⟨w.heap.size + 1, 0, none⟩) 3 3) sumS ∧ RU W (.slice (some ⟨w.heap.size + 6, 0, none⟩) 2 2) [addR0, addR1]) := fun W hW => by
    have hk := Kp.of_below hW
    rw [hW1] at hk
    have hk1 := (Kp.of_below (below_alloc (w := w1) (.cells #[.slice (some ⟨w.heap.size + 1, 0, none⟩) 3 3, .slice (some ⟨w.heap.size + 6, 0, none⟩) 2 2] 25))).trans hk
    exact ⟨⟨hk.cell _ _ (cell_new rfl), hk.cell _ _ (cell_new rfl)⟩, hA1.sig.kp hk1, (adds_ru hA1 hR1).kp hk1⟩
  clear hA1 hR1 hs1 hb1
  go_wp2_with fail
  rw [← hW1]
  clear hW1
  obtain ⟨⟨x0, x1⟩, i0, i1⟩ := HS1.out W1 (Below.refl _ _)
  have I0 := hid i0
  have I1 := hid i1
  clear i0 i1
  go_wp2_with fail
  refine (sysCheck_any _ _ sumS [addR0, addR1] W1 I0.out I1.out (HT.out.below C1.out)).mono ?_
  rintro e w2 ⟨rfl, hb2⟩
  rw [sh7_check]
  have C2 := hid (below_step C1.out hb2)
  have D2 := hid hb2
  clear hb2 x0 x1 I0 I1
  obtain ⟨⟨x0, x1⟩, i0, i1⟩ := HS1.out w2 D2.out
  have I0 := hid i0
  have I1 := hid i1
  clear i0 i1
  go_wp2_with fail
  refine (defined_any _ _ sumS [addR0, addR1] w2 I0.out I1.out (HT.out.below C2.out)).mono ?_
  rintro e w3 ⟨v3, rfl, hi3, hb3⟩
  rw [sh7_defined] at hi3
  have C3 := hid (below_step C2.out hb3)
  have D3 := hid (below_step D2.out hb3)
  obtain ⟨a3, c3, rfl, _, _, _⟩ := hi3.flatI
  obtain ⟨g3, o3, y3, rfl, hy3, hc3, _, _⟩ := hi3.at (k := 0) (by decide)
  cases hy3
  have HD3 := hid hc3
  clear hb3 x0 x1 I0 I1 hi3 hc3
  go_wp2_with fail
  refine (adds_any w3).mono ?_
  rintro e w4 ⟨rfl, hA4, hR4, hs4, hb4⟩
  obtain ⟨W4, hW4⟩ : ∃ X, X = w4.alloc (.cells #[.slice (some ⟨w3.heap.size + 1, 0, none⟩) 3 3, .slice (some ⟨w3.heap.size + 6, 0, none⟩) 2 2] 25) := ⟨_, rfl⟩
  have b4 : Hid (Below w3.heap.size w3 W4) := by rw [hW4]; exact below_step hb4 (below_alloc _)
  have kA : Kp w4 W4 := by rw [hW4]; exact Kp.of_below (below_alloc _)
  have HA4 := hid (hA4.kp kA)
  have z0 : W4.cell? ⟨w4.heap.size, 0, none⟩ = some (.slice (some ⟨w3.heap.size + 1, 0, none⟩) 3 3) := by rw [hW4]; exact cell_new rfl
  have z1 : W4.cell? ⟨w4.heap.size, 1, none⟩ = some (.slice (some ⟨w3.heap.size + 6, 0, none⟩) 2 2) := by rw [hW4]; exact cell_new rfl
  obtain ⟨r0, r1, r2, r3⟩ := hR4.cells
  have q0 := kA.cell _ _ r0
  have q1 := kA.cell _ _ r1
  have q2 := kA.cell _ _ r2
  have q3 := kA.cell _ _ r3
  have hR4' : AddsR W4 w3.heap.size := by
    rw [hW4]
    exact ((grown_of_below (below_alloc _) none).block _ (by omega) (by simp)).trans hR4
  have HR4 := hid hR4'
  have z4 : W4.frozen? ⟨w3.heap.size + 6, 0, none⟩ = false := frozen_of_row _ _ _ _ _ hR4'
  have z5 : W4.frozen? ⟨w3.heap.size + 6, 1, none⟩ = false := frozen_of_row _ _ _ _ _ hR4'
  have z6 : W4.frozen? ⟨w3.heap.size + 6, 2, none⟩ = false := frozen_of_row _ _ _ _ _ hR4'
  have z7 : W4.frozen? ⟨w3.heap.size + 6, 3, none⟩ = false := frozen_of_row _ _ _ _ _ hR4'
  have hlt4 : w3.heap.size + 6 < w4.heap.size := by omega
  have hne4 : w3.heap.size + 6 ≠ w4.heap.size := by omega
  clear hA4 hR4 hR4' hs4 hb4 kA r0 r1 r2 r3
  go_wp2_with fail
  rw [← hW4]
  clear hW4
  go_region
  generalize hX : World.drew _ = W5
  obtain ⟨hx5, hr5, hbx⟩ := swap_world HR4.out hX
  clear hX
  have D5 := hid (hbx _ _ (by omega) b4.out)
  have A5 := hid (HA4.out.exc hx5 (.inr (Nat.le_refl _)))
  have z0' := hx5.cell (fun e => hne4 e.symm) z0
  have z1' := hx5.cell (fun e => hne4 e.symm) z1
  clear z0 z1 z4 z5 z6 z7 q0 q1 q2 q3 HR4 HA4 hbx hx5
  have RU5 : Hid (RU W5 (.slice (some ⟨w3.heap.size + 6, 0, none⟩) 2 2) [addR1, addR0]) := ru_lit2 (cell_of_row _ _ _ _ _ _ hr5) (cell_of_row _ _ _ _ _ _ hr5) (cell_of_row _ _ _ _ _ _ hr5) (cell_of_row _ _ _ _ _ _ hr5) A5.out.l1 A5.out.r1 A5.out.l0 A5.out.r0 (by decide) (by decide) (by decide) (by decide)
  have HR5 := hid hr5
  have C5 := hid (below_step C3.out D5.out)
  have E5 := hid (below_step D3.out D5.out)
  obtain ⟨⟨x0, x1⟩, i0, i1⟩ := HS1.out W5 E5.out
  have I0 := hid i0
  have I1 := hid i1
  have Z0 := hid z0'
  have Z1 := hid z1'
  have H4 := hid hlt4
  have hlw : w4.heap.size < W5.heap.size := World.block_lt_of_cell? _ _ z0'
  have HLw := hid hlw
  clear i0 i1 hr5 hlt4 hne4 hlw
  go_wp2_with fail
  refine (sysSame_any _ _ _ _ sumS sumS [addR0, addR1] [addR1, addR0] W5 I0.out I1.out A5.out.sig RU5.out (HT.out.below C5.out)).mono ?_
  rintro e w6 ⟨rfl, hb6⟩
  rw [sh7_same]
  have C6 := hid (below_step C5.out hb6)
  have E6 := hid (below_step E5.out hb6)
  have A6 := hid (A5.out.kp (Kp.of_below hb6))
  have hr6 : w6.heap[w3.heap.size + 6]? = _ := ((grown_of_below hb6 none).block _ (by have := H4.out; have := HLw.out; omega) (by simp)).trans HR5.out
  have y0 := (Kp.of_below hb6).cell _ _ Z0.out
  have y1 := (Kp.of_below hb6).cell _ _ Z1.out
  have f1 : w6.frozen? ⟨w3.heap.size + 6, 1, none⟩ = false := frozen_of_row _ _ _ _ _ hr6
  have q1 : w6.cell? ⟨w3.heap.size + 6, 1, none⟩ = some (.slice (some ⟨w3.heap.size + 5, 0, none⟩) 4 4) := cell_of_row _ _ _ _ _ _ hr6
  have hlt6 : w3.heap.size + 6 < w6.heap.size := (Array.getElem?_eq_some_iff.1 hr6).1
  have HR6 := hid hr6
  have D6 := hid (below_step D5.out hb6)
  clear hb6 x0 x1 I0 I1 z0' z1' Z0 Z1 RU5 HR5 A5
  obtain ⟨W7, hW7⟩ : ∃ X, X = (w6.setCell ⟨w3.heap.size + 6, 1, none⟩ (.slice (some ⟨w6.heap.size, 0, none⟩) 1 1)).alloc (.cells #[.int .i64 (-3)] 3) := ⟨_, rfl⟩
  obtain ⟨hx7, hr7, hi7, hbx7⟩ := store_world hr6 hW7
  have hne4 : w4.heap.size ≠ w3.heap.size + 6 := by have := H4.out; omega
  have y0' := hx7.cell hne4 y0
  have y1' := hx7.cell hne4 y1
  have A7 := hid (A6.out.exc hx7 (.inr (Nat.le_refl _)))
  have D7 := hid (hbx7 _ _ (by omega) D6.out)
  have RU7 : Hid (RU W7 (.slice (some ⟨w3.heap.size + 6, 0, none⟩) 2 2) [addR2, addR0]) := ru_lit2 (cell_of_row _ _ _ _ _ _ hr7) (cell_of_row _ _ _ _ _ _ hr7) (cell_of_row _ _ _ _ _ _ hr7) (cell_of_row _ _ _ _ _ _ hr7) A7.out.l1 hi7 A7.out.l0 A7.out.r0 (by decide) (by decide) (by decide) (by decide)
  have Y0 := hid y0'
  have Y1 := hid y1'
  rw [hW7] at y0' y1'
  clear hx7 hr7 hi7 hbx7 hr6 hne4 HR6 A6
  go_wp2_with fail
  rw [← hW7]
  clear hW7 y0 y1 y0' y1' q1 f1
  have C7 := hid (below_step C3.out D7.out)
  have E7 := hid (below_step D3.out D7.out)
  refine (sysCheck_any _ _ sumS [addR2, addR0] W7 A7.out.sig RU7.out (HT.out.below C7.out)).mono ?_
  rintro e w8 ⟨rfl, hb8⟩
  rw [sh7_bad]
  have C8 := hid (below_step C7.out hb8)
  have E8 := hid (below_step E7.out hb8)
  have y0 := (Kp.of_below hb8).cell _ _ Y0.out
  have y1 := (Kp.of_below hb8).cell _ _ Y1.out
  have A8 := hid (A7.out.sig.kp (Kp.of_below hb8))
  have RU8 := hid (RU7.out.kp (Kp.of_below hb8))
  obtain ⟨⟨x0, x1⟩, i0, i1⟩ := HS1.out w8 E8.out
  have I0 := hid i0
  have I1 := hid i1
  have D8 := hid (below_step D7.out hb8)
  clear hb8 i0 i1 RU7 A7
  go_wp2_with fail
  refine (sysSame_any _ _ _ _ sumS sumS [addR0, addR1] [addR2, addR0] w8 I0.out I1.out A8.out RU8.out (HT.out.below C8.out)).mono ?_
  rintro e w9 ⟨rfl, hb9⟩
  rw [sh7_other]
  have C9 := hid (below_step C8.out hb9)
  have hc9 := (Kp.of_below (below_step D8.out hb9)).cell _ _ HD3.out
  rw [Nat.add_zero] at hc9
  clear hb9 x0 x1 y0 y1 I0 I1
  go_wp2
  go_ret
  exact ⟨rfl, C9.out⟩

end Go.Proofs.YtcijfaijjpkdoacDoor

/- SystemSame walked. -/
namespace Go.Proofs.YtcijfaijjpkdoacDoor
open Go.RowKit Go.Maps Go.BigFrame

set_option maxRecDepth 100000 in
set_option maxHeartbeats 1600000 in
theorem systemSame_any (sv av tv bv : Value) (s t : List Sy) (a b : List Rl) (w : World) (hs : Sg w sv s) (ha : RU w av a) (ht : Sg w tv t) (hb : RU w bv b) (hT : Tabs w) :
    Calls Tryd.prog 3 #[.agg #[sv, av], .agg #[tv, bv]] w fun e w' => e = .returned (.bool true) ∧ Below w.heap.size w w' := by
  obtain ⟨so, sc, rfl, hso, hsc, _⟩ := Row.flat hs
  obtain ⟨ao, ac, rfl, hao, hac, _⟩ := Row.flat ha
  obtain ⟨to2, tc, rfl, hto, htc, _⟩ := Row.flat ht
  obtain ⟨bo, bc, rfl, hbo, hbc, _⟩ := Row.flat hb
  have HS := hid hs
  have HA := hid ha
  have HS2 := hid ht
  have HA2 := hid hb
  have HT := hid hT
  clear hs ha ht hb hT
  obtain ⟨w0, hw0⟩ : ∃ X, X = (w.alloc (.cells #[.slice so s.length sc, .slice ao a.length ac] 25)).alloc (.cells #[.slice to2 t.length tc, .slice bo b.length bc] 25) := ⟨_, rfl⟩
  have C0 : Hid (Below w.heap.size w w0) := by rw [hw0]; exact below_step (below_alloc _) (below_alloc _)
  have HC : Hid (∀ W, Below w0.heap.size w0 W → (W.cell? ⟨w.heap.size, 0, none⟩ = some (.slice so s.length sc) ∧ W.cell? ⟨w.heap.size, 1, none⟩ = some (.slice ao a.length ac)) ∧ W.cell? ⟨w.heap.size + 1, 0, none⟩ = some (.slice to2 t.length tc) ∧ W.cell? ⟨w.heap.size + 1, 1, none⟩ = some (.slice bo b.length bc)) := fun W hW => by
    have hk := Kp.of_below hW
    rw [hw0] at hk
    have e9 : w.heap.size + 1 = (w.alloc (.cells #[.slice so s.length sc, .slice ao a.length ac] 25)).heap.size := (World.size_alloc _ _).symm
    rw [e9]
    exact ⟨⟨hk.cell _ _ (cell_old (cell_new rfl)), hk.cell _ _ (cell_old (cell_new rfl))⟩, hk.cell _ _ (cell_new rfl), hk.cell _ _ (cell_new rfl)⟩
  go_enter Tryd.func3, Tryd.ntmps3
  go_wp2_with fail
  rw [← hw0]
  clear hw0
  refine (shown7_any w0 (HT.out.below C0.out)).mono ?_
  rintro e w1 ⟨rfl, hb1⟩
  have C1 := hid (below_step C0.out hb1)
  have D1 := hid hb1
  clear hb1
  obtain ⟨⟨x0, x1⟩, y0, y1⟩ := HC.out w1 D1.out
  go_wp2_with fail
  refine (sysSame_any _ _ _ _ s t a b w1 (HS.out.kp (Kp.of_below C1.out)) (HA.out.kp (Kp.of_below C1.out)) (HS2.out.kp (Kp.of_below C1.out)) (HA2.out.kp (Kp.of_below C1.out)) (HT.out.below C1.out)).mono ?_
  rintro e w2 ⟨rfl, hb2⟩
  have C2 := hid (below_step C1.out hb2)
  have D2 := hid (below_step D1.out hb2)
  clear hb2 x0 x1 y0 y1
  obtain ⟨⟨x0, x1⟩, y0, y1⟩ := HC.out w2 D2.out
  go_wp2_with fail
  refine (refSameS_any _ _ _ _ s t a b w2 (HS.out.kp (Kp.of_below C2.out)) (HA.out.kp (Kp.of_below C2.out)) (HS2.out.kp (Kp.of_below C2.out)) (HA2.out.kp (Kp.of_below C2.out))).mono ?_
  rintro e w3 ⟨rfl, hb3⟩
  have C3 := hid (below_step C2.out hb3)
  clear hb3 x0 x1 y0 y1
  cases sameB s a t b with
  | true =>
    go_wp2
    go_ret
    exact ⟨rfl, C3.out⟩
  | false =>
    go_wp2
    go_ret
    exact ⟨rfl, C3.out⟩

end Go.Proofs.YtcijfaijjpkdoacDoor
