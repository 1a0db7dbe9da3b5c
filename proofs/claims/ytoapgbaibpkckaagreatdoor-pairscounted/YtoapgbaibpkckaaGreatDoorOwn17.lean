/- PairsCounted: its walk. -/
import Derived.Test.YtoapgbaibpkckaaGreatDoorOwn16
import Derived.Test.YtoapgbaibpkckaaGreatDoorOwn6
namespace Go.Proofs.YtoapgbaibpkckaaGreatDoor
open Go.RowKit Go.Maps Go.BigFrame

theorem pairsK_pre {sig : List Sy} {D : List Int} {r : Rl} {k n : Nat} (h : k ≤ n) : ∃ X, pairsK sig D r n = pairsK sig D r k ++ X := by
  obtain ⟨d, rfl⟩ : ∃ d, n = k + d := ⟨n - k, by omega⟩
  unfold pairsK
  rw [List.range_add, List.filter_append, List.map_append]
  exact ⟨_, rfl⟩

theorem pairsL_get {sig : List Sy} {D : List Int} {rs : List Rl} {i k : Nat} {r : Rl} {c : Int} (hi : rs[i]? = some r) (hc : r.2[k]? = some c) (hD : c ∈ D) :
    (pairsL sig D rs)[(pairsL sig D (rs.take i)).length + (pairsK sig D r k).length]? = some (mkL sig r.1, mkL sig ((r.2.drop k).take (fstN sig (r.2.drop k)))) := by
  have hkl := (List.getElem?_eq_some_iff.1 hc).1
  obtain ⟨X, hX⟩ := pairsK_pre (sig := sig) (D := D) (r := r) (show k + 1 ≤ r.2.length by omega)
  have e2 : pairsL sig D rs = pairsL sig D (rs.take (i + 1)) ++ pairsL sig D (rs.drop (i + 1)) := by
    unfold pairsL
    rw [← List.flatMap_append, List.take_append_drop]
  rw [e2, (pairsL_at hi).1, hX, pairsK_yes hc hD]
  simp

theorem pairs_many {sig : List Sy} {D : List Int} : ∀ {rs : List Rl}, (∀ r ∈ rs, r.2.length ≤ 512) → (pairsL sig D rs).length ≤ rs.length * 512
  | [], _ => by simp [pairsL]
  | r :: rs, h => by
    have ih := pairs_many (sig := sig) (D := D) (rs := rs) (fun x hx => h x (List.mem_cons_of_mem _ hx))
    have h1 := h r List.mem_cons_self
    have e : pairsL sig D (r :: rs) = pairsK sig D r r.2.length ++ pairsL sig D rs := by unfold pairsL; rw [List.flatMap_cons]
    have h2 : (pairsK sig D r r.2.length).length ≤ r.2.length := by
      unfold pairsK
      rw [List.length_map]
      have := List.length_filter_le (fun x => decide ((r.2[x]?).getD (-1) ∈ D)) (List.range r.2.length)
      rw [List.length_range] at this
      exact this
    rw [e, List.length_append, List.length_cons]
    omega

/-- What is told of a right system. -/
theorem of_right13 {sig : List Sy} {rs : List Rl} (h : sysB sig rs = true) : ofE13 sig rs = (if 256 < (pairsL sig (definedL sig rs) rs).length then 2 else 0) ∧ ofL13 sig rs = if 256 < (pairsL sig (definedL sig rs) rs).length then [] else pairsL sig (definedL sig rs) rs := by
  have h0 : (sysE sig rs).1 = 0 := by
    unfold sysB at h
    simpa using h
  have e : ofE13 sig rs = (if 256 < (pairsL sig (definedL sig rs) rs).length then 2 else 0) := by unfold ofE13; rw [if_pos h0]
  refine ⟨e, ?_⟩
  unfold ofL13
  rw [e]
  by_cases h2 : 256 < (pairsL sig (definedL sig rs) rs).length
  · rw [if_pos h2, if_pos h2, if_neg (by decide)]
  · rw [if_neg h2, if_neg h2, if_pos rfl]

theorem if_some13 {c : Prop} [Decidable c] (g o p : Nat) : (if c then some (⟨g, o, none⟩ : Addr) else some ⟨g, p, none⟩) = some ⟨g, if c then o else p, none⟩ := by split <;> rfl

theorem mkL_tail (sig : List Sy) (t : List Int) : (mkL sig t).drop 1 = t.drop 1 := by cases t <;> rfl

theorem mkL_len (sig : List Sy) (t : List Int) : (mkL sig t).length = t.length := by cases t <;> rfl

theorem mkL_head {sig : List Sy} {t : List Int} {c : Int} (h : t[0]? = some c) : (mkL sig t)[0]? = some (c + (sig.length : Int)) := by
  cases t with
  | nil => simp at h
  | cons x t =>
    simp only [List.getElem?_cons_zero, Option.some.injEq] at h
    subst h
    rfl

set_option maxRecDepth 100000 in
set_option maxHeartbeats 6400000 in
theorem pairsCounted_any (sv rv : Value) (sig : List Sy) (rs : List Rl) (w : World) (hs : Sg w sv sig) (hr : RU w rv rs) (hT : Tabs w) :
    Calls Tryz.prog 8 #[.agg #[sv, rv]] w fun e w' => e = .returned (.bool true) ∧ Below w.heap.size w w' := by
  obtain ⟨so, sc, rfl, hso, hsc, _⟩ := Row.flat hs
  obtain ⟨ro, rc, rfl, hro, hrc, _⟩ := Row.flat hr
  unfold maxLen at hrc
  have HS := hid hs
  have HR := hid hr
  have HT := hid hT
  clear hs hr hT
  obtain ⟨w0, hw0⟩ : ∃ X, X = w.alloc (.cells #[.slice so sig.length sc, .slice ro rs.length rc] 32) := ⟨_, rfl⟩
  have C0 : Hid (Below w.heap.size w w0) := by rw [hw0]; exact below_alloc _
  have HC : Hid (∀ W, Below w0.heap.size w0 W → W.cell? ⟨w.heap.size, 0, none⟩ = some (.slice so sig.length sc) ∧ W.cell? ⟨w.heap.size, 1, none⟩ = some (.slice ro rs.length rc)) := fun W hW => by
    have hk := Kp.of_below hW
    rw [hw0] at hk
    exact ⟨hk.cell _ _ (cell_new rfl), hk.cell _ _ (cell_new rfl)⟩
  obtain ⟨S, hS⟩ : ∃ S, S = sysB sig rs := ⟨_, rfl⟩
  have HRi := hid fun (W : World) (hW : Below w.heap.size w W) => refRight_any _ _ sig rs W (HS.out.kp (Kp.of_below hW)) (HR.out.kp (Kp.of_below hW))
  have HDe := hid fun (W : World) (hW : Below w.heap.size w W) => refDefined_any _ _ sig rs W (HS.out.kp (Kp.of_below hW)) (HR.out.kp (Kp.of_below hW))
  have HOf := hid fun (W : World) (hW : Below w.heap.size w W) => of13_any _ _ sig rs W (HS.out.kp (Kp.of_below hW)) (HR.out.kp (Kp.of_below hW)) (HT.out.below hW)
  rw [← hS] at HRi
  have HSe := hid hS
  clear hS
  go_enter Tryz.func8, Tryz.ntmps8
  go_upto_region 1 with fail
  rw [← hw0]
  clear hw0
  go_wp2_with fail
  refine (shown13_any w0 (HT.out.below C0.out)).mono ?_
  rintro e w1 ⟨rfl, hb1⟩
  have B1 := hid (below_step C0.out hb1)
  have D1 := hid hb1
  obtain ⟨x0, x1⟩ := HC.out w1 hb1
  clear hb1
  go_wp2_with fail
  refine (HRi.out w1 B1.out).mono ?_
  rintro e w2 ⟨rfl, hb2⟩
  have B2 := hid (below_step B1.out hb2)
  have D2 := hid (below_step D1.out hb2)
  clear hb2 x0 x1 HRi
  cases S
  · go_wp2
    go_ret
    exact ⟨rfl, B2.out⟩
  · obtain ⟨hE, hL⟩ := of_right13 HSe.out.symm
    have hrs := sys_right HSe.out.symm
    have HRt : Hid (∀ r ∈ rs, termE sig r.1 = 0 ∧ termE sig r.2 = 0 ∧ r.1.length ≤ 512 ∧ r.2.length ≤ 512) := fun r hr => by
      have h9 := rule_parts (hrs.2 r hr)
      exact ⟨h9.1, h9.2.1, h9.2.2.1, h9.2.2.2.1⟩
    have hrn : rs.length ≤ 1048576 := by
      have h9 := hrs.1
      by_cases h8 : 64 < rs.length
      · exfalso
        unfold aheadE at h9
        split at h9
        · split at h9
          · cases h9
          · split at h9
            · cases h9
            · cases h9
        · rename_i h7
          exact h7 h9
      · omega
    rw [hE, hL] at HOf
    obtain ⟨D, hD⟩ : ∃ D, D = definedL sig rs := ⟨_, rfl⟩
    rw [← hD] at HDe HOf
    obtain ⟨P, hP⟩ : ∃ P, P = pairsL sig D rs := ⟨_, rfl⟩
    rw [← hP] at HOf
    have hPn : P.length ≤ 1073741824 := by
      have h9 := pairs_many (sig := sig) (D := D) (rs := rs) (fun r hr => (HRt.out r hr).2.2.2)
      rw [hP]
      omega
    obtain ⟨L, hLe⟩ : ∃ L, L = if 256 < P.length then [] else P := ⟨_, rfl⟩
    obtain ⟨E, hEe⟩ : ∃ E : Int, E = if 256 < P.length then 2 else 0 := ⟨_, rfl⟩
    rw [← hLe, ← hEe] at HOf
    have HL := hid hLe
    have HE := hid hEe
    have HP := hid hP
    clear hE hL hrs hD hLe hEe hP
    obtain ⟨x0, x1⟩ := HC.out w2 D2.out
    go_wp2_with fail
    refine (HDe.out w2 B2.out).mono ?_
    rintro e w3 ⟨dv, rfl, hdi, hb3⟩
    have B3 := hid (below_step B2.out hb3)
    have D3 := hid (below_step D2.out hb3)
    obtain ⟨do_, dc, rfl, _, hdc, _⟩ := Row.flat hdi
    unfold maxLen at hdc
    have HDi := hid hdi
    clear hb3 hdi x0 x1 HDe
    obtain ⟨x0, x1⟩ := HC.out w3 D3.out
    go_wp2_with fail
    refine (HOf.out w3 B3.out).mono ?_
    rintro e w4 ⟨va, vsa, rfl, oa⟩
    have B4 := hid (below_step B3.out oa.bel)
    have D4 := hid (below_step D3.out oa.bel)
    have HDi4 := hid (HDi.out.kp (Kp.of_below oa.bel))
    obtain ⟨ao, ac, rfl, hla, hma⟩ := oa.shape
    unfold maxLen at hma
    have HFew : Hid (∀ r ∈ L, r.1.length ≤ 1048576 ∧ r.2.length ≤ 1048576) := fun r hr => by
      have h9 := HL.out
      by_cases h2 : 256 < P.length
      · rw [if_pos h2] at h9
        rw [h9] at hr
        cases hr
      · rw [if_neg h2] at h9
        rw [h9, HP.out] at hr
        have h8 := pairs_few (fun r hr => ⟨(HRt.out r hr).2.2.1, (HRt.out r hr).2.2.2⟩) r hr
        omega
    have HA := hid (oa.ru HFew.out)
    clear oa x0 x1 HOf HDi
    go_wp2
    go_loopw [8, 9] (fun nv iv wr => ∃ i : Nat, i ≤ rs.length ∧ nv = .int .i64 ((pairsL sig D (rs.take i)).length : Int) ∧ iv = .int .i64 i ∧ Below w4.heap.size w4 wr) (fun _ iv _ => rs.length - (intOf iv).toNat)
    case atStart => exact ⟨0, Nat.zero_le _, rfl, rfl, Below.refl _ _⟩
    case round =>
      obtain ⟨i, hi, rfl, rfl, hbl⟩ := hrel
      have HB := hid hbl
      have DR := hid (below_step D4.out hbl)
      have BR := hid (below_step B4.out hbl)
      obtain ⟨x0, x1⟩ := HC.out wr DR.out
      clear hbl
      by_cases hil : i < rs.length
      · obtain ⟨gr, orr, l, r, a1, c1, a2, c2, rfl, hm, hc0, hc1, hi1, hi2, _, _⟩ := HR.out.at hil
        obtain ⟨ht1, ht2, hl1, hl2⟩ := HRt.out _ (List.mem_of_getElem? hm)
        simp only at ht1 ht2 hl1 hl2
        have HM := hid hm
        have HC0 := hid hc0
        have HC1 := hid hc1
        have HI1 := hid hi1
        have HI2 := hid hi2
        have HTm := hid ht2
        have HTl := hid ht1
        have y1 := (Kp.of_below BR.out).cell _ _ hc1
        obtain ⟨A, hA⟩ : ∃ A, A = (pairsL sig D (rs.take i)).length := ⟨_, rfl⟩
        have HAe := hid hA
        obtain ⟨_, hAk⟩ := pairsL_at (sig := sig) (D := D) hm
        rw [← hA, ← HP.out] at hAk
        simp only at hAk
        rw [← hA]
        have HAk := hid hAk
        have hrc2 : r.length ≤ c2 ∧ c2 ≤ 9223372036854775807 := by
          obtain ⟨_, _, e9, h9, h8, _⟩ := hi2
          unfold maxLen at h8
          simp only [Value.slice.injEq, true_and] at e9
          obtain ⟨_, rfl⟩ := e9
          omega
        clear hm hc0 hc1 hi1 hi2 ht1 ht2 hA hAk
        go_wp2
        go_loopw [8, 11] (fun nv kv wz => ∃ k : Nat, k ≤ r.length ∧ nv = .int .i64 ((A + (pairsK sig D (l, r) k).length : Nat) : Int) ∧ kv = .int .i64 k ∧ Below w4.heap.size w4 wz) (fun _ kv _ => r.length - (intOf kv).toNat)
        case atStart => exact ⟨0, Nat.zero_le _, by simp [pairsK], rfl, HB.out⟩
        case round =>
          clear HB DR BR x0 x1 y1
          obtain ⟨k, hk, rfl, rfl, hbl⟩ := hrel
          have HB := hid hbl
          have DR := hid (below_step D4.out hbl)
          have BR := hid (below_step B4.out hbl)
          clear hbl
          obtain ⟨N, hN⟩ : ∃ N, N = A + (pairsK sig D (l, r) k).length := ⟨_, rfl⟩
          rw [← hN]
          have HN := hid hN
          have hNl : N ≤ P.length := by
            have h9 := pairsK_mono (sig := sig) (D := D) (r := (l, r)) hk
            have h8 := HAk.out
            omega
          clear hN
          by_cases hkl : k < r.length
          · obtain ⟨g2, o2, c, rfl, hc, hcx, _, _⟩ := (HI2.out.kp (Kp.of_below BR.out)).at hkl
            have HCc := hid hc
            clear hc
            go_wp2
            go_loopw [12, 13] (fun bv jv wz => ∃ j : Nat, j ≤ D.length ∧ bv = .bool (decide (c ∈ D.take j)) ∧ jv = .int .i64 j ∧ Below w4.heap.size w4 wz) (fun _ jv _ => D.length - (intOf jv).toNat)
            case atStart => exact ⟨0, Nat.zero_le _, by simp, rfl, HB.out⟩
            case round =>
              clear HB DR BR hcx
              obtain ⟨j, hj, rfl, rfl, hbl⟩ := hrel
              have HB := hid hbl
              have DR := hid (below_step D4.out hbl)
              have BR := hid (below_step B4.out hbl)
              clear hbl
              obtain ⟨_, _, c', e9, hc', hcx, _, _⟩ := (HI2.out.kp (Kp.of_below BR.out)).at hkl
              cases e9
              have hcc' : c' = c := by rw [HCc.out] at hc'; exact (Option.some.inj hc').symm
              subst hcc'
              clear hc'
              obtain ⟨B, hB⟩ : ∃ B, B = decide (c' ∈ D.take j) := ⟨_, rfl⟩
              rw [← hB]
              have HBe := hid hB
              clear hB
              by_cases hjl : j < D.length
              · obtain ⟨gd, od, dd, rfl, hd, hdx, _, _⟩ := (HDi4.out.kp (Kp.of_below HB.out)).at hjl
                have HTk : Hid (decide (c' ∈ D.take (j + 1)) = (B || decide (dd = c'))) := by
                  show _ = _
                  rw [HBe.out, take_get hd]
                  simp [List.mem_append, eq_comm]
                have hjd : decide ((j : Int) < (D.length : Int)) = true := by simpa using hjl
                clear hd
                cases B
                · obtain ⟨Q, hQ⟩ : ∃ Q, Q = decide (dd = c') := ⟨_, rfl⟩
                  have hQ2 : (dd == c') = Q := by rw [hQ]; rfl
                  have HQ := hid hQ
                  clear hQ
                  go_upto_region 19 with fail
                  refine region_below (by kernel_rfl) (by kernel_rfl) ?_
                  -- Q:no
                  (go_big_quiet_want; go_big_quiet_op; go_big_quiet_on)
                  (go_big_quiet_want; go_big_quiet_op; go_big_quiet_on)
                  (go_big_quiet_want; go_big_quiet_op; go_big_quiet_on)
                  (go_big_quiet_want; go_big_quiet_op; go_big_quiet_on)
                  go_big_quiet_want
                  refine ⟨.pointer (some ⟨gd, od + j, none⟩), fun w' hw' => ?_, ?_⟩
                  · unfold Oper.quietAt; go_simp
                  simp only [Act.put, List.setIfInBounds_toArray, List.set_cons_zero, List.set_cons_succ]
                  go_big_quiet_on
                  go_big_quiet_want
                  refine ⟨.int .i64 dd, fun w' hw' => ?_, ?_⟩
                  · have hh0 := (Kp.of_below hw').cell _ _ hdx; unfold Oper.quietAt; go_simp
                  simp only [Act.put, List.setIfInBounds_toArray, List.set_cons_zero, List.set_cons_succ]
                  go_big_quiet_on
                  (go_big_quiet_want; go_big_quiet_op; go_big_quiet_on)
                  (go_big_quiet_want; go_big_quiet_op; go_big_quiet_on)
                  go_big_quiet_want
                  refine ⟨.pointer (some ⟨g2, o2 + k, none⟩), fun w' hw' => ?_, ?_⟩
                  · unfold Oper.quietAt; go_simp
                  simp only [Act.put, List.setIfInBounds_toArray, List.set_cons_zero, List.set_cons_succ]
                  go_big_quiet_on
                  go_big_quiet_want
                  refine ⟨.int .i64 c', fun w' hw' => ?_, ?_⟩
                  · have hh0 := (Kp.of_below hw').cell _ _ hcx; unfold Oper.quietAt; go_simp
                  simp only [Act.put, List.setIfInBounds_toArray, List.set_cons_zero, List.set_cons_succ]
                  go_big_quiet_on
                  go_big_quiet_want
                  refine ⟨.bool Q, fun w' hw' => ?_, ?_⟩
                  · unfold Oper.quietAt; go_simp
                  simp only [Act.put, List.setIfInBounds_toArray, List.set_cons_zero, List.set_cons_succ]
                  go_big_quiet_on
                  go_big_quiet_want
                  refine ⟨.bool Q, fun w' hw' => ?_, ?_⟩
                  · unfold Oper.quietAt; go_simp
                  simp only [Act.put, List.setIfInBounds_toArray, List.set_cons_zero, List.set_cons_succ]
                  go_big_quiet_on
                  (go_big_quiet_want; go_big_quiet_op; go_big_quiet_on)
                  refine wpQuiet_nil ?_
                  -- E:no
                  intro w9 hb9
                  have HB9 := hid (below_step HB.out hb9)
                  clear hb9 hcx hdx hQ2
                  go_wp2
                  go_roundw
                  case rel => exact ⟨j + 1, by omega, by rw [HTk.out, ← HQ.out]; rfl, by go_num, HB9.out⟩
                  case measure => simp only [intOf]; omega
                · go_upto_region 19 with fail
                  refine region_below (by kernel_rfl) (by kernel_rfl) ?_
                  -- Q:yes
                  (go_big_quiet_want; go_big_quiet_op; go_big_quiet_on)
                  (go_big_quiet_want; go_big_quiet_op; go_big_quiet_on)
                  go_big_quiet_skip
                  go_big_quiet_skip
                  go_big_quiet_skip
                  go_big_quiet_skip
                  go_big_quiet_skip
                  go_big_quiet_skip
                  go_big_quiet_skip
                  go_big_quiet_skip
                  go_big_quiet_skip
                  go_big_quiet_want
                  refine ⟨.bool true, fun w' hw' => ?_, ?_⟩
                  · unfold Oper.quietAt; go_simp
                  simp only [Act.put, List.setIfInBounds_toArray, List.set_cons_zero, List.set_cons_succ]
                  go_big_quiet_on
                  (go_big_quiet_want; go_big_quiet_op; go_big_quiet_on)
                  refine wpQuiet_nil ?_
                  -- E:yes
                  intro w9 hb9
                  have HB9 := hid (below_step HB.out hb9)
                  clear hb9 hcx hdx
                  go_wp2
                  go_roundw
                  case rel => exact ⟨j + 1, by omega, by rw [HTk.out]; rfl, by go_num, HB9.out⟩
                  case measure => simp only [intOf]; omega
              · have hje : j = D.length := by omega
                have hjd : decide ((j : Int) < (D.length : Int)) = false := by simpa using hjl
                have HBf : Hid (B = decide (c' ∈ D)) := by show _ = _; rw [HBe.out, hje, List.take_length]
                clear hje
                cases B
                · have HNe : Hid (A + (pairsK sig D (l, r) (k + 1)).length = N) := by
                    show _ = _
                    rw [pairsK_no (r := (l, r)) HCc.out (by have := HBf.out; simpa using this.symm), HN.out]
                  go_wp2
                  go_roundw
                  case rel => exact ⟨k + 1, by omega, by rw [HNe.out], by go_num, HB.out⟩
                  case measure => simp only [intOf]; omega
                · have hcD : c' ∈ D := by have := HBf.out; simpa using this.symm
                  have HNe : Hid (A + (pairsK sig D (l, r) (k + 1)).length = N + 1) := by
                    show _ = _
                    rw [pairsK_yes (r := (l, r)) HCc.out hcD, List.length_append, List.length_singleton, HN.out]
                    omega
                  have HPn := hid (pairsL_get (sig := sig) (D := D) HM.out HCc.out hcD)
                  have hwN : IntKind.i64.wrap ((N : Int) + 1) = ((N + 1 : Nat) : Int) := by rw [IntWalk.i64_in _ ⟨by omega, by omega⟩]; omega
                  by_cases hnl : N < L.length
                  · have hdn : decide ((N : Int) < (L.length : Int)) = true := by simpa using hnl
                    have hLP : L = P := by
                      rw [HL.out]
                      split
                      · rename_i h9
                        have h8 := HL.out
                        rw [if_pos h9] at h8
                        rw [h8] at hnl
                        simp at hnl
                      · rfl
                    obtain ⟨q, hq1, hq2⟩ := part_here HTm.out hkl
                    obtain ⟨u, hu⟩ : ∃ X, X = (r.drop k).take (fstN sig (r.drop k)) := ⟨_, rfl⟩
                    have hPn2 := HPn.out
                    rw [← HAe.out, ← HN.out, ← HP.out, ← hLP] at hPn2
                    simp only at hPn2
                    rw [← hu] at hPn2 hq1 hq2
                    have hup := row_posS hq2
                    have htk : (r.take k).length = k := by rw [List.length_take]; omega
                    have hdr : r.drop k = u ++ q := by have h9 := congrArg (List.drop k) hq1; rw [List.drop_left' htk] at h9; exact h9
                    have hul : k + u.length ≤ r.length := by have h9 := congrArg List.length hdr; rw [List.length_drop, List.length_append] at h9; omega
                    have hlp := row_posS (term_parts HTl.out).2
                    obtain ⟨g, off, T, U, b1, d1, b2, d2, rfl, hTU, y0, y1, j1, j2, _, _⟩ := (HA.out.kp (Kp.of_below HB.out)).at hnl
                    rw [hPn2] at hTU
                    simp only [Option.some.injEq, Prod.mk.injEq] at hTU
                    obtain ⟨rfl, rfl⟩ := hTU
                    rw [mkL_len] at y0 y1
                    obtain ⟨c0, hc0'⟩ : ∃ c0, l[0]? = some c0 := ⟨_, List.getElem?_eq_getElem hlp⟩
                    have hu0 : u[0]? = some c' := by
                      have h9 := congrArg (fun x => x[0]?) hdr
                      simp only [List.getElem?_drop, Nat.add_zero, List.getElem?_append_left hup] at h9
                      rw [← h9]
                      exact HCc.out
                    obtain ⟨g1, o1, z0, rfl, hz0, w1c, _, _⟩ := j1.at (k := 0) (by rw [mkL_len]; exact hlp)
                    rw [mkL_head hc0', Option.some.injEq] at hz0
                    subst hz0
                    obtain ⟨g3, o3, z3, rfl, hz3, w3c, _, _⟩ := j2.at (k := 0) (by rw [mkL_len]; exact hup)
                    rw [mkL_head hu0, Option.some.injEq] at hz3
                    subst hz3
                    obtain ⟨g4, o4, z4, rfl, hz4, w4c, hz41, hz42⟩ := (HI1.out.kp (Kp.of_below BR.out)).at (k := 0) hlp
                    rw [hc0', Option.some.injEq] at hz4
                    subst hz4
                    rw [Nat.add_zero] at w1c w3c w4c
                    have e0 := (Kp.of_below BR.out).cell _ _ HC0.out
                    have e1 := (Kp.of_below BR.out).cell _ _ HC1.out
                    obtain ⟨x0, x1⟩ := HC.out wr DR.out
                    have k1 : Is wr (.slice (if d1 = 1 then some ⟨g1, o1, none⟩ else some ⟨g1, o1 + 1, none⟩) (l.length - 1) (d1 - 1)) (l.drop 1) := by
                      have h9 := j1.tail (k := 1) (by rw [mkL_len]; exact hlp)
                      rw [mkL_len, mkL_tail] at h9
                      rw [if_some13]
                      exact h9
                    have k2 : Is wr (.slice (if c1 = 1 then some ⟨g4, o4, none⟩ else some ⟨g4, o4 + 1, none⟩) (l.length - 1) (c1 - 1)) (l.drop 1) := by
                      rw [if_some13]
                      exact (HI1.out.kp (Kp.of_below BR.out)).tail (k := 1) hlp
                    have k3 : Is wr (.slice (if d2 = 1 then some ⟨g3, o3, none⟩ else some ⟨g3, o3 + 1, none⟩) (u.length - 1) (d2 - 1)) (u.drop 1) := by
                      have h9 := j2.tail (k := 1) (by rw [mkL_len]; exact hup)
                      rw [mkL_len, mkL_tail] at h9
                      rw [if_some13]
                      exact h9
                    have hud : u.drop 1 = (r.drop (k + 1)).take (u.length - 1) := by
                      have h9 : r.drop (k + 1) = (u ++ q).drop 1 := by rw [← hdr, List.drop_drop]
                      rw [h9, List.drop_append_of_le_length (by omega), List.take_append_of_le_length (by rw [List.length_drop]; exact Nat.le_refl _), List.take_of_length_le (by rw [List.length_drop]; exact Nat.le_refl _)]
                    have k4 : Is wr (.slice (if c2 = k + 1 then some ⟨g2, o2, none⟩ else some ⟨g2, o2 + (k + 1), none⟩) (u.length - 1) (c2 - (k + 1))) (u.drop 1) := by
                      by_cases hk1 : k + 1 < r.length
                      · have h9 := (HI2.out.kp (Kp.of_below BR.out)).mid (k := k + 1) (m := u.length - 1) hk1 (by omega)
                        rw [← hud] at h9
                        rw [if_neg (by have := hrc2.1; omega)]
                        exact h9
                      · have h8 : u.length - 1 = 0 := by omega
                        have h7 : u.drop 1 = [] := List.drop_of_length_le (by omega)
                        rw [h8, h7]
                        exact Row.nil (by unfold maxLen; have := hrc2.2; omega)
                    have HS1 : Hid (∀ W, Below wr.heap.size wr W → Calls Tryz.prog 19 #[.slice (if d1 = 1 then some ⟨g1, o1, none⟩ else some ⟨g1, o1 + 1, none⟩) (l.length - 1) (d1 - 1), .slice (if c1 = 1 then some ⟨g4, o4, none⟩ else some ⟨g4, o4 + 1, none⟩) (l.length - 1) (c1 - 1)] W fun e w' => e = .returned (.bool true) ∧ Below wr.heap.size wr w') := fun W hW => by
                      have h9 := sameRow13_any _ _ _ _ W (k1.kp (Kp.of_below hW)) (k2.kp (Kp.of_below hW))
                      rw [decide_eq_true rfl] at h9
                      exact h9.mono fun e w2 ⟨he, n, hn⟩ => ⟨he, below_step hW (drawn_below hn)⟩
                    have HS2 : Hid (∀ V, Below wr.heap.size wr V → ∀ W, Below V.heap.size V W → Calls Tryz.prog 19 #[.slice (if d2 = 1 then some ⟨g3, o3, none⟩ else some ⟨g3, o3 + 1, none⟩) (u.length - 1) (d2 - 1), .slice (if c2 = k + 1 then some ⟨g2, o2, none⟩ else some ⟨g2, o2 + (k + 1), none⟩) (u.length - 1) (c2 - (k + 1))] W fun e w' => e = .returned (.bool true) ∧ Below V.heap.size V w') := fun V hV W hW => by
                      have h9 := sameRow13_any _ _ _ _ W (k3.kp (Kp.of_below (below_step hV hW))) (k4.kp (Kp.of_below (below_step hV hW)))
                      rw [decide_eq_true rfl] at h9
                      exact h9.mono fun e w2 ⟨he, n, hn⟩ => ⟨he, below_step hW (drawn_below hn)⟩
                    have hld1 : l.length ≤ d1 ∧ l.length ≤ c1 ∧ u.length ≤ d2 := by
                      obtain ⟨_, _, f1, f2, _⟩ := j1
                      obtain ⟨_, _, f3, f4, _⟩ := j2
                      obtain ⟨_, _, f5, f6, _⟩ := HI1.out
                      simp only [Value.slice.injEq] at f1 f3 f5
                      rw [mkL_len] at f2 f4
                      omega
                    have X0 := hid x0
                    have X1 := hid x1
                    have Y0 := hid y0
                    have Y1 := hid y1
                    have E0 := hid e0
                    have E1 := hid e1
                    have W1c := hid w1c
                    have W3c := hid w3c
                    have W4c := hid w4c
                    have HCx := hid hcx
                    have hlz : ((l.length : Int) == 0) = false := by rw [beq_eq_false_iff_ne]; omega
                    have hlz2 : (l.length == 0) = false := by rw [beq_eq_false_iff_ne]; omega
                    have hsig : sig.length ≤ 1048576 := by
                      have h9 := (ahead_parts (sys_right HSe.out.symm).1).2.1
                      omega
                    have hwc0 : IntKind.i64.wrap (c0 + (sig.length : Int)) = c0 + (sig.length : Int) := by
                      have h9 := code_small (sig_arOk13 (term_parts HTl.out).1) (term_parts HTl.out).2 c0 (List.mem_of_getElem? hc0')
                      exact IntWalk.i64_in _ ⟨by omega, by omega⟩
                    have hwck : IntKind.i64.wrap (c' + (sig.length : Int)) = c' + (sig.length : Int) := by
                      have h9 := code_small (sig_arOk13 (term_parts HTm.out).1) (term_parts HTm.out).2 c' (List.mem_of_getElem? HCc.out)
                      have h8 := codes_of (term_parts HTm.out).2 (List.mem_of_getElem? HCc.out)
                      exact IntWalk.i64_in _ ⟨by omega, by omega⟩
                    have hwrk : IntKind.i64.wrap ((r.length : Int) - (k : Int)) = (r.length : Int) - (k : Int) := IntWalk.i64_in _ ⟨by omega, by omega⟩
                    have hwk1 : IntKind.i64.wrap ((k : Int) + 1) = ((k + 1 : Nat) : Int) := by rw [IntWalk.i64_in _ ⟨by omega, by omega⟩]; omega
                    have hwku : IntKind.i64.wrap ((k : Int) + (u.length : Int)) = ((k + u.length : Nat) : Int) := by rw [IntWalk.i64_in _ ⟨by omega, by omega⟩]; omega
                    have huz : ((u.length : Int) == 0) = false := by rw [beq_eq_false_iff_ne]; omega
                    have hug : decide ((r.length : Int) - (k : Int) < (u.length : Int)) = false := by rw [decide_eq_false_iff_not]; omega
                    clear x0 x1 y0 y1 e0 e1 w1c w3c w4c hcx k1 k2 k3 k4 j1 j2 hPn2 hq1 hq2 hu hdr hud htk hc0' hu0 hLP HPn
                    -- W:rest
                    have y0 := Y0.out
                    go_upto_region 24 with fail
                    clear y0
                    refine region_below (by kernel_rfl) (by kernel_rfl) ?_
                    -- Q:r24
                    (go_big_quiet_want; go_big_quiet_op; go_big_quiet_on)
                    (go_big_quiet_want; go_big_quiet_op; go_big_quiet_on)
                    go_big_quiet_want
                    refine ⟨.pointer (some ⟨g, off + N * 2, none⟩), fun w' hw' => ?_, ?_⟩
                    · unfold Oper.quietAt; go_simp
                    simp only [Act.put, List.setIfInBounds_toArray, List.set_cons_zero, List.set_cons_succ]
                    go_big_quiet_on
                    go_big_quiet_want
                    refine ⟨.pointer (some ⟨g, off + N * 2, none⟩), fun w' hw' => ?_, ?_⟩
                    · unfold Oper.quietAt; go_simp
                    simp only [Act.put, List.setIfInBounds_toArray, List.set_cons_zero, List.set_cons_succ]
                    go_big_quiet_on
                    go_big_quiet_want
                    refine ⟨.slice (some ⟨g1, o1, none⟩) l.length d1, fun w' hw' => ?_, ?_⟩
                    · have hh0 := (Kp.of_below hw').cell _ _ Y0.out; unfold Oper.quietAt; go_simp
                    simp only [Act.put, List.setIfInBounds_toArray, List.set_cons_zero, List.set_cons_succ]
                    go_big_quiet_on
                    go_big_quiet_want
                    refine ⟨.slice (if d1 = 1 then some ⟨g1, o1, none⟩ else some ⟨g1, o1 + 1, none⟩) (l.length - 1) (d1 - 1), fun w' hw' => ?_, ?_⟩
                    · unfold Oper.quietAt; go_simp; rw [if_pos (by omega)]; exact ⟨rfl, rfl⟩
                    simp only [Act.put, List.setIfInBounds_toArray, List.set_cons_zero, List.set_cons_succ]
                    go_big_quiet_on
                    go_big_quiet_want
                    refine ⟨.pointer (some ⟨w.heap.size, 1, none⟩), fun w' hw' => ?_, ?_⟩
                    · unfold Oper.quietAt; go_simp
                    simp only [Act.put, List.setIfInBounds_toArray, List.set_cons_zero, List.set_cons_succ]
                    go_big_quiet_on
                    go_big_quiet_want
                    refine ⟨.slice (some ⟨gr, orr, none⟩) rs.length rc, fun w' hw' => ?_, ?_⟩
                    · have hh0 := (Kp.of_below hw').cell _ _ X1.out; unfold Oper.quietAt; go_simp
                    simp only [Act.put, List.setIfInBounds_toArray, List.set_cons_zero, List.set_cons_succ]
                    go_big_quiet_on
                    (go_big_quiet_want; go_big_quiet_op; go_big_quiet_on)
                    go_big_quiet_want
                    refine ⟨.pointer (some ⟨gr, orr + i * 2, none⟩), fun w' hw' => ?_, ?_⟩
                    · unfold Oper.quietAt; go_simp
                    simp only [Act.put, List.setIfInBounds_toArray, List.set_cons_zero, List.set_cons_succ]
                    go_big_quiet_on
                    go_big_quiet_want
                    refine ⟨.pointer (some ⟨gr, orr + i * 2, none⟩), fun w' hw' => ?_, ?_⟩
                    · unfold Oper.quietAt; go_simp
                    simp only [Act.put, List.setIfInBounds_toArray, List.set_cons_zero, List.set_cons_succ]
                    go_big_quiet_on
                    go_big_quiet_want
                    refine ⟨.slice (some ⟨g4, o4, none⟩) l.length c1, fun w' hw' => ?_, ?_⟩
                    · have hh0 := (Kp.of_below hw').cell _ _ E0.out; unfold Oper.quietAt; go_simp
                    simp only [Act.put, List.setIfInBounds_toArray, List.set_cons_zero, List.set_cons_succ]
                    go_big_quiet_on
                    go_big_quiet_want
                    refine ⟨.slice (if c1 = 1 then some ⟨g4, o4, none⟩ else some ⟨g4, o4 + 1, none⟩) (l.length - 1) (c1 - 1), fun w' hw' => ?_, ?_⟩
                    · unfold Oper.quietAt; go_simp; rw [if_pos (by omega)]; exact ⟨rfl, rfl⟩
                    simp only [Act.put, List.setIfInBounds_toArray, List.set_cons_zero, List.set_cons_succ]
                    go_big_quiet_on
                    go_big_quiet_want
                    refine ⟨.bool true, fun w' hw' => ?_, ?_⟩
                    · unfold Oper.quietAt; go_simp; exact HS1.out w' hw'
                    simp only [Act.put, List.setIfInBounds_toArray, List.set_cons_zero, List.set_cons_succ]
                    go_big_quiet_on
                    (go_big_quiet_want; go_big_quiet_op; go_big_quiet_on)
                    refine wpQuiet_nil ?_
                    -- E:r24
                    intro w5 hb5
                    have Q5 := hid hb5
                    clear hb5 HS1
                    have X0 := hid ((Kp.of_below Q5.out).cell _ _ X0.out)
                    have X1 := hid ((Kp.of_below Q5.out).cell _ _ X1.out)
                    have Y0 := hid ((Kp.of_below Q5.out).cell _ _ Y0.out)
                    have Y1 := hid ((Kp.of_below Q5.out).cell _ _ Y1.out)
                    have E0 := hid ((Kp.of_below Q5.out).cell _ _ E0.out)
                    have E1 := hid ((Kp.of_below Q5.out).cell _ _ E1.out)
                    have W1c := hid ((Kp.of_below Q5.out).cell _ _ W1c.out)
                    have W3c := hid ((Kp.of_below Q5.out).cell _ _ W3c.out)
                    have W4c := hid ((Kp.of_below Q5.out).cell _ _ W4c.out)
                    have HCx := hid ((Kp.of_below Q5.out).cell _ _ HCx.out)
                    go_upto_region 25 with fail
                    refine region_below (by kernel_rfl) (by kernel_rfl) ?_
                    -- Q:r25
                    (go_big_quiet_want; go_big_quiet_op; go_big_quiet_on)
                    go_big_quiet_want
                    refine ⟨.bool false, fun w' hw' => ?_, ?_⟩
                    · unfold Oper.quietAt; go_simp
                    simp only [Act.put, List.setIfInBounds_toArray, List.set_cons_zero, List.set_cons_succ]
                    go_big_quiet_on
                    (go_big_quiet_want; go_big_quiet_op; go_big_quiet_on)
                    (go_big_quiet_want; go_big_quiet_op; go_big_quiet_on)
                    (go_big_quiet_want; go_big_quiet_op; go_big_quiet_on)
                    go_big_quiet_want
                    refine ⟨.pointer (some ⟨g, off + N * 2, none⟩), fun w' hw' => ?_, ?_⟩
                    · unfold Oper.quietAt; go_simp
                    simp only [Act.put, List.setIfInBounds_toArray, List.set_cons_zero, List.set_cons_succ]
                    go_big_quiet_on
                    go_big_quiet_want
                    refine ⟨.pointer (some ⟨g, off + N * 2, none⟩), fun w' hw' => ?_, ?_⟩
                    · unfold Oper.quietAt; go_simp
                    simp only [Act.put, List.setIfInBounds_toArray, List.set_cons_zero, List.set_cons_succ]
                    go_big_quiet_on
                    go_big_quiet_want
                    refine ⟨.slice (some ⟨g1, o1, none⟩) l.length d1, fun w' hw' => ?_, ?_⟩
                    · have hh0 := (Kp.of_below hw').cell _ _ Y0.out; unfold Oper.quietAt; go_simp
                    simp only [Act.put, List.setIfInBounds_toArray, List.set_cons_zero, List.set_cons_succ]
                    go_big_quiet_on
                    go_big_quiet_want
                    refine ⟨.pointer (some ⟨g1, o1, none⟩), fun w' hw' => ?_, ?_⟩
                    · unfold Oper.quietAt; go_simp
                    simp only [Act.put, List.setIfInBounds_toArray, List.set_cons_zero, List.set_cons_succ]
                    go_big_quiet_on
                    go_big_quiet_want
                    refine ⟨.int .i64 (c0 + (sig.length : Int)), fun w' hw' => ?_, ?_⟩
                    · have hh0 := (Kp.of_below hw').cell _ _ W1c.out; unfold Oper.quietAt; go_simp
                    simp only [Act.put, List.setIfInBounds_toArray, List.set_cons_zero, List.set_cons_succ]
                    go_big_quiet_on
                    go_big_quiet_want
                    refine ⟨.pointer (some ⟨w.heap.size, 1, none⟩), fun w' hw' => ?_, ?_⟩
                    · unfold Oper.quietAt; go_simp
                    simp only [Act.put, List.setIfInBounds_toArray, List.set_cons_zero, List.set_cons_succ]
                    go_big_quiet_on
                    go_big_quiet_want
                    refine ⟨.slice (some ⟨gr, orr, none⟩) rs.length rc, fun w' hw' => ?_, ?_⟩
                    · have hh0 := (Kp.of_below hw').cell _ _ X1.out; unfold Oper.quietAt; go_simp
                    simp only [Act.put, List.setIfInBounds_toArray, List.set_cons_zero, List.set_cons_succ]
                    go_big_quiet_on
                    (go_big_quiet_want; go_big_quiet_op; go_big_quiet_on)
                    go_big_quiet_want
                    refine ⟨.pointer (some ⟨gr, orr + i * 2, none⟩), fun w' hw' => ?_, ?_⟩
                    · unfold Oper.quietAt; go_simp
                    simp only [Act.put, List.setIfInBounds_toArray, List.set_cons_zero, List.set_cons_succ]
                    go_big_quiet_on
                    go_big_quiet_want
                    refine ⟨.pointer (some ⟨gr, orr + i * 2, none⟩), fun w' hw' => ?_, ?_⟩
                    · unfold Oper.quietAt; go_simp
                    simp only [Act.put, List.setIfInBounds_toArray, List.set_cons_zero, List.set_cons_succ]
                    go_big_quiet_on
                    go_big_quiet_want
                    refine ⟨.slice (some ⟨g4, o4, none⟩) l.length c1, fun w' hw' => ?_, ?_⟩
                    · have hh0 := (Kp.of_below hw').cell _ _ E0.out; unfold Oper.quietAt; go_simp
                    simp only [Act.put, List.setIfInBounds_toArray, List.set_cons_zero, List.set_cons_succ]
                    go_big_quiet_on
                    go_big_quiet_want
                    refine ⟨.pointer (some ⟨g4, o4, none⟩), fun w' hw' => ?_, ?_⟩
                    · unfold Oper.quietAt; go_simp
                    simp only [Act.put, List.setIfInBounds_toArray, List.set_cons_zero, List.set_cons_succ]
                    go_big_quiet_on
                    go_big_quiet_want
                    refine ⟨.int .i64 c0, fun w' hw' => ?_, ?_⟩
                    · have hh0 := (Kp.of_below hw').cell _ _ W4c.out; unfold Oper.quietAt; go_simp
                    simp only [Act.put, List.setIfInBounds_toArray, List.set_cons_zero, List.set_cons_succ]
                    go_big_quiet_on
                    go_big_quiet_want
                    refine ⟨.pointer (some ⟨w.heap.size, 0, none⟩), fun w' hw' => ?_, ?_⟩
                    · unfold Oper.quietAt; go_simp
                    simp only [Act.put, List.setIfInBounds_toArray, List.set_cons_zero, List.set_cons_succ]
                    go_big_quiet_on
                    go_big_quiet_want
                    refine ⟨.slice so sig.length sc, fun w' hw' => ?_, ?_⟩
                    · have hh0 := (Kp.of_below hw').cell _ _ X0.out; unfold Oper.quietAt; go_simp
                    simp only [Act.put, List.setIfInBounds_toArray, List.set_cons_zero, List.set_cons_succ]
                    go_big_quiet_on
                    go_big_quiet_want
                    refine ⟨.int .i64 (sig.length : Int), fun w' hw' => ?_, ?_⟩
                    · unfold Oper.quietAt; go_simp
                    simp only [Act.put, List.setIfInBounds_toArray, List.set_cons_zero, List.set_cons_succ]
                    go_big_quiet_on
                    go_big_quiet_want
                    refine ⟨.int .i64 (c0 + (sig.length : Int)), fun w' hw' => ?_, ?_⟩
                    · unfold Oper.quietAt; go_simp
                    simp only [Act.put, List.setIfInBounds_toArray, List.set_cons_zero, List.set_cons_succ]
                    go_big_quiet_on
                    go_big_quiet_want
                    refine ⟨.bool false, fun w' hw' => ?_, ?_⟩
                    · unfold Oper.quietAt; go_simp
                    simp only [Act.put, List.setIfInBounds_toArray, List.set_cons_zero, List.set_cons_succ]
                    go_big_quiet_on
                    go_big_quiet_want
                    refine ⟨.bool false, fun w' hw' => ?_, ?_⟩
                    · unfold Oper.quietAt; go_simp
                    simp only [Act.put, List.setIfInBounds_toArray, List.set_cons_zero, List.set_cons_succ]
                    go_big_quiet_on
                    (go_big_quiet_want; go_big_quiet_op; go_big_quiet_on)
                    (go_big_quiet_want; go_big_quiet_op; go_big_quiet_on)
                    (go_big_quiet_want; go_big_quiet_op; go_big_quiet_on)
                    go_big_quiet_want
                    refine ⟨.pointer (some ⟨g, off + N * 2, none⟩), fun w' hw' => ?_, ?_⟩
                    · unfold Oper.quietAt; go_simp
                    simp only [Act.put, List.setIfInBounds_toArray, List.set_cons_zero, List.set_cons_succ]
                    go_big_quiet_on
                    go_big_quiet_want
                    refine ⟨.pointer (some ⟨g, off + N * 2 + 1, none⟩), fun w' hw' => ?_, ?_⟩
                    · unfold Oper.quietAt; go_simp
                    simp only [Act.put, List.setIfInBounds_toArray, List.set_cons_zero, List.set_cons_succ]
                    go_big_quiet_on
                    go_big_quiet_want
                    refine ⟨.slice (some ⟨g3, o3, none⟩) u.length d2, fun w' hw' => ?_, ?_⟩
                    · have hh0 := (Kp.of_below hw').cell _ _ Y1.out; unfold Oper.quietAt; go_simp
                    simp only [Act.put, List.setIfInBounds_toArray, List.set_cons_zero, List.set_cons_succ]
                    go_big_quiet_on
                    go_big_quiet_want
                    refine ⟨.int .i64 (u.length : Int), fun w' hw' => ?_, ?_⟩
                    · unfold Oper.quietAt; go_simp
                    simp only [Act.put, List.setIfInBounds_toArray, List.set_cons_zero, List.set_cons_succ]
                    go_big_quiet_on
                    go_big_quiet_want
                    refine ⟨.bool false, fun w' hw' => ?_, ?_⟩
                    · unfold Oper.quietAt; go_simp
                    simp only [Act.put, List.setIfInBounds_toArray, List.set_cons_zero, List.set_cons_succ]
                    go_big_quiet_on
                    go_big_quiet_want
                    refine ⟨.bool false, fun w' hw' => ?_, ?_⟩
                    · unfold Oper.quietAt; go_simp
                    simp only [Act.put, List.setIfInBounds_toArray, List.set_cons_zero, List.set_cons_succ]
                    go_big_quiet_on
                    (go_big_quiet_want; go_big_quiet_op; go_big_quiet_on)
                    (go_big_quiet_want; go_big_quiet_op; go_big_quiet_on)
                    (go_big_quiet_want; go_big_quiet_op; go_big_quiet_on)
                    go_big_quiet_want
                    refine ⟨.pointer (some ⟨g, off + N * 2, none⟩), fun w' hw' => ?_, ?_⟩
                    · unfold Oper.quietAt; go_simp
                    simp only [Act.put, List.setIfInBounds_toArray, List.set_cons_zero, List.set_cons_succ]
                    go_big_quiet_on
                    go_big_quiet_want
                    refine ⟨.pointer (some ⟨g, off + N * 2 + 1, none⟩), fun w' hw' => ?_, ?_⟩
                    · unfold Oper.quietAt; go_simp
                    simp only [Act.put, List.setIfInBounds_toArray, List.set_cons_zero, List.set_cons_succ]
                    go_big_quiet_on
                    go_big_quiet_want
                    refine ⟨.slice (some ⟨g3, o3, none⟩) u.length d2, fun w' hw' => ?_, ?_⟩
                    · have hh0 := (Kp.of_below hw').cell _ _ Y1.out; unfold Oper.quietAt; go_simp
                    simp only [Act.put, List.setIfInBounds_toArray, List.set_cons_zero, List.set_cons_succ]
                    go_big_quiet_on
                    go_big_quiet_want
                    refine ⟨.int .i64 (u.length : Int), fun w' hw' => ?_, ?_⟩
                    · unfold Oper.quietAt; go_simp
                    simp only [Act.put, List.setIfInBounds_toArray, List.set_cons_zero, List.set_cons_succ]
                    go_big_quiet_on
                    (go_big_quiet_want; go_big_quiet_op; go_big_quiet_on)
                    go_big_quiet_want
                    refine ⟨.int .i64 (r.length : Int), fun w' hw' => ?_, ?_⟩
                    · unfold Oper.quietAt; go_simp
                    simp only [Act.put, List.setIfInBounds_toArray, List.set_cons_zero, List.set_cons_succ]
                    go_big_quiet_on
                    (go_big_quiet_want; go_big_quiet_op; go_big_quiet_on)
                    go_big_quiet_want
                    refine ⟨.int .i64 ((r.length : Int) - (k : Int)), fun w' hw' => ?_, ?_⟩
                    · unfold Oper.quietAt; go_simp
                    simp only [Act.put, List.setIfInBounds_toArray, List.set_cons_zero, List.set_cons_succ]
                    go_big_quiet_on
                    go_big_quiet_want
                    refine ⟨.bool false, fun w' hw' => ?_, ?_⟩
                    · unfold Oper.quietAt; go_simp
                    simp only [Act.put, List.setIfInBounds_toArray, List.set_cons_zero, List.set_cons_succ]
                    go_big_quiet_on
                    go_big_quiet_want
                    refine ⟨.bool false, fun w' hw' => ?_, ?_⟩
                    · unfold Oper.quietAt; go_simp
                    simp only [Act.put, List.setIfInBounds_toArray, List.set_cons_zero, List.set_cons_succ]
                    go_big_quiet_on
                    (go_big_quiet_want; go_big_quiet_op; go_big_quiet_on)
                    (go_big_quiet_want; go_big_quiet_op; go_big_quiet_on)
                    (go_big_quiet_want; go_big_quiet_op; go_big_quiet_on)
                    go_big_quiet_want
                    refine ⟨.pointer (some ⟨g, off + N * 2, none⟩), fun w' hw' => ?_, ?_⟩
                    · unfold Oper.quietAt; go_simp
                    simp only [Act.put, List.setIfInBounds_toArray, List.set_cons_zero, List.set_cons_succ]
                    go_big_quiet_on
                    go_big_quiet_want
                    refine ⟨.pointer (some ⟨g, off + N * 2 + 1, none⟩), fun w' hw' => ?_, ?_⟩
                    · unfold Oper.quietAt; go_simp
                    simp only [Act.put, List.setIfInBounds_toArray, List.set_cons_zero, List.set_cons_succ]
                    go_big_quiet_on
                    go_big_quiet_want
                    refine ⟨.slice (some ⟨g3, o3, none⟩) u.length d2, fun w' hw' => ?_, ?_⟩
                    · have hh0 := (Kp.of_below hw').cell _ _ Y1.out; unfold Oper.quietAt; go_simp
                    simp only [Act.put, List.setIfInBounds_toArray, List.set_cons_zero, List.set_cons_succ]
                    go_big_quiet_on
                    go_big_quiet_want
                    refine ⟨.pointer (some ⟨g3, o3, none⟩), fun w' hw' => ?_, ?_⟩
                    · unfold Oper.quietAt; go_simp
                    simp only [Act.put, List.setIfInBounds_toArray, List.set_cons_zero, List.set_cons_succ]
                    go_big_quiet_on
                    go_big_quiet_want
                    refine ⟨.int .i64 (c' + (sig.length : Int)), fun w' hw' => ?_, ?_⟩
                    · have hh0 := (Kp.of_below hw').cell _ _ W3c.out; unfold Oper.quietAt; go_simp
                    simp only [Act.put, List.setIfInBounds_toArray, List.set_cons_zero, List.set_cons_succ]
                    go_big_quiet_on
                    (go_big_quiet_want; go_big_quiet_op; go_big_quiet_on)
                    (go_big_quiet_want; go_big_quiet_op; go_big_quiet_on)
                    go_big_quiet_want
                    refine ⟨.pointer (some ⟨g2, o2 + k, none⟩), fun w' hw' => ?_, ?_⟩
                    · unfold Oper.quietAt; go_simp
                    simp only [Act.put, List.setIfInBounds_toArray, List.set_cons_zero, List.set_cons_succ]
                    go_big_quiet_on
                    go_big_quiet_want
                    refine ⟨.int .i64 c', fun w' hw' => ?_, ?_⟩
                    · have hh0 := (Kp.of_below hw').cell _ _ HCx.out; unfold Oper.quietAt; go_simp
                    simp only [Act.put, List.setIfInBounds_toArray, List.set_cons_zero, List.set_cons_succ]
                    go_big_quiet_on
                    go_big_quiet_want
                    refine ⟨.pointer (some ⟨w.heap.size, 0, none⟩), fun w' hw' => ?_, ?_⟩
                    · unfold Oper.quietAt; go_simp
                    simp only [Act.put, List.setIfInBounds_toArray, List.set_cons_zero, List.set_cons_succ]
                    go_big_quiet_on
                    go_big_quiet_want
                    refine ⟨.slice so sig.length sc, fun w' hw' => ?_, ?_⟩
                    · have hh0 := (Kp.of_below hw').cell _ _ X0.out; unfold Oper.quietAt; go_simp
                    simp only [Act.put, List.setIfInBounds_toArray, List.set_cons_zero, List.set_cons_succ]
                    go_big_quiet_on
                    go_big_quiet_want
                    refine ⟨.int .i64 (sig.length : Int), fun w' hw' => ?_, ?_⟩
                    · unfold Oper.quietAt; go_simp
                    simp only [Act.put, List.setIfInBounds_toArray, List.set_cons_zero, List.set_cons_succ]
                    go_big_quiet_on
                    go_big_quiet_want
                    refine ⟨.int .i64 (c' + (sig.length : Int)), fun w' hw' => ?_, ?_⟩
                    · unfold Oper.quietAt; go_simp
                    simp only [Act.put, List.setIfInBounds_toArray, List.set_cons_zero, List.set_cons_succ]
                    go_big_quiet_on
                    go_big_quiet_want
                    refine ⟨.bool false, fun w' hw' => ?_, ?_⟩
                    · unfold Oper.quietAt; go_simp
                    simp only [Act.put, List.setIfInBounds_toArray, List.set_cons_zero, List.set_cons_succ]
                    go_big_quiet_on
                    go_big_quiet_want
                    refine ⟨.bool false, fun w' hw' => ?_, ?_⟩
                    · unfold Oper.quietAt; go_simp
                    simp only [Act.put, List.setIfInBounds_toArray, List.set_cons_zero, List.set_cons_succ]
                    go_big_quiet_on
                    refine wpQuiet_nil ?_
                    -- E:r25
                    intro w6 hb6
                    have Q6 := hid hb6
                    have R6 := hid (below_step Q5.out hb6)
                    clear hb6
                    have X0 := hid ((Kp.of_below Q6.out).cell _ _ X0.out)
                    have X1 := hid ((Kp.of_below Q6.out).cell _ _ X1.out)
                    have Y0 := hid ((Kp.of_below Q6.out).cell _ _ Y0.out)
                    have Y1 := hid ((Kp.of_below Q6.out).cell _ _ Y1.out)
                    have E0 := hid ((Kp.of_below Q6.out).cell _ _ E0.out)
                    have E1 := hid ((Kp.of_below Q6.out).cell _ _ E1.out)
                    have W1c := hid ((Kp.of_below Q6.out).cell _ _ W1c.out)
                    have W3c := hid ((Kp.of_below Q6.out).cell _ _ W3c.out)
                    have W4c := hid ((Kp.of_below Q6.out).cell _ _ W4c.out)
                    have HCx := hid ((Kp.of_below Q6.out).cell _ _ HCx.out)
                    have HS3 : Hid (∀ W, Below w6.heap.size w6 W → Calls Tryz.prog 19 #[.slice (if d2 = 1 then some ⟨g3, o3, none⟩ else some ⟨g3, o3 + 1, none⟩) (u.length - 1) (d2 - 1), .slice (if c2 = k + 1 then some ⟨g2, o2, none⟩ else some ⟨g2, o2 + (k + 1), none⟩) (u.length - 1) (c2 - (k + 1))] W fun e w' => e = .returned (.bool true) ∧ Below w6.heap.size w6 w') := fun W hW => HS2.out w6 R6.out W hW
                    clear HS2
                    go_upto_region 27 with fail
                    refine region_below (by kernel_rfl) (by kernel_rfl) ?_
                    -- Q:r27
                    (go_big_quiet_want; go_big_quiet_op; go_big_quiet_on)
                    (go_big_quiet_want; go_big_quiet_op; go_big_quiet_on)
                    go_big_quiet_want
                    refine ⟨.pointer (some ⟨g, off + N * 2, none⟩), fun w' hw' => ?_, ?_⟩
                    · unfold Oper.quietAt; go_simp
                    simp only [Act.put, List.setIfInBounds_toArray, List.set_cons_zero, List.set_cons_succ]
                    go_big_quiet_on
                    go_big_quiet_want
                    refine ⟨.pointer (some ⟨g, off + N * 2 + 1, none⟩), fun w' hw' => ?_, ?_⟩
                    · unfold Oper.quietAt; go_simp
                    simp only [Act.put, List.setIfInBounds_toArray, List.set_cons_zero, List.set_cons_succ]
                    go_big_quiet_on
                    go_big_quiet_want
                    refine ⟨.slice (some ⟨g3, o3, none⟩) u.length d2, fun w' hw' => ?_, ?_⟩
                    · have hh0 := (Kp.of_below hw').cell _ _ Y1.out; unfold Oper.quietAt; go_simp
                    simp only [Act.put, List.setIfInBounds_toArray, List.set_cons_zero, List.set_cons_succ]
                    go_big_quiet_on
                    go_big_quiet_want
                    refine ⟨.slice (if d2 = 1 then some ⟨g3, o3, none⟩ else some ⟨g3, o3 + 1, none⟩) (u.length - 1) (d2 - 1), fun w' hw' => ?_, ?_⟩
                    · unfold Oper.quietAt; go_simp; rw [if_pos (by omega)]; exact ⟨rfl, rfl⟩
                    simp only [Act.put, List.setIfInBounds_toArray, List.set_cons_zero, List.set_cons_succ]
                    go_big_quiet_on
                    (go_big_quiet_want; go_big_quiet_op; go_big_quiet_on)
                    (go_big_quiet_want; go_big_quiet_op; go_big_quiet_on)
                    go_big_quiet_want
                    refine ⟨.int .i64 ((k + 1 : Nat) : Int), fun w' hw' => ?_, ?_⟩
                    · unfold Oper.quietAt; go_simp
                    simp only [Act.put, List.setIfInBounds_toArray, List.set_cons_zero, List.set_cons_succ]
                    go_big_quiet_on
                    (go_big_quiet_want; go_big_quiet_op; go_big_quiet_on)
                    (go_big_quiet_want; go_big_quiet_op; go_big_quiet_on)
                    (go_big_quiet_want; go_big_quiet_op; go_big_quiet_on)
                    go_big_quiet_want
                    refine ⟨.pointer (some ⟨g, off + N * 2, none⟩), fun w' hw' => ?_, ?_⟩
                    · unfold Oper.quietAt; go_simp
                    simp only [Act.put, List.setIfInBounds_toArray, List.set_cons_zero, List.set_cons_succ]
                    go_big_quiet_on
                    go_big_quiet_want
                    refine ⟨.pointer (some ⟨g, off + N * 2 + 1, none⟩), fun w' hw' => ?_, ?_⟩
                    · unfold Oper.quietAt; go_simp
                    simp only [Act.put, List.setIfInBounds_toArray, List.set_cons_zero, List.set_cons_succ]
                    go_big_quiet_on
                    go_big_quiet_want
                    refine ⟨.slice (some ⟨g3, o3, none⟩) u.length d2, fun w' hw' => ?_, ?_⟩
                    · have hh0 := (Kp.of_below hw').cell _ _ Y1.out; unfold Oper.quietAt; go_simp
                    simp only [Act.put, List.setIfInBounds_toArray, List.set_cons_zero, List.set_cons_succ]
                    go_big_quiet_on
                    go_big_quiet_want
                    refine ⟨.int .i64 (u.length : Int), fun w' hw' => ?_, ?_⟩
                    · unfold Oper.quietAt; go_simp
                    simp only [Act.put, List.setIfInBounds_toArray, List.set_cons_zero, List.set_cons_succ]
                    go_big_quiet_on
                    go_big_quiet_want
                    refine ⟨.int .i64 ((k + u.length : Nat) : Int), fun w' hw' => ?_, ?_⟩
                    · unfold Oper.quietAt; go_simp
                    simp only [Act.put, List.setIfInBounds_toArray, List.set_cons_zero, List.set_cons_succ]
                    go_big_quiet_on
                    go_big_quiet_want
                    refine ⟨.slice (if c2 = k + 1 then some ⟨g2, o2, none⟩ else some ⟨g2, o2 + (k + 1), none⟩) (u.length - 1) (c2 - (k + 1)), fun w' hw' => ?_, ?_⟩
                    · unfold Oper.quietAt; go_simp; rw [if_pos ⟨by omega, by omega⟩, if_pos ⟨by omega, by omega⟩, show ((k : Int) + (u.length : Int)).toNat - (k + 1) = u.length - 1 by omega]; exact ⟨rfl, rfl⟩
                    simp only [Act.put, List.setIfInBounds_toArray, List.set_cons_zero, List.set_cons_succ]
                    go_big_quiet_on
                    go_big_quiet_want
                    refine ⟨.bool true, fun w' hw' => ?_, ?_⟩
                    · unfold Oper.quietAt; go_simp; exact HS3.out w' hw'
                    simp only [Act.put, List.setIfInBounds_toArray, List.set_cons_zero, List.set_cons_succ]
                    go_big_quiet_on
                    (go_big_quiet_want; go_big_quiet_op; go_big_quiet_on)
                    refine wpQuiet_nil ?_
                    -- E:r27
                    intro w7 hb7
                    have R7 := hid (below_step HB.out (below_step R6.out hb7))
                    clear hb7 HS3 X0 X1 Y0 Y1 E0 E1 W1c W3c W4c HCx
                    go_wp2
                    go_roundw
                    case rel => exact ⟨k + 1, by omega, congrArg (Value.int .i64) (by rw [HNe.out]; omega), by go_num, R7.out⟩
                    case measure => simp only [intOf]; omega
                  · have hdn : decide ((N : Int) < (L.length : Int)) = false := by simpa using hnl
                    go_wp2
                    go_roundw
                    case rel => exact ⟨k + 1, by omega, congrArg (Value.int .i64) (by rw [HNe.out]; omega), by go_num, HB.out⟩
                    case measure => simp only [intOf]; omega
          · have hke : k = r.length := by omega
            have hdk : decide ((k : Int) < (r.length : Int)) = false := by simpa using hkl
            have HAn : Hid ((pairsL sig D (rs.take (i + 1))).length = N) := by
              show _ = _
              rw [(pairsL_at HM.out).1, List.length_append, ← HAe.out, HN.out, hke]
            obtain ⟨x0, x1⟩ := HC.out wr DR.out
            clear hke
            go_wp2
            go_roundw
            case rel => exact ⟨i + 1, by omega, by rw [HAn.out], by go_num, HB.out⟩
            case measure => simp only [intOf]; omega
      · have hie : i = rs.length := by omega
        have hdi : decide ((i : Int) < (rs.length : Int)) = false := by simpa using hil
        have hAe : (pairsL sig D (rs.take i)).length = P.length := by rw [hie, List.take_length, HP.out]
        rw [hAe]
        have B9 := BR.out
        have HB9 := hid B9
        clear hie hAe B9
        by_cases h2 : 256 < P.length
        · have hd2 : decide (256 < P.length) = true := by simpa using h2
          have hE2 : E = 2 := by rw [HE.out, if_pos h2]
          have hL2 : L = [] := by rw [HL.out, if_pos h2]
          subst hE2
          subst hL2
          go_wp2
          go_ret
          exact ⟨by simp, HB9.out⟩
        · have hd2 : decide (256 < P.length) = false := by simpa using h2
          have hE2 : E = 0 := by rw [HE.out, if_neg h2]
          have hL2 : L = P := by rw [HL.out, if_neg h2]
          subst hE2
          subst hL2
          go_wp2
          go_ret
          exact ⟨by simp, HB9.out⟩

end Go.Proofs.YtoapgbaibpkckaaGreatDoor
