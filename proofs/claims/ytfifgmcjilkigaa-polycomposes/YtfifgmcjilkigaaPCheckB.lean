/- What Check answers, row by row. -/
import Derived.Test.YtfifgmcjilkigaaPCheck
namespace Go.Proofs.Ytfifgmcjilkigaa
open Go.RowKit

theorem polyB_no {p : List Mn} {vars : Int} {k : Nat} (hk : k < p.length) (h : okAt p vars k = false) : polyB p vars = false := by
  rw [Bool.eq_false_iff]
  intro hp
  rw [polyB_iff.1 hp k hk] at h
  cases h

theorem okAt_no {p : List Mn} {vars : Int} {k : Nat} {m : Mn} (hk : p[k]? = some m) (h : (monB m && decide ((m.2.length : Int) ≤ vars)) = false) : okAt p vars k = false := by
  simp [okAt, hk, h]

theorem okAt_0 {p : List Mn} {vars : Int} {m : Mn} (hk : p[0]? = some m) (h : (monB m && decide ((m.2.length : Int) ≤ vars)) = true) : okAt p vars 0 = true := by
  simp only [okAt, hk, h]; rfl

theorem okAt_s {p : List Mn} {vars : Int} {j : Nat} {m m' : Mn} (hk : p[j + 1]? = some m) (hj : p[j]? = some m') (h : (monB m && decide ((m.2.length : Int) ≤ vars)) = true) : okAt p vars (j + 1) = decide (cmpX m'.2 m.2 < 0) := by
  simp only [okAt, hk, h, Bool.true_and, expsAt, Nat.add_sub_cancel, hj, Option.map_some, Option.getD_some]
  rw [show (j + 1 == 0) = false from rfl, Bool.false_or]

set_option maxHeartbeats 1600000 in
theorem isPolynomial_any (v : Value) (p : List Mn) (vars : Int) (w : World) (h : Ms w v p) (_hv1 : 0 ≤ vars) (_hv2 : vars ≤ 9223372036854775807) :
    Calls Try.prog 31 #[v, .int .i64 vars] w fun e w' => e = .returned (.bool (polyB p vars)) ∧ Below w.heap.size w w' := by
  obtain ⟨ao, cap, rfl, hao, hca, q0⟩ := h.flat
  unfold maxLen at hca
  have HM : Hid (Ms w (.slice ao p.length cap) p) := h
  clear h q0
  go_enter Try.func31, Try.ntmps31
  go_wp2
  go_loopw [9] (fun i wr => ∃ k : Nat, k ≤ p.length ∧ i = .int .i64 k ∧ (∀ j : Nat, j < k → okAt p vars j = true) ∧ Below w.heap.size w wr) (fun i _ => p.length - (intOf i).toNat)
  case atStart => exact ⟨0, by omega, rfl, fun j hj => absurd hj (by omega), Below.refl _ _⟩
  case round =>
    obtain ⟨k, hk, rfl, hp, hbl⟩ := hrel
    have HP : Hid (∀ j : Nat, j < k → okAt p vars j = true) := hp
    clear hp
    by_cases hlt : k < p.length
    · have HMr : Hid (Ms wr (.slice ao p.length cap) p) := HM.out.kp (Kp.of_below hbl)
      obtain ⟨g, off, c, es, a1, c1, a2, c2, rfl, hm1, hc0, hc1, hmo, hl1, hl2, hl3, hl4⟩ := HMr.out.at hlt
      have HX : Hid (p[k]? = some (c, es)) := hm1
      have HMo : Hid (Mo wr (.slice a1 c.length c1) (.slice a2 es.length c2) (c, es)) := hmo
      clear hm1 hmo
      go_wp2_with fail
      refine (isMonomial_any _ _ (c, es) _ (HMo.out.kp (Kp.of_below (below_alloc _)))).mono ?_
      rintro e w1 ⟨rfl, hb1⟩
      obtain ⟨hd0, hd1, hbl1⟩ := box2 hb1
      have HB1 : Hid (Below wr.heap.size wr w1) := hbl1
      have HB : Hid (Below w.heap.size w w1) := below_step hbl hbl1
      have HI : Hid (Is w1 (.slice a2 es.length c2) es) := HMo.out.2.kp (Kp.of_below hbl1)
      clear hb1 hbl1 hbl hc0 hc1
      cases hmb : monB (c, es)
      · have HF : Hid (polyB p vars = false) := polyB_no hlt (okAt_no HX.out (by rw [hmb]; rfl))
        clear hmb
        go_wp2
        go_ret
        exact ⟨ret1b HF.out.symm, HB.out⟩
      by_cases hv : (es.length : Int) ≤ vars
      · have ht : (monB (c, es) && decide (((c, es).2.length : Int) ≤ vars)) = true := by rw [hmb]; simpa using hv
        have HT : Hid ((monB (c, es) && decide (((c, es).2.length : Int) ≤ vars)) = true) := ht
        clear ht
        clear hmb
        by_cases hk0 : k = 0
        · subst hk0
          have HO : Hid (okAt p vars 0 = true) := okAt_0 HX.out HT.out
          go_wp2
          go_quiet (fail)
          go_wp2
          go_roundw
          case rel => exact ⟨1, by omega, by go_num, fun j hj => by obtain rfl : j = 0 := Nat.lt_one_iff.1 hj; exact HO.out, below_drewN HB.out _⟩
          case measure => simp [intOf]; omega
        · obtain ⟨j, rfl⟩ : ∃ j, k = j + 1 := ⟨k - 1, by omega⟩
          clear hk0
          obtain ⟨g', off', d, fs, b1, d1, b2, d2, hq, hm2, he0, he1, hmo2, hk1, hk2, hk3, hk4⟩ := HMr.out.at (k := j) (by omega)
          obtain ⟨rfl, rfl⟩ : g = g' ∧ off = off' := by simpa using hq
          have HX2 : Hid (p[j]? = some (d, fs)) := hm2
          have HI2 : Hid (Is w1 (.slice b2 fs.length d2) fs) := hmo2.2.kp (Kp.of_below HB1.out)
          have he1' := (Kp.of_below HB1.out).cell _ _ he1
          have HO : Hid (okAt p vars (j + 1) = decide (cmpX fs es < 0)) := okAt_s HX.out HX2.out HT.out
          clear hm2 hmo2 he0 he1 hq
          have hg0 : (0 : Int) < (j : Int) + 1 := by omega
          have hjl : j < p.length := by omega
          cases hcf : decide (cmpX fs es < 0)
          · have HF : Hid (polyB p vars = false) := polyB_no hlt (HO.out.trans hcf)
            have HC : Hid (decide (cmpX fs es < 0) = false) := hcf
            clear hcf
            go_wp2
            go_quiet ((go_at_call 39; exact Calls.quiet_of_same (HC.out ▸ comesFirst_any _ _ fs es _ (HI2.out.kp (Kp.drewN _ _)) (HI.out.kp (Kp.drewN _ _)))))
            go_wp2
            go_ret
            exact ⟨ret1b HF.out.symm, below_drewN HB.out _⟩
          · have HC : Hid (decide (cmpX fs es < 0) = true) := hcf
            clear hcf
            go_wp2
            go_quiet ((go_at_call 39; exact Calls.quiet_of_same (HC.out ▸ comesFirst_any _ _ fs es _ (HI2.out.kp (Kp.drewN _ _)) (HI.out.kp (Kp.drewN _ _)))))
            go_wp2
            go_roundw
            case rel =>
              refine ⟨j + 1 + 1, by omega, by go_num, fun i hi => ?_, below_drewN HB.out _⟩
              by_cases hij : i = j + 1
              · subst hij; exact HO.out.trans HC.out
              · exact HP.out i (by omega)
            case measure => simp [intOf]; omega
      · have HF : Hid (polyB p vars = false) := polyB_no hlt (okAt_no HX.out (by rw [hmb]; simpa using hv))
        clear hmb
        go_wp2
        go_ret
        exact ⟨ret1b HF.out.symm, HB.out⟩
    · have hke : k = p.length := by omega
      subst hke
      have HF : Hid (polyB p vars = true) := polyB_iff.2 HP.out
      go_wp2
      go_ret
      exact ⟨ret1b HF.out.symm, hbl⟩

end Go.Proofs.Ytfifgmcjilkigaa
