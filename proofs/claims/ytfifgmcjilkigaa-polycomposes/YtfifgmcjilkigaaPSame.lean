/- same of the law file. -/
import Derived.Test.YtfifgmcjilkigaaPLawB
namespace Go.Proofs.Ytfifgmcjilkigaa
open Go.RowKit Go.Maps

theorem drawn_of {w wr : World} {n : Nat} (h : wr = w.drewN n) (m : Nat) : ∃ k, wr.drewN m = w.drewN k := ⟨n + m, by rw [h, World.drewN_drewN]⟩

theorem sameNat_at (B : Bool) (v u : Value) (xs ys : List Nat) (w : World) (hB : decide (xs = ys) = B) (h : Sl w v xs) (h' : Sl w u ys) :
    Calls Try.prog 27 #[v, u] w fun e w' => e = .returned (.bool B) ∧ ∃ n, w' = w.drewN n := by
  subst hB
  exact sameNat_any v u xs ys w h h'

set_option maxRecDepth 100000 in
set_option maxHeartbeats 3200000 in
theorem same_any (v u : Value) (p q : List Mn) (w : World) (h : Ms w v p) (h' : Ms w u q) :
    Calls Try.prog 13 #[v, u] w fun e w' => e = .returned (.bool (decide (p = q))) ∧ ∃ n, w' = w.drewN n := by
  obtain ⟨ao, cap, rfl, hao, hca, q0⟩ := Row.flat h
  obtain ⟨bo, cap', rfl, hbo, hcb, q0'⟩ := Row.flat h'
  unfold maxLen at hca hcb
  have HP : Hid (Ms w (.slice ao p.length cap) p) := h
  have HQ : Hid (Ms w (.slice bo q.length cap') q) := h'
  clear h h' q0 q0'
  by_cases hl : p.length = q.length
  · have hle : ((p.length : Int) != q.length) = false := by simp; omega
    go_enter Try.func13, Try.ntmps13
    go_wp2
    go_loopw [5] (fun i wr => ∃ k : Nat, k ≤ p.length ∧ i = .int .i64 k ∧ p.take k = q.take k ∧ ∃ n, wr = w.drewN n) (fun i _ => p.length - (intOf i).toNat)
    case atStart => exact ⟨0, Nat.zero_le _, rfl, rfl, 0, rfl⟩
    case round =>
      obtain ⟨k, hk, rfl, ht, n, hw⟩ := hrel
      have HT : Hid (p.take k = q.take k) := ht
      have HW : Hid (wr = w.drewN n) := hw
      have hkp : Kp w wr := by rw [hw]; exact Kp.drewN _ _
      clear ht hw
      by_cases hlt : k < p.length
      · have hlt' : k < q.length := by omega
        obtain ⟨g, off, c, es, a1, c1, a2, c2, rfl, hm1, hc0, hc1, hmo, hl1, hl2, hl3, hl4⟩ := (HP.out.kp hkp).at hlt
        obtain ⟨g', off', d, fs, b1, d1, b2, d2, rfl, hn1, hd0, hd1, hno, hl5, hl6, hl7, hl8⟩ := (HQ.out.kp hkp).at hlt'
        have HX : Hid (p[k]? = some (c, es)) := hm1
        have HY : Hid (q[k]? = some (d, fs)) := hn1
        have HS1 : Hid (Sl wr (.slice a1 c.length c1) c) := hmo.1
        have HS2 : Hid (Sl wr (.slice b1 d.length d1) d) := hno.1
        have HI1 : Hid (Is wr (.slice a2 es.length c2) es) := hmo.2
        have HI2 : Hid (Is wr (.slice b2 fs.length d2) fs) := hno.2
        have HNo : Hid (¬ (c, es) = (d, fs) → decide (p = q) = false) := by
          intro hne
          rw [decide_eq_false_iff_not]
          intro hpq
          rw [hpq] at hm1
          exact hne (Option.some.inj (hm1.symm.trans hn1))
        clear hm1 hn1 hmo hno hkp
        by_cases hcd : c = d
        · have HEq : Hid (decide (c = d) = true) := decide_eq_true hcd
          have HCD : Hid (c = d) := hcd
          clear hcd
          by_cases hlen : es.length = fs.length
          · have hle2 : ((es.length : Int) != fs.length) = false := by simp; omega
            go_wp2
            go_quiet ((go_at_call 27; exact Calls.quiet_of (sameNat_at _ _ _ c d _ HEq.out (HS1.out.kp (Kp.drewN _ _)) (HS2.out.kp (Kp.drewN _ _)))))
            go_wp2
            go_loopw [6] (fun i ws => ∃ l : Nat, l ≤ es.length ∧ i = .int .i64 l ∧ es.take l = fs.take l ∧ ∃ n, ws = wr.drewN n) (fun i _ => es.length - (intOf i).toNat)
            case atStart => exact ⟨0, Nat.zero_le _, rfl, rfl, _, rfl⟩
            case round =>
              obtain ⟨l, hk2, rfl, ht2, n2, rfl⟩ := hrel
              have HT2 : Hid (es.take l = fs.take l) := ht2
              clear ht2
              by_cases hll : l < es.length
              · have hll' : l < fs.length := by omega
                obtain ⟨g2, o2, x, rfl, hx1, hx2, hx3, hx4⟩ := HI1.out.at hll
                obtain ⟨g3, o3, y, rfl, hy1, hy2, hy3, hy4⟩ := HI2.out.at hll'
                have HXx : Hid (es[l]? = some x) := hx1
                have HYy : Hid (fs[l]? = some y) := hy1
                clear hx1 hy1
                by_cases hxy : x = y
                · subst hxy
                  have hxx : (x != x) = false := by simp
                  go_wp2
                  go_quiet (fail)
                  go_wp2
                  go_roundw
                  case rel => exact ⟨l + 1, by omega, by go_num, by rw [take_get HXx.out, take_get HYy.out, HT2.out], _, rfl⟩
                  case measure => simp [intOf]; omega
                · have hne : (x != y) = true := by rw [bne_iff_ne]; exact hxy
                  have HF : Hid (decide (p = q) = false) := HNo.out (fun e => by
                    have e2 : es = fs := congrArg Prod.snd e
                    have := HXx.out.symm.trans ((congrArg (·[l]?) e2).trans HYy.out)
                    exact hxy (Option.some.inj this))
                  go_wp2
                  go_quiet (fail)
                  go_wp2
                  go_ret
                  exact ⟨ret1b HF.out.symm, by first | exact drawn_of HW.out _ | (rw [World.drewN_drewN]; exact drawn_of HW.out _)⟩
              · have hle3 : l = es.length := by omega
                have HFs : Hid (es = fs) := by
                  have := HT2.out
                  rw [List.take_of_length_le (by omega), List.take_of_length_le (by omega)] at this
                  exact this
                go_wp2
                go_roundw
                case rel => exact ⟨k + 1, by omega, by go_num, by rw [take_get HX.out, take_get HY.out, HT.out, HCD.out, HFs.out], drawn_of HW.out _⟩
                case measure => simp [intOf]; omega
          · have hle2 : ((es.length : Int) != fs.length) = true := by rw [bne_iff_ne]; omega
            have HF : Hid (decide (p = q) = false) := HNo.out (fun e => hlen (by have e2 : es = fs := congrArg Prod.snd e; rw [e2]))
            go_wp2
            go_quiet ((go_at_call 27; exact Calls.quiet_of (sameNat_at _ _ _ c d _ HEq.out (HS1.out.kp (Kp.drewN _ _)) (HS2.out.kp (Kp.drewN _ _)))))
            go_wp2
            go_ret
            exact ⟨ret1b HF.out.symm, drawn_of HW.out _⟩
        · have HEq : Hid (decide (c = d) = false) := decide_eq_false hcd
          have HF : Hid (decide (p = q) = false) := HNo.out (fun e => hcd (congrArg Prod.fst e))
          clear hcd
          go_wp2
          go_quiet ((go_at_call 27; exact Calls.quiet_of (sameNat_at _ _ _ c d _ HEq.out (HS1.out.kp (Kp.drewN _ _)) (HS2.out.kp (Kp.drewN _ _)))))
          go_wp2
          go_ret
          exact ⟨ret1b HF.out.symm, drawn_of HW.out _⟩
      · have hk' : k = p.length := by omega
        have HF : Hid (decide (p = q) = true) := by
          have := HT.out
          rw [List.take_of_length_le (by omega), List.take_of_length_le (by omega)] at this
          exact decide_eq_true this
        go_wp2
        go_ret
        exact ⟨ret1b HF.out.symm, n, HW.out⟩
  · have hle : ((p.length : Int) != q.length) = true := by rw [bne_iff_ne]; omega
    have HF : Hid (decide (p = q) = false) := decide_eq_false (fun e => hl (by rw [e]))
    go_enter Try.func13, Try.ntmps13
    go_wp2
    go_ret
    exact ⟨ret1b HF.out.symm, 0, rfl⟩

end Go.Proofs.Ytfifgmcjilkigaa
