/- Texts of the proof, one behind the other. -/
import Derived.Test.YtlaenbdlgpepkaaGreatDoorOwn22
/- same of the law file of layer 12. -/
namespace Go.Proofs.YtlaenbdlgpepkaaGreatDoor
open Go.RowKit Go.Maps

set_option maxRecDepth 100000 in
set_option maxHeartbeats 1600000 in
theorem sameNat12_any (v u : Value) (xs ys : List Nat) (w : World) (h : Sl w v xs) (h' : Sl w u ys) :
    Calls Tryz.prog 31 #[v, u] w fun e w' => e = .returned (.bool (decide (xs = ys))) ∧ ∃ n, w' = w.drewN n := by
  obtain ⟨ao, cap, rfl, hao, hca, hcl⟩ := h.flat
  obtain ⟨bo, cap', rfl, hbo, hcb, hcl'⟩ := h'.flat
  unfold maxLen at hca hcb
  clear h h'
  by_cases hl : xs.length = ys.length
  · have hle : ((xs.length : Int) != ys.length) = false := by simp; omega
    go_enter Tryz.func31, Tryz.ntmps31
    go_wp2
    go_loopw [5] (fun i wr => ∃ k : Nat, k ≤ xs.length ∧ i = .int .i64 k ∧ xs.take k = ys.take k ∧ ∃ n, wr = w.drewN n) (fun i _ => xs.length - (intOf i).toNat)
    case atStart => exact ⟨0, Nat.zero_le _, rfl, rfl, 0, rfl⟩
    case round =>
      obtain ⟨k, hk, rfl, ht, n, rfl⟩ := hrel
      have HT : Hid (xs.take k = ys.take k) := ht
      clear ht
      by_cases hlt : k < xs.length
      · obtain ⟨g, off, x, rfl, hx1, hx2, hx3⟩ := hcl k hlt
        obtain ⟨g', off', y, rfl, hy1, hy2, hy3⟩ := hcl' k (by omega)
        have HX : Hid (xs[k]? = some x) := hx1
        have HY : Hid (ys[k]? = some y) := hy1
        have hlt' : k < ys.length := by omega
        clear hx1 hy1 hcl hcl'
        by_cases hxy : x = y
        · subst hxy
          have hxx : ((x : Int) != x) = false := by simp
          go_wp2
          go_quiet (fail)
          go_wp2
          go_roundw
          case rel => exact ⟨k + 1, by omega, by go_num, by rw [take_getY HX.out, take_getY HY.out, HT.out], _, rfl⟩
          case measure => simp [intOf]; omega
        · have hne : ((x : Int) != y) = true := by rw [bne_iff_ne]; omega
          go_wp2
          go_quiet (fail)
          go_wp2
          go_ret
          exact ⟨ret1b (by rw [eq_comm, decide_eq_false_iff_not]; rintro rfl; have := HX.out.symm.trans HY.out; simp at this; exact hxy this), _, World.drewN_drewN _ _ _⟩
      · have hk' : k = xs.length := by omega
        go_wp2
        go_ret
        refine ⟨ret1b ?_, n, rfl⟩
        have := HT.out
        rw [List.take_of_length_le (by omega), List.take_of_length_le (by omega)] at this
        simp [this]
  · have hle : ((xs.length : Int) != ys.length) = true := by rw [bne_iff_ne]; omega
    go_enter Tryz.func31, Tryz.ntmps31
    go_wp2
    go_ret
    exact ⟨ret1b (by rw [eq_comm, decide_eq_false_iff_not]; rintro rfl; exact hl rfl), 0, rfl⟩

theorem drawn_of12 {w wr : World} {n : Nat} (h : wr = w.drewN n) (m : Nat) : ∃ k, wr.drewN m = w.drewN k := ⟨n + m, by rw [h, World.drewN_drewN]⟩

theorem sameNat12_at (B : Bool) (v u : Value) (xs ys : List Nat) (w : World) (hB : decide (xs = ys) = B) (h : Sl w v xs) (h' : Sl w u ys) :
    Calls Tryz.prog 31 #[v, u] w fun e w' => e = .returned (.bool B) ∧ ∃ n, w' = w.drewN n := by
  subst hB
  exact sameNat12_any v u xs ys w h h'

set_option maxRecDepth 100000 in
set_option maxHeartbeats 3200000 in
theorem same12_any (v u : Value) (p q : List Mn) (w : World) (h : Ms w v p) (h' : Ms w u q) :
    Calls Tryz.prog 18 #[v, u] w fun e w' => e = .returned (.bool (decide (p = q))) ∧ ∃ n, w' = w.drewN n := by
  obtain ⟨ao, cap, rfl, hao, hca, q0⟩ := Row.flat h
  obtain ⟨bo, cap', rfl, hbo, hcb, q0'⟩ := Row.flat h'
  unfold maxLen at hca hcb
  have HP : Hid (Ms w (.slice ao p.length cap) p) := h
  have HQ : Hid (Ms w (.slice bo q.length cap') q) := h'
  clear h h' q0 q0'
  by_cases hl : p.length = q.length
  · have hle : ((p.length : Int) != q.length) = false := by simp; omega
    go_enter Tryz.func18, Tryz.ntmps18
    go_wp2
    go_loopw [5] (fun i wr => ∃ k : Nat, k ≤ p.length ∧ i = .int .i64 k ∧ p.take k = q.take k ∧ ∃ n, wr = w.drewN n) (fun i _ => p.length - (intOf i).toNat)
    case atStart => exact ⟨0, Nat.zero_le _, rfl, rfl, 0, rfl⟩
    case round =>
      obtain ⟨k, hk, rfl, ht, n, hw⟩ := hrel
      have HT : Hid (p.take k = q.take k) := ht
      have HW : Hid (wr = w.drewN n) := hw
      have hkp : Kp w wr := by rw [hw]; exact Kp.drewN _ _
      clear ht hw
      by_cases hlt : k < p.length
      · have hlt' : k < q.length := by omega
        obtain ⟨g, off, c, es, a1, c1, a2, c2, rfl, hm1, hc0, hc1, hmo, hl1, hl2, hl3, hl4⟩ := (HP.out.kp hkp).at hlt
        obtain ⟨g', off', d, fs, b1, d1, b2, d2, rfl, hn1, hd0, hd1, hno, hl5, hl6, hl7, hl8⟩ := (HQ.out.kp hkp).at hlt'
        have HX : Hid (p[k]? = some (c, es)) := hm1
        have HY : Hid (q[k]? = some (d, fs)) := hn1
        have HS1 : Hid (Sl wr (.slice a1 c.length c1) c) := hmo.1
        have HS2 : Hid (Sl wr (.slice b1 d.length d1) d) := hno.1
        have HI1 : Hid (Is wr (.slice a2 es.length c2) es) := hmo.2
        have HI2 : Hid (Is wr (.slice b2 fs.length d2) fs) := hno.2
        have HNo : Hid (¬ (c, es) = (d, fs) → decide (p = q) = false) := by
          intro hne
          rw [decide_eq_false_iff_not]
          intro hpq
          rw [hpq] at hm1
          exact hne (Option.some.inj (hm1.symm.trans hn1))
        clear hm1 hn1 hmo hno hkp
        by_cases hcd : c = d
        · have HEq : Hid (decide (c = d) = true) := decide_eq_true hcd
          have HCD : Hid (c = d) := hcd
          clear hcd
          by_cases hlen : es.length = fs.length
          · have hle2 : ((es.length : Int) != fs.length) = false := by simp; omega
            go_wp2
            go_quiet ((go_at_call 31; exact Calls.quiet_of (sameNat12_at _ _ _ c d _ HEq.out (HS1.out.kp (Kp.drewN _ _)) (HS2.out.kp (Kp.drewN _ _)))))
            go_wp2
            go_loopw [6] (fun i ws => ∃ l : Nat, l ≤ es.length ∧ i = .int .i64 l ∧ es.take l = fs.take l ∧ ∃ n, ws = wr.drewN n) (fun i _ => es.length - (intOf i).toNat)
            case atStart => exact ⟨0, Nat.zero_le _, rfl, rfl, _, rfl⟩
            case round =>
              obtain ⟨l, hk2, rfl, ht2, n2, rfl⟩ := hrel
              have HT2 : Hid (es.take l = fs.take l) := ht2
              clear ht2
              by_cases hll : l < es.length
              · have hll' : l < fs.length := by omega
                obtain ⟨g2, o2, x, rfl, hx1, hx2, hx3, hx4⟩ := HI1.out.at hll
                obtain ⟨g3, o3, y, rfl, hy1, hy2, hy3, hy4⟩ := HI2.out.at hll'
                have HXx : Hid (es[l]? = some x) := hx1
                have HYy : Hid (fs[l]? = some y) := hy1
                clear hx1 hy1
                by_cases hxy : x = y
                · subst hxy
                  have hxx : (x != x) = false := by simp
                  go_wp2
                  go_quiet (fail)
                  go_wp2
                  go_roundw
                  case rel => exact ⟨l + 1, by omega, by go_num, by rw [take_getY HXx.out, take_getY HYy.out, HT2.out], _, rfl⟩
                  case measure => simp [intOf]; omega
                · have hne : (x != y) = true := by rw [bne_iff_ne]; exact hxy
                  have HF : Hid (decide (p = q) = false) := HNo.out (fun e => by
                    have e2 : es = fs := congrArg Prod.snd e
                    have := HXx.out.symm.trans ((congrArg (·[l]?) e2).trans HYy.out)
                    exact hxy (Option.some.inj this))
                  go_wp2
                  go_quiet (fail)
                  go_wp2
                  go_ret
                  exact ⟨ret1b HF.out.symm, by first | exact drawn_of12 HW.out _ | (rw [World.drewN_drewN]; exact drawn_of12 HW.out _)⟩
              · have hle3 : l = es.length := by omega
                have HFs : Hid (es = fs) := by
                  have := HT2.out
                  rw [List.take_of_length_le (by omega), List.take_of_length_le (by omega)] at this
                  exact this
                go_wp2
                go_roundw
                case rel => exact ⟨k + 1, by omega, by go_num, by rw [take_getY HX.out, take_getY HY.out, HT.out, HCD.out, HFs.out], drawn_of12 HW.out _⟩
                case measure => simp [intOf]; omega
          · have hle2 : ((es.length : Int) != fs.length) = true := by rw [bne_iff_ne]; omega
            have HF : Hid (decide (p = q) = false) := HNo.out (fun e => hlen (by have e2 : es = fs := congrArg Prod.snd e; rw [e2]))
            go_wp2
            go_quiet ((go_at_call 31; exact Calls.quiet_of (sameNat12_at _ _ _ c d _ HEq.out (HS1.out.kp (Kp.drewN _ _)) (HS2.out.kp (Kp.drewN _ _)))))
            go_wp2
            go_ret
            exact ⟨ret1b HF.out.symm, drawn_of12 HW.out _⟩
        · have HEq : Hid (decide (c = d) = false) := decide_eq_false hcd
          have HF : Hid (decide (p = q) = false) := HNo.out (fun e => hcd (congrArg Prod.fst e))
          clear hcd
          go_wp2
          go_quiet ((go_at_call 31; exact Calls.quiet_of (sameNat12_at _ _ _ c d _ HEq.out (HS1.out.kp (Kp.drewN _ _)) (HS2.out.kp (Kp.drewN _ _)))))
          go_wp2
          go_ret
          exact ⟨ret1b HF.out.symm, drawn_of12 HW.out _⟩
      · have hk' : k = p.length := by omega
        have HF : Hid (decide (p = q) = true) := by
          have := HT.out
          rw [List.take_of_length_le (by omega), List.take_of_length_le (by omega)] at this
          exact decide_eq_true this
        go_wp2
        go_ret
        exact ⟨ret1b HF.out.symm, n, HW.out⟩
  · have hle : ((p.length : Int) != q.length) = true := by rw [bne_iff_ne]; omega
    have HF : Hid (decide (p = q) = false) := decide_eq_false (fun e => hl (by rw [e]))
    go_enter Tryz.func18, Tryz.ntmps18
    go_wp2
    go_ret
    exact ⟨ret1b HF.out.symm, 0, rfl⟩

theorem same12_self (v u : Value) (p : List Mn) (w : World) (h : Ms w v p) (h' : Ms w u p) :
    Calls Tryz.prog 18 #[v, u] w fun e w' => e = .returned (.bool true) ∧ Below w.heap.size w w' :=
  (same12_any v u p p w h h').mono fun _ _ ⟨he, _, hw⟩ => ⟨by rw [he, decide_eq_true rfl], drawn_below hw⟩

end Go.Proofs.YtlaenbdlgpepkaaGreatDoor

/- sameAll of the law file of layer 12. -/
namespace Go.Proofs.YtlaenbdlgpepkaaGreatDoor
open Go.RowKit Go.Maps Go.BigFrame

theorem same12_at (B : Bool) (v u : Value) (p q : List Mn) (w : World) (hB : decide (p = q) = B) (h : Ms w v p) (h' : Ms w u q) :
    Calls Tryz.prog 18 #[v, u] w fun e w' => e = .returned (.bool B) ∧ ∃ n, w' = w.drewN n := by
  subst hB
  exact same12_any v u p q w h h'

set_option maxRecDepth 100000 in
set_option maxHeartbeats 3200000 in
theorem sameAll12_any (v u : Value) (a b : List Ip) (w : World) (h : Ins w v a) (h' : Ins w u b) :
    Calls Tryz.prog 15 #[v, u] w fun e w' => e = .returned (.bool (decide (a = b))) ∧ ∃ n, w' = w.drewN n := by
  obtain ⟨ao, cap, rfl, hao, hca, q0⟩ := Row.flat h
  obtain ⟨bo, cap', rfl, hbo, hcb, q0'⟩ := Row.flat h'
  unfold maxLen at hca hcb
  have HP := hid h
  have HQ := hid h'
  clear h h' q0 q0'
  by_cases hl : a.length = b.length
  · have hle : ((a.length : Int) != b.length) = false := by simp; omega
    go_enter Tryz.func15, Tryz.ntmps15
    go_wp2
    go_loopw [5] (fun i wr => ∃ k : Nat, k ≤ a.length ∧ i = .int .i64 k ∧ a.take k = b.take k ∧ ∃ n, wr = w.drewN n) (fun i _ => a.length - (intOf i).toNat)
    case atStart => exact ⟨0, Nat.zero_le _, rfl, rfl, 0, rfl⟩
    case round =>
      obtain ⟨k, hk, rfl, ht, n, hw⟩ := hrel
      have HT := hid ht
      have HW := hid hw
      have hkp : Kp w wr := by rw [hw]; exact Kp.drewN _ _
      clear ht hw
      by_cases hlt : k < a.length
      · have hlt' : k < b.length := by omega
        obtain ⟨g, off, c, p, a1, c1, rfl, hm1, hc0, hc1, hms, hr1, hr2, hl1, hl2⟩ := (HP.out.kp hkp).at hlt
        obtain ⟨g', off', d, q, b1, d1, rfl, hn1, hd0, hd1, hns, hr3, hr4, hl3, hl4⟩ := (HQ.out.kp hkp).at hlt'
        have HX := hid hm1
        have HY := hid hn1
        have HM1 := hid hms
        have HM2 := hid hns
        have HNo : Hid (¬ (c, p) = (d, q) → decide (a = b) = false) := by
          intro hne
          rw [decide_eq_false_iff_not]
          intro hab
          rw [hab] at hm1
          exact hne (Option.some.inj (hm1.symm.trans hn1))
        clear hm1 hn1 hms hns hkp
        by_cases hcd : c = d
        · subst hcd
          have hcc : (c != c) = false := by simp
          by_cases hpq : p = q
          · have HEq : Hid (decide (p = q) = true) := decide_eq_true hpq
            have HPQ := hid hpq
            clear hpq
            go_wp2
            go_quiet ((go_at_call 18; exact Calls.quiet_of (same12_at _ _ _ p q _ HEq.out (HM1.out.kp (Kp.drewN _ _)) (HM2.out.kp (Kp.drewN _ _)))))
            go_wp2
            go_roundw
            case rel => exact ⟨k + 1, by omega, by go_num, by rw [take_get HX.out, take_get HY.out, HT.out, HPQ.out], drawn_of12 HW.out _⟩
            case measure => simp [intOf] <;> omega
          · have HEq : Hid (decide (p = q) = false) := decide_eq_false hpq
            have HF : Hid (decide (a = b) = false) := HNo.out (fun e => hpq (congrArg Prod.snd e))
            clear hpq
            go_wp2
            go_quiet ((go_at_call 18; exact Calls.quiet_of (same12_at _ _ _ p q _ HEq.out (HM1.out.kp (Kp.drewN _ _)) (HM2.out.kp (Kp.drewN _ _)))))
            go_wp2
            go_ret
            exact ⟨ret1b HF.out.symm, drawn_of12 HW.out _⟩
        · have hne : (c != d) = true := by rw [bne_iff_ne]; exact hcd
          have HF : Hid (decide (a = b) = false) := HNo.out (fun e => hcd (congrArg Prod.fst e))
          go_wp2
          go_quiet (fail)
          go_wp2
          go_ret
          exact ⟨ret1b HF.out.symm, drawn_of12 HW.out _⟩
      · have HF : Hid (decide (a = b) = true) := by
          have := HT.out
          rw [List.take_of_length_le (by omega), List.take_of_length_le (by omega)] at this
          exact decide_eq_true this
        go_wp2
        go_ret
        exact ⟨ret1b HF.out.symm, n, HW.out⟩
  · have hle : ((a.length : Int) != b.length) = true := by rw [bne_iff_ne]; omega
    have HF : Hid (decide (a = b) = false) := decide_eq_false (fun e => hl (by rw [e]))
    go_enter Tryz.func15, Tryz.ntmps15
    go_wp2
    go_ret
    exact ⟨ret1b HF.out.symm, 0, rfl⟩

end Go.Proofs.YtlaenbdlgpepkaaGreatDoor

/- InterpChecks walked. -/
namespace Go.Proofs.YtlaenbdlgpepkaaGreatDoor
open Go.RowKit Go.Maps Go.BigFrame

/-- The examples come out true. -/
def Shown12 : Prop := ∀ w : World, Tabs w → Calls Tryz.prog 9 #[] w fun e w' => e = .returned (.bool true) ∧ Below w.heap.size w w'

theorem ElsO.ins {w : World} {base b : Nat} {v : Value} {cs : List (Int × Value)} {l : List Ip} (he : ElsO w b cs l) (h : OwN w base v cs) : Ins w v l := h.ins he.els

set_option maxRecDepth 100000 in
set_option maxHeartbeats 3200000 in
theorem interpChecks_any (hsh : Shown12) (sv lv : Value) (sig : List Sy) (l : List Ip) (w : World) (hs : Sg w sv sig) (hl : Ins w lv l) (hT : Tabs w) (hf : FitN 140737488351232 l) :
    Calls Tryz.prog 3 #[sv, lv] w fun e w' => e = .returned (.bool true) ∧ Below w.heap.size w w' := by
  obtain ⟨so, sc, rfl, hso, hsc, _⟩ := Row.flat hs
  obtain ⟨lo, lc, rfl, hlo, hlc, _⟩ := Row.flat hl
  have HSh := hid hsh
  have HS := hid hs
  have HL := hid hl
  have HT := hid hT
  have HF := hid hf
  clear hs hl hT hsh hf
  go_enter Tryz.func3, Tryz.ntmps3
  go_wp2_with fail
  refine (HSh.out w HT.out).mono ?_
  rintro e w1 ⟨rfl, hb1⟩
  have B1 := hid hb1
  clear hb1
  go_wp2_with fail
  refine (copied12_any _ l w1 (HL.out.kp (Kp.of_below B1.out)) HF.out).mono ?_
  rintro e w2 ⟨ov, cs, rfl, ho, he, hb2⟩
  have B2 := hid (below_step B1.out hb2)
  have HO := hid (he.ins ho)
  obtain ⟨oa, oc, rfl, _, _⟩ := ho.slice
  clear ho he hb2 B1
  go_wp2_with fail
  refine (inCheck_any _ _ sig l w2 (HS.out.kp (Kp.of_below B2.out)) HO.out (HT.out.below B2.out)).mono ?_
  rintro e w3 ⟨rfl, hb3⟩
  have B3 := hid (below_step B2.out hb3)
  have HO3 := hid (HO.out.kp (Kp.of_below hb3))
  clear hb3 HO B2
  go_wp2_with fail
  refine (refCheck12_any _ _ sig l w3 (HS.out.kp (Kp.of_below B3.out)) (HL.out.kp (Kp.of_below B3.out))).mono ?_
  rintro e w4 ⟨rfl, hb4⟩
  have B4 := hid (below_step B3.out hb4)
  have HO4 := hid (HO3.out.kp (Kp.of_below hb4))
  clear hb4 HO3 B3
  generalize inE sig l = z
  go_wp2_with fail
  refine (strict_any _ _ sig l w4 (HS.out.kp (Kp.of_below B4.out)) HO4.out (HT.out.below B4.out)).mono ?_
  rintro e w5 ⟨rfl, hb5⟩
  have B5 := hid (below_step B4.out hb5)
  have HO5 := hid (HO4.out.kp (Kp.of_below hb5))
  clear hb5 HO4 B4
  go_wp2_with fail
  refine (refStrict12_any _ _ sig l w5 (HS.out.kp (Kp.of_below B5.out)) (HL.out.kp (Kp.of_below B5.out))).mono ?_
  rintro e w6 ⟨rfl, hb6⟩
  have B6 := hid (below_step B5.out hb6)
  have HO6 := hid (HO5.out.kp (Kp.of_below hb6))
  clear hb6 HO5 B5
  generalize strB sig l = b
  have hbb : (b == b) = true := by simp
  go_wp2_with fail
  refine (sameAll12_any _ _ l l w6 HO6.out (HL.out.kp (Kp.of_below B6.out))).mono ?_
  rintro e w7 ⟨rfl, n7, hw7⟩
  have B7 := hid (below_step B6.out (drawn_below hw7))
  have hd : decide (l = l) = true := decide_eq_true rfl
  rw [hd]
  clear hw7 hd
  go_wp2
  go_ret
  exact ⟨rfl, B7.out⟩

end Go.Proofs.YtlaenbdlgpepkaaGreatDoor
