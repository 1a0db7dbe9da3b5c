/- What AtLeast and Greater answer. -/
import Derived.Test.YtfifgmcjilkigaaPVal
namespace Go.Proofs.Ytfifgmcjilkigaa
open Go.RowKit Go.Maps

/-- What of p is left for a monomial of q. -/
def leftP (m : Mn) : List Mn → List Mn
  | [] => []
  | x :: r => if cmpX x.2 m.2 < 0 then leftP m r else x :: r

def atGo : List Mn → List Mn → Bool
  | _, [] => true
  | p, m :: q =>
    match leftP m p with
    | [] => false
    | x :: r => if x.2 = m.2 then if 0 < cmpV m.1 x.1 then false else atGo (x :: r) q else false

def atLeastB (p q : List Mn) : Bool := if checkAllE [p, q] = 0 then atGo p q else false
def greaterB (p q : List Mn) : Bool := atLeastB p q && decide (0 < cmpV (constL p) (constL q))

theorem Ms.tail {w : World} {g off n cap : Nat} {m : Mn} {r : List Mn} (h : Ms w (.slice (some ⟨g, off, none⟩) n cap) (m :: r)) : Ms w (.slice (some ⟨g, off + 2, none⟩) r.length (cap - 1)) r := by
  obtain ⟨ao, cap', hv, hc, hm, hx⟩ := h
  simp only [Value.slice.injEq] at hv
  obtain ⟨hao, hn, rfl⟩ := hv
  simp only [List.length_cons] at hc
  refine ⟨_, _, rfl, by omega, by omega, fun h0 => ⟨g, off + 2, rfl, ?_, ?_⟩⟩
  · obtain ⟨g', off', e, hg, _⟩ := hx (by simp)
    rw [← hao] at e
    cases e
    exact hg
  · obtain ⟨g', off', e, hg, hk⟩ := hx (by simp)
    rw [← hao] at e
    cases e
    intro k x hxk
    have := hk (k + 1) x hxk
    rwa [show off + (k + 1) * 2 = off + 2 + k * 2 by omega] at this

set_option maxRecDepth 100000 in
set_option maxHeartbeats 1000000 in
theorem atLeast_any (v u : Value) (p q : List Mn) (w : World) (h : Ms w v p) (h' : Ms w u q) :
    Calls Try.prog 16 #[v, u] w fun e w' => e = .returned (.bool (atLeastB p q)) ∧ Below w.heap.size w w' := by
  obtain ⟨ao, cap, rfl, hao, hca, q0⟩ := Row.flat h
  obtain ⟨bo, cap', rfl, hbo, hcb, q0'⟩ := Row.flat h'
  unfold maxLen at hca hcb
  have HA : Hid (Ms w (.slice ao p.length cap) p) := h
  have HQ : Hid (Ms w (.slice bo q.length cap') q) := h'
  have HP : Hid _ := ps2 h h'
  clear h h' q0 q0'
  go_enter Try.func16, Try.ntmps16
  go_wp2_with fail
  refine (checkAll_any _ [p, q] _ HP.out).mono ?_
  rintro e w1 ⟨rfl, hb1⟩
  have HB1 : Hid (Below w.heap.size w w1) := below_step (below_alloc _) hb1
  obtain ⟨E, hE⟩ : ∃ E, E = checkAllE [p, q] := ⟨_, rfl⟩
  have HE : Hid (E = checkAllE [p, q]) := hE
  rw [← hE]
  clear hE hb1 HP
  by_cases hE0 : E = 0
  case neg =>
    have hb0 : (E != 0) = true := by rw [bne_iff_ne]; exact hE0
    have HC : Hid (atLeastB p q = false) := by
      show _ = _
      unfold atLeastB
      rw [if_neg (by rw [← HE.out]; exact hE0)]
    go_wp2
    go_ret
    exact ⟨ret1b HC.out.symm, HB1.out⟩
  subst hE0
  have HC : Hid (atLeastB p q = atGo p q) := by
    show _ = _
    unfold atLeastB
    rw [if_pos HE.out.symm]
  go_wp2
  go_loopw [0, 14] (fun x i wr => ∃ (l : Nat) (pc : List Mn), l ≤ q.length ∧ i = .int .i64 l ∧ Ms wr x pc ∧ atGo p q = atGo pc (q.drop l) ∧ Below w.heap.size w wr) (fun _ i _ => q.length - (intOf i).toNat)
  case atStart => exact ⟨0, p, by omega, rfl, HA.out.kp (Kp.of_below HB1.out), rfl, HB1.out⟩
  case round =>
    obtain ⟨l, pc, hl, rfl, hms, hat, hbl⟩ := hrel
    have HMs : Hid (Ms wr u0 pc) := hms
    have HAt : Hid (atGo p q = atGo pc (q.drop l)) := hat
    have HBl : Hid (Below w.heap.size w wr) := hbl
    clear hms hat hbl
    by_cases hll : l < q.length
    · obtain ⟨g', off', d, fs, b1, d1, b2, d2, rfl, hn1, he0, he1, hmn, hj1, hj2, hj3, hj4⟩ := (HQ.out.kp (Kp.of_below HBl.out)).at hll
      have HY : Hid (q[l]? = some (d, fs)) := hn1
      have hba := below_alloc (w := wr) (.cells #[.slice b1 d.length d1, .slice b2 fs.length d2] 46)
      obtain ⟨wb, hwb⟩ : ∃ wb, wb = wr.alloc (.cells #[.slice b1 d.length d1, .slice b2 fs.length d2] 46) := ⟨_, rfl⟩
      have hd0 : wb.cell? ⟨wr.heap.size, 0, none⟩ = some (.slice b1 d.length d1) := by rw [hwb]; simp
      have hd1 : wb.cell? ⟨wr.heap.size, 1, none⟩ = some (.slice b2 fs.length d2) := by rw [hwb]; simp
      have HMn : Hid (Mo wb (.slice b1 d.length d1) (.slice b2 fs.length d2) (d, fs)) := by rw [hwb]; exact hmn.kp (Kp.of_below hba)
      have HMb : Hid (Ms wb u0 pc) := by rw [hwb]; exact HMs.out.kp (Kp.of_below hba)
      have HBb : Hid (Below w.heap.size w wb) := by rw [hwb]; exact below_step HBl.out hba
      have HWb : Hid (wb = wr.alloc (.cells #[.slice b1 d.length d1, .slice b2 fs.length d2] 46)) := hwb
      obtain ⟨G6, hG6⟩ : ∃ G6, G6 = wr.heap.size := ⟨_, rfl⟩
      clear hn1 hmn hba hwb
      go_wp2
      rw [← HWb.out, ← hG6]
      rw [← hG6] at hd0 hd1
      clear hG6 HWb
      go_loopw [0] (fun x ws => ∃ pd : List Mn, Ms ws x pd ∧ leftP (d, fs) pc = leftP (d, fs) pd ∧ ∃ n, ws = wb.drewN n) (fun x _ => lenOfV x)
      case atStart => exact ⟨pc, HMb.out, rfl, 0, rfl⟩
      case round =>
        obtain ⟨pd, hmd, hlp, n, hws⟩ := hrel
        have HLp : Hid (leftP (d, fs) pc = leftP (d, fs) pd) := hlp
        have HWs : Hid (∃ n, wr = wb.drewN n) := ⟨n, hws⟩
        have hw0 : wr.cell? ⟨G6, 0, none⟩ = some (.slice b1 d.length d1) := by rw [hws]; exact hd0
        have hw1 : wr.cell? ⟨G6, 1, none⟩ = some (.slice b2 fs.length d2) := by rw [hws]; exact hd1
        have HBw : Hid (Below w.heap.size w wr) := by rw [hws]; exact below_drewN HBb.out n
        have HIf : Hid (Is wr (.slice b2 fs.length d2) fs) := by rw [hws]; exact HMn.out.2
        have HSd : Hid (Sl wr (.slice b1 d.length d1) d) := by rw [hws]; exact HMn.out.1
        clear hlp hws hd0 hd1
        cases pd with
        | nil =>
          obtain ⟨ao1, cap1, rfl, hc1, hc2, _⟩ := Row.flat hmd
          simp only [List.length_nil]
          have HF : Hid (atLeastB p q = false) := by
            show _ = _
            rw [HC.out, HAt.out, drop_get HY.out, atGo, HLp.out]
            rfl
          clear hmd
          go_wp2
          go_quiet (fail)
          go_wp2
          go_quiet (fail)
          go_wp2
          go_ret
          exact ⟨ret1b HF.out.symm, below_drewN (below_drewN HBw.out _) _⟩
        | cons x r =>
          obtain ⟨ao1, cap1, rfl, hc1, hc2, q1⟩ := Row.flat hmd
          clear q1
          obtain ⟨c, es⟩ := x
          obtain ⟨g, off, c', es', a1, c3, a2, c2, rfl, hm1, hx0, hx1, hmo, hl1, hl2, hl3, hl4⟩ := hmd.at (k := 0) (by simp)
          simp only [List.getElem?_cons_zero, Option.some.injEq, Prod.mk.injEq] at hm1
          obtain ⟨rfl, rfl⟩ := hm1
          rw [Nat.zero_mul, Nat.add_zero] at hx0 hx1
          unfold maxLen at hc2
          have HTl : Hid (Ms wr (.slice (some ⟨g, off + 2, none⟩) r.length (cap1 - 1)) r) := hmd.tail
          have HMd : Hid (Ms wr (.slice (some ⟨g, off, none⟩) (r.length + 1) cap1) ((c, es) :: r)) := hmd
          have HIs : Hid (Is wr (.slice a2 es.length c2) es) := hmo.2
          have HSc : Hid (Sl wr (.slice a1 c.length c3) c) := hmo.1
          simp only [List.length_cons] at hc1 ⊢
          have hrl : (0 : Int) < (r.length : Int) + 1 := by omega
          have hrb : ((r.length : Int) + 1 == 0) = false := by rw [beq_eq_false_iff_ne]; omega
          clear hmd hmo
          cases hcf : decide (cmpX es fs < 0)
          · have HCf : Hid (decide (cmpX es fs < 0) = false) := hcf
            have hne := of_decide_eq_false hcf
            have HLe : Hid (leftP (d, fs) pc = (c, es) :: r) := by
              show _ = _
              rw [HLp.out, leftP, if_neg hne]
            clear hcf hne
            go_wp2
            go_quiet ((go_at_call 39; exact Calls.quiet_of_same (HCf.out ▸ comesFirst_any _ _ es fs _ (HIs.out.kp (Kp.drewN _ _)) (HIf.out.kp (Kp.drewN _ _)))))
            go_wp2
            obtain ⟨wq, hwq⟩ : ∃ wq, wq = wr.drewN nq := ⟨_, rfl⟩
            have hq0 : wq.cell? ⟨g, off, none⟩ = some (.slice a1 c.length c3) := by rw [hwq]; exact hx0
            have hq1 : wq.cell? ⟨g, off + 1, none⟩ = some (.slice a2 es.length c2) := by rw [hwq]; exact hx1
            have hq2 : wq.cell? ⟨G6, 0, none⟩ = some (.slice b1 d.length d1) := by rw [hwq]; exact hw0
            have hq3 : wq.cell? ⟨G6, 1, none⟩ = some (.slice b2 fs.length d2) := by rw [hwq]; exact hw1
            have HIsq : Hid (Is wq (.slice a2 es.length c2) es) := by rw [hwq]; exact HIs.out
            have HIfq : Hid (Is wq (.slice b2 fs.length d2) fs) := by rw [hwq]; exact HIf.out
            have HScq : Hid (Sl wq (.slice a1 c.length c3) c) := by rw [hwq]; exact HSc.out
            have HSdq : Hid (Sl wq (.slice b1 d.length d1) d) := by rw [hwq]; exact HSd.out
            have HMdq : Hid (Ms wq (.slice (some ⟨g, off, none⟩) (r.length + 1) cap1) ((c, es) :: r)) := by rw [hwq]; exact HMd.out
            have HBq : Hid (Below w.heap.size w wq) := by rw [hwq]; exact below_drewN HBw.out _
            rw [← hwq]
            clear hwq hx0 hx1 hw0 hw1
            by_cases heq : es = fs
            · have HEq : Hid (decide (es = fs) = true) := decide_eq_true heq
              have HEq0 : Hid (es = fs) := heq
              clear heq
              cases hab : decide (0 < cmpV d c)
              · have HAb : Hid (decide (0 < cmpV d c) = false) := hab
                have hna := of_decide_eq_false hab
                have HNx : Hid (atGo p q = atGo ((c, es) :: r) (q.drop (l + 1))) := by
                  show _ = _
                  rw [HAt.out, drop_get HY.out, atGo, HLe.out]
                  simp only
                  rw [if_pos HEq0.out, if_neg hna]
                clear hab hna
                go_quiet (first
                  | (go_at_call 40; exact Calls.quiet_of (HEq.out ▸ slicesEqual_any _ _ es fs _ (HIsq.out.kp (Kp.drewN _ _)) (HIfq.out.kp (Kp.drewN _ _))))
                  | (go_at_call 41; exact Calls.quiet_of (HAb.out ▸ isAbove_any _ _ d c _ (HSdq.out.kp (Kp.drewN _ _)) (HScq.out.kp (Kp.drewN _ _)))))
                go_wp2
                go_roundw
                case rel => exact ⟨l + 1, (c, es) :: r, by omega, by go_num, HMdq.out.kp (Kp.drewN _ _), HNx.out, below_drewN HBq.out _⟩
                case measure => simp [intOf]; omega
              · have HAb : Hid (decide (0 < cmpV d c) = true) := hab
                have hna := of_decide_eq_true hab
                have HF : Hid (atLeastB p q = false) := by
                  show _ = _
                  rw [HC.out, HAt.out, drop_get HY.out, atGo, HLe.out]
                  simp only
                  rw [if_pos HEq0.out, if_pos hna]
                clear hab hna
                go_quiet (first
                  | (go_at_call 40; exact Calls.quiet_of (HEq.out ▸ slicesEqual_any _ _ es fs _ (HIsq.out.kp (Kp.drewN _ _)) (HIfq.out.kp (Kp.drewN _ _))))
                  | (go_at_call 41; exact Calls.quiet_of (HAb.out ▸ isAbove_any _ _ d c _ (HSdq.out.kp (Kp.drewN _ _)) (HScq.out.kp (Kp.drewN _ _)))))
                go_wp2
                go_ret
                exact ⟨ret1b HF.out.symm, below_drewN HBq.out _⟩
            · have HEq : Hid (decide (es = fs) = false) := decide_eq_false heq
              have HF : Hid (atLeastB p q = false) := by
                show _ = _
                rw [HC.out, HAt.out, drop_get HY.out, atGo, HLe.out]
                simp only
                rw [if_neg heq]
              clear heq
              go_quiet ((go_at_call 40; exact Calls.quiet_of (HEq.out ▸ slicesEqual_any _ _ es fs _ (HIsq.out.kp (Kp.drewN _ _)) (HIfq.out.kp (Kp.drewN _ _)))))
              go_wp2
              go_ret
              exact ⟨ret1b HF.out.symm, below_drewN HBq.out _⟩
          · have HCf : Hid (decide (cmpX es fs < 0) = true) := hcf
            have hlt := of_decide_eq_true hcf
            have HLp2 : Hid (leftP (d, fs) pc = leftP (d, fs) r) := by
              show _ = _
              rw [HLp.out, leftP, if_pos hlt]
            clear hcf hlt
            go_wp2
            go_quiet ((go_at_call 39; exact Calls.quiet_of_same (HCf.out ▸ comesFirst_any _ _ es fs _ (HIs.out.kp (Kp.drewN _ _)) (HIf.out.kp (Kp.drewN _ _)))))
            go_wp2
            refine ⟨⟨r, ?_, HLp2.out, ?_⟩, by simp [lenOfV]⟩
            · by_cases hcp : cap1 = 1
              · rw [if_pos hcp]
                obtain rfl : r = [] := List.eq_nil_of_length_eq_zero (by omega)
                exact Row.nil (by unfold maxLen; omega)
              · rw [if_neg hcp]
                exact HTl.out.kp (Kp.drewN _ _)
            · obtain ⟨m, hm⟩ := HWs.out
              exact ⟨_, by rw [hm]; exact World.drewN_drewN _ _ _⟩
    · have hle : l = q.length := by omega
      subst hle
      have HF : Hid (atLeastB p q = true) := by
        show _ = _
        rw [HC.out, HAt.out, List.drop_of_length_le (Nat.le_refl _)]
        simp [atGo]
      go_wp2
      go_ret
      exact ⟨ret1b HF.out.symm, HBl.out⟩

set_option maxRecDepth 100000 in
theorem greater_any (v u : Value) (p q : List Mn) (w : World) (h : Ms w v p) (h' : Ms w u q) :
    Calls Try.prog 18 #[v, u] w fun e w' => e = .returned (.bool (greaterB p q)) ∧ Below w.heap.size w w' := by
  have HA : Hid (Ms w v p) := h
  have HB : Hid (Ms w u q) := h'
  go_enter Try.func18, Try.ntmps18
  go_wp2_with fail
  refine (atLeast_any _ _ p q _ h h').mono ?_
  rintro e w1 ⟨rfl, hb1⟩
  have HB1 : Hid (Below w.heap.size w w1) := hb1
  clear hb1 h h'
  cases ha : atLeastB p q
  · have HG : Hid (greaterB p q = false) := by
      show _ = _
      unfold greaterB
      rw [ha]
      rfl
    clear ha
    go_wp2
    go_ret
    exact ⟨ret1b HG.out.symm, HB1.out⟩
  · have HG : Hid (greaterB p q = decide (0 < cmpV (constL p) (constL q))) := by
      show _ = _
      unfold greaterB
      rw [ha, Bool.true_and]
    clear ha
    go_wp2_with fail
    refine (constant_any _ p _ (HA.out.kp (Kp.of_below HB1.out))).mono ?_
    rintro e w9 ⟨v3, rfl, hs3, hw9⟩
    have hw8 := hw9.symm
    subst hw8
    have HS3 : Hid (Sl w1 v3 (constL p)) := hs3
    clear hw9 hs3
    go_wp2_with fail
    refine (constant_any _ q _ (HB.out.kp (Kp.of_below HB1.out))).mono ?_
    rintro e w9 ⟨v4, rfl, hs4, hw9⟩
    have hw8 := hw9.symm
    subst hw8
    have HS4 : Hid (Sl w1 v4 (constL q)) := hs4
    clear hw9 hs4
    go_wp2_with fail
    refine (isAbove_any _ _ (constL p) (constL q) _ HS3.out HS4.out).mono ?_
    rintro e w9 ⟨rfl, n, rfl⟩
    obtain ⟨B, hB⟩ : ∃ B, B = decide (0 < cmpV (constL p) (constL q)) := ⟨_, rfl⟩
    have HBB : Hid (B = decide (0 < cmpV (constL p) (constL q))) := hB
    rw [← hB]
    clear hB
    go_wp2
    go_ret
    exact ⟨ret1b (HBB.out.trans HG.out.symm), below_drewN HB1.out _⟩

end Go.Proofs.Ytfifgmcjilkigaa
