/- Texts of the proof, one behind the other. -/
import Derived.Test.YtdjmjhlbjcgoiaaGreatDoorOwn9
import Derived.Test.YtdjmjhlbjcgoiaaGreatDoorRows
import Derived.ProofKit
import Derived.OpenShut
import Derived.ShutString
import Derived.ChangeOld
import Derived.Deep.Slices
import Derived.Deep.SlicePairs
import Derived.SizedLaws
import Derived.Deep.Upon
/- What AtLeast and Greater answer. -/
namespace Go.Proofs.YtdjmjhlbjcgoiaaGreatDoor
open Go.RowKit Go.Maps

/-- What of p is left for a monomial of q. -/
def leftP (m : Mn) : List Mn → List Mn
  | [] => []
  | x :: r => if cmpX x.2 m.2 < 0 then leftP m r else x :: r

def atGo : List Mn → List Mn → Bool
  | _, [] => true
  | p, m :: q =>
    match leftP m p with
    | [] => false
    | x :: r => if x.2 = m.2 then if 0 < cmpV m.1 x.1 then false else atGo (x :: r) q else false

def atLeastB (p q : List Mn) : Bool := if checkAllE [p, q] = 0 then atGo p q else false

def greaterB (p q : List Mn) : Bool := atLeastB p q && decide (0 < cmpV (constL p) (constL q))

theorem Ms.tail {w : World} {g off n cap : Nat} {m : Mn} {r : List Mn} (h : Ms w (.slice (some ⟨g, off, none⟩) n cap) (m :: r)) : Ms w (.slice (some ⟨g, off + 2, none⟩) r.length (cap - 1)) r := by
  obtain ⟨ao, cap', hv, hc, hm, hx⟩ := h
  simp only [Value.slice.injEq] at hv
  obtain ⟨hao, hn, rfl⟩ := hv
  simp only [List.length_cons] at hc
  refine ⟨_, _, rfl, by omega, by omega, fun h0 => ⟨g, off + 2, rfl, ?_, ?_⟩⟩
  · obtain ⟨g', off', e, hg, _⟩ := hx (by simp)
    rw [← hao] at e
    cases e
    exact hg
  · obtain ⟨g', off', e, hg, hk⟩ := hx (by simp)
    rw [← hao] at e
    cases e
    intro k x hxk
    have := hk (k + 1) x hxk
    rwa [show off + (k + 1) * 2 = off + 2 + k * 2 by omega] at this

set_option maxRecDepth 100000 in
set_option maxHeartbeats 1000000 in
theorem atLeast_any (v u : Value) (p q : List Mn) (w : World) (h : Ms w v p) (h' : Ms w u q) :
    Calls Tryz.prog 52 #[v, u] w fun e w' => e = .returned (.bool (atLeastB p q)) ∧ Below w.heap.size w w' := by
  obtain ⟨ao, cap, rfl, hao, hca, q0⟩ := Row.flat h
  obtain ⟨bo, cap', rfl, hbo, hcb, q0'⟩ := Row.flat h'
  unfold maxLen at hca hcb
  have HA : Hid (Ms w (.slice ao p.length cap) p) := h
  have HQ : Hid (Ms w (.slice bo q.length cap') q) := h'
  have HP : Hid _ := ps2 h h'
  clear h h' q0 q0'
  go_enter Tryz.func52, Tryz.ntmps52
  go_wp2_with fail
  refine (checkAll_any _ [p, q] _ HP.out).mono ?_
  rintro e w1 ⟨rfl, hb1⟩
  have HB1 : Hid (Below w.heap.size w w1) := below_step (below_alloc _) hb1
  obtain ⟨E, hE⟩ : ∃ E, E = checkAllE [p, q] := ⟨_, rfl⟩
  have HE : Hid (E = checkAllE [p, q]) := hE
  rw [← hE]
  clear hE hb1 HP
  by_cases hE0 : E = 0
  case neg =>
    have hb0 : (E != 0) = true := by rw [bne_iff_ne]; exact hE0
    have HC : Hid (atLeastB p q = false) := by
      show _ = _
      unfold atLeastB
      rw [if_neg (by rw [← HE.out]; exact hE0)]
    go_wp2
    go_ret
    exact ⟨ret1b HC.out.symm, HB1.out⟩
  subst hE0
  have HC : Hid (atLeastB p q = atGo p q) := by
    show _ = _
    unfold atLeastB
    rw [if_pos HE.out.symm]
  go_wp2
  go_loopw [0, 14] (fun x i wr => ∃ (l : Nat) (pc : List Mn), l ≤ q.length ∧ i = .int .i64 l ∧ Ms wr x pc ∧ atGo p q = atGo pc (q.drop l) ∧ Below w.heap.size w wr) (fun _ i _ => q.length - (intOf i).toNat)
  case atStart => exact ⟨0, p, by omega, rfl, HA.out.kp (Kp.of_below HB1.out), rfl, HB1.out⟩
  case round =>
    obtain ⟨l, pc, hl, rfl, hms, hat, hbl⟩ := hrel
    have HMs : Hid (Ms wr u0 pc) := hms
    have HAt : Hid (atGo p q = atGo pc (q.drop l)) := hat
    have HBl : Hid (Below w.heap.size w wr) := hbl
    clear hms hat hbl
    by_cases hll : l < q.length
    · obtain ⟨g', off', d, fs, b1, d1, b2, d2, rfl, hn1, he0, he1, hmn, hj1, hj2, hj3, hj4⟩ := (HQ.out.kp (Kp.of_below HBl.out)).at hll
      have HY : Hid (q[l]? = some (d, fs)) := hn1
      have hba := below_alloc (w := wr) (.cells #[.slice b1 d.length d1, .slice b2 fs.length d2] 37)
      obtain ⟨wb, hwb⟩ : ∃ wb, wb = wr.alloc (.cells #[.slice b1 d.length d1, .slice b2 fs.length d2] 37) := ⟨_, rfl⟩
      have hd0 : wb.cell? ⟨wr.heap.size, 0, none⟩ = some (.slice b1 d.length d1) := by rw [hwb]; simp
      have hd1 : wb.cell? ⟨wr.heap.size, 1, none⟩ = some (.slice b2 fs.length d2) := by rw [hwb]; simp
      have HMn : Hid (Mo wb (.slice b1 d.length d1) (.slice b2 fs.length d2) (d, fs)) := by rw [hwb]; exact hmn.kp (Kp.of_below hba)
      have HMb : Hid (Ms wb u0 pc) := by rw [hwb]; exact HMs.out.kp (Kp.of_below hba)
      have HBb : Hid (Below w.heap.size w wb) := by rw [hwb]; exact below_step HBl.out hba
      have HWb : Hid (wb = wr.alloc (.cells #[.slice b1 d.length d1, .slice b2 fs.length d2] 37)) := hwb
      obtain ⟨G6, hG6⟩ : ∃ G6, G6 = wr.heap.size := ⟨_, rfl⟩
      clear hn1 hmn hba hwb
      go_wp2
      rw [← HWb.out, ← hG6]
      rw [← hG6] at hd0 hd1
      clear hG6 HWb
      go_loopw [0] (fun x ws => ∃ pd : List Mn, Ms ws x pd ∧ leftP (d, fs) pc = leftP (d, fs) pd ∧ ∃ n, ws = wb.drewN n) (fun x _ => lenOfV x)
      case atStart => exact ⟨pc, HMb.out, rfl, 0, rfl⟩
      case round =>
        obtain ⟨pd, hmd, hlp, n, hws⟩ := hrel
        have HLp : Hid (leftP (d, fs) pc = leftP (d, fs) pd) := hlp
        have HWs : Hid (∃ n, wr = wb.drewN n) := ⟨n, hws⟩
        have hw0 : wr.cell? ⟨G6, 0, none⟩ = some (.slice b1 d.length d1) := by rw [hws]; exact hd0
        have hw1 : wr.cell? ⟨G6, 1, none⟩ = some (.slice b2 fs.length d2) := by rw [hws]; exact hd1
        have HBw : Hid (Below w.heap.size w wr) := by rw [hws]; exact below_drewN HBb.out n
        have HIf : Hid (Is wr (.slice b2 fs.length d2) fs) := by rw [hws]; exact HMn.out.2
        have HSd : Hid (Sl wr (.slice b1 d.length d1) d) := by rw [hws]; exact HMn.out.1
        clear hlp hws hd0 hd1
        cases pd with
        | nil =>
          obtain ⟨ao1, cap1, rfl, hc1, hc2, _⟩ := Row.flat hmd
          simp only [List.length_nil]
          have HF : Hid (atLeastB p q = false) := by
            show _ = _
            rw [HC.out, HAt.out, drop_getY HY.out, atGo, HLp.out]
            rfl
          clear hmd
          go_wp2
          go_quiet (fail)
          go_wp2
          go_quiet (fail)
          go_wp2
          go_ret
          exact ⟨ret1b HF.out.symm, below_drewN (below_drewN HBw.out _) _⟩
        | cons x r =>
          obtain ⟨ao1, cap1, rfl, hc1, hc2, q1⟩ := Row.flat hmd
          clear q1
          obtain ⟨c, es⟩ := x
          obtain ⟨g, off, c', es', a1, c3, a2, c2, rfl, hm1, hx0, hx1, hmo, hl1, hl2, hl3, hl4⟩ := hmd.at (k := 0) (by simp)
          simp only [List.getElem?_cons_zero, Option.some.injEq, Prod.mk.injEq] at hm1
          obtain ⟨rfl, rfl⟩ := hm1
          rw [Nat.zero_mul, Nat.add_zero] at hx0 hx1
          unfold maxLen at hc2
          have HTl : Hid (Ms wr (.slice (some ⟨g, off + 2, none⟩) r.length (cap1 - 1)) r) := hmd.tail
          have HMd : Hid (Ms wr (.slice (some ⟨g, off, none⟩) (r.length + 1) cap1) ((c, es) :: r)) := hmd
          have HIs : Hid (Is wr (.slice a2 es.length c2) es) := hmo.2
          have HSc : Hid (Sl wr (.slice a1 c.length c3) c) := hmo.1
          simp only [List.length_cons] at hc1 ⊢
          have hrl : (0 : Int) < (r.length : Int) + 1 := by omega
          have hrb : ((r.length : Int) + 1 == 0) = false := by rw [beq_eq_false_iff_ne]; omega
          clear hmd hmo
          cases hcf : decide (cmpX es fs < 0)
          · have HCf : Hid (decide (cmpX es fs < 0) = false) := hcf
            have hne := of_decide_eq_false hcf
            have HLe : Hid (leftP (d, fs) pc = (c, es) :: r) := by
              show _ = _
              rw [HLp.out, leftP, if_neg hne]
            clear hcf hne
            go_wp2
            go_quiet ((go_at_call 105; exact Calls.quiet_of_same (HCf.out ▸ comesFirst_any _ _ es fs _ (HIs.out.kp (Kp.drewN _ _)) (HIf.out.kp (Kp.drewN _ _)))))
            go_wp2
            obtain ⟨wq, hwq⟩ : ∃ wq, wq = wr.drewN nq := ⟨_, rfl⟩
            have hq0 : wq.cell? ⟨g, off, none⟩ = some (.slice a1 c.length c3) := by rw [hwq]; exact hx0
            have hq1 : wq.cell? ⟨g, off + 1, none⟩ = some (.slice a2 es.length c2) := by rw [hwq]; exact hx1
            have hq2 : wq.cell? ⟨G6, 0, none⟩ = some (.slice b1 d.length d1) := by rw [hwq]; exact hw0
            have hq3 : wq.cell? ⟨G6, 1, none⟩ = some (.slice b2 fs.length d2) := by rw [hwq]; exact hw1
            have HIsq : Hid (Is wq (.slice a2 es.length c2) es) := by rw [hwq]; exact HIs.out
            have HIfq : Hid (Is wq (.slice b2 fs.length d2) fs) := by rw [hwq]; exact HIf.out
            have HScq : Hid (Sl wq (.slice a1 c.length c3) c) := by rw [hwq]; exact HSc.out
            have HSdq : Hid (Sl wq (.slice b1 d.length d1) d) := by rw [hwq]; exact HSd.out
            have HMdq : Hid (Ms wq (.slice (some ⟨g, off, none⟩) (r.length + 1) cap1) ((c, es) :: r)) := by rw [hwq]; exact HMd.out
            have HBq : Hid (Below w.heap.size w wq) := by rw [hwq]; exact below_drewN HBw.out _
            rw [← hwq]
            clear hwq hx0 hx1 hw0 hw1
            by_cases heq : es = fs
            · have HEq : Hid (decide (es = fs) = true) := decide_eq_true heq
              have HEq0 : Hid (es = fs) := heq
              clear heq
              cases hab : decide (0 < cmpV d c)
              · have HAb : Hid (decide (0 < cmpV d c) = false) := hab
                have hna := of_decide_eq_false hab
                have HNx : Hid (atGo p q = atGo ((c, es) :: r) (q.drop (l + 1))) := by
                  show _ = _
                  rw [HAt.out, drop_getY HY.out, atGo, HLe.out]
                  simp only
                  rw [if_pos HEq0.out, if_neg hna]
                clear hab hna
                go_quiet (first
                  | (go_at_call 106; exact Calls.quiet_of (HEq.out ▸ slicesEqual_any _ _ es fs _ (HIsq.out.kp (Kp.drewN _ _)) (HIfq.out.kp (Kp.drewN _ _))))
                  | (go_at_call 103; exact Calls.quiet_of (HAb.out ▸ isAbove_any _ _ d c _ (HSdq.out.kp (Kp.drewN _ _)) (HScq.out.kp (Kp.drewN _ _)))))
                go_wp2
                go_roundw
                case rel => exact ⟨l + 1, (c, es) :: r, by omega, by go_num, HMdq.out.kp (Kp.drewN _ _), HNx.out, below_drewN HBq.out _⟩
                case measure => simp [intOf]; omega
              · have HAb : Hid (decide (0 < cmpV d c) = true) := hab
                have hna := of_decide_eq_true hab
                have HF : Hid (atLeastB p q = false) := by
                  show _ = _
                  rw [HC.out, HAt.out, drop_getY HY.out, atGo, HLe.out]
                  simp only
                  rw [if_pos HEq0.out, if_pos hna]
                clear hab hna
                go_quiet (first
                  | (go_at_call 106; exact Calls.quiet_of (HEq.out ▸ slicesEqual_any _ _ es fs _ (HIsq.out.kp (Kp.drewN _ _)) (HIfq.out.kp (Kp.drewN _ _))))
                  | (go_at_call 103; exact Calls.quiet_of (HAb.out ▸ isAbove_any _ _ d c _ (HSdq.out.kp (Kp.drewN _ _)) (HScq.out.kp (Kp.drewN _ _)))))
                go_wp2
                go_ret
                exact ⟨ret1b HF.out.symm, below_drewN HBq.out _⟩
            · have HEq : Hid (decide (es = fs) = false) := decide_eq_false heq
              have HF : Hid (atLeastB p q = false) := by
                show _ = _
                rw [HC.out, HAt.out, drop_getY HY.out, atGo, HLe.out]
                simp only
                rw [if_neg heq]
              clear heq
              go_quiet ((go_at_call 106; exact Calls.quiet_of (HEq.out ▸ slicesEqual_any _ _ es fs _ (HIsq.out.kp (Kp.drewN _ _)) (HIfq.out.kp (Kp.drewN _ _)))))
              go_wp2
              go_ret
              exact ⟨ret1b HF.out.symm, below_drewN HBq.out _⟩
          · have HCf : Hid (decide (cmpX es fs < 0) = true) := hcf
            have hlt := of_decide_eq_true hcf
            have HLp2 : Hid (leftP (d, fs) pc = leftP (d, fs) r) := by
              show _ = _
              rw [HLp.out, leftP, if_pos hlt]
            clear hcf hlt
            go_wp2
            go_quiet ((go_at_call 105; exact Calls.quiet_of_same (HCf.out ▸ comesFirst_any _ _ es fs _ (HIs.out.kp (Kp.drewN _ _)) (HIf.out.kp (Kp.drewN _ _)))))
            go_wp2
            refine ⟨⟨r, ?_, HLp2.out, ?_⟩, by simp [lenOfV]⟩
            · by_cases hcp : cap1 = 1
              · rw [if_pos hcp]
                obtain rfl : r = [] := List.eq_nil_of_length_eq_zero (by omega)
                exact Row.nil (by unfold maxLen; omega)
              · rw [if_neg hcp]
                exact HTl.out.kp (Kp.drewN _ _)
            · obtain ⟨m, hm⟩ := HWs.out
              exact ⟨_, by rw [hm]; exact World.drewN_drewN _ _ _⟩
    · have hle : l = q.length := by omega
      subst hle
      have HF : Hid (atLeastB p q = true) := by
        show _ = _
        rw [HC.out, HAt.out, List.drop_of_length_le (Nat.le_refl _)]
        simp [atGo]
      go_wp2
      go_ret
      exact ⟨ret1b HF.out.symm, HBl.out⟩

set_option maxRecDepth 100000 in
theorem greater_any (v u : Value) (p q : List Mn) (w : World) (h : Ms w v p) (h' : Ms w u q) :
    Calls Tryz.prog 51 #[v, u] w fun e w' => e = .returned (.bool (greaterB p q)) ∧ Below w.heap.size w w' := by
  have HA : Hid (Ms w v p) := h
  have HB : Hid (Ms w u q) := h'
  go_enter Tryz.func51, Tryz.ntmps51
  go_wp2_with fail
  refine (atLeast_any _ _ p q _ h h').mono ?_
  rintro e w1 ⟨rfl, hb1⟩
  have HB1 : Hid (Below w.heap.size w w1) := hb1
  clear hb1 h h'
  cases ha : atLeastB p q
  · have HG : Hid (greaterB p q = false) := by
      show _ = _
      unfold greaterB
      rw [ha]
      rfl
    clear ha
    go_wp2
    go_ret
    exact ⟨ret1b HG.out.symm, HB1.out⟩
  · have HG : Hid (greaterB p q = decide (0 < cmpV (constL p) (constL q))) := by
      show _ = _
      unfold greaterB
      rw [ha, Bool.true_and]
    clear ha
    go_wp2_with fail
    refine (constant_any _ p _ (HA.out.kp (Kp.of_below HB1.out))).mono ?_
    rintro e w9 ⟨v3, rfl, hs3, hw9⟩
    have hw8 := hw9.symm
    subst hw8
    have HS3 : Hid (Sl w1 v3 (constL p)) := hs3
    clear hw9 hs3
    go_wp2_with fail
    refine (constant_any _ q _ (HB.out.kp (Kp.of_below HB1.out))).mono ?_
    rintro e w9 ⟨v4, rfl, hs4, hw9⟩
    have hw8 := hw9.symm
    subst hw8
    have HS4 : Hid (Sl w1 v4 (constL q)) := hs4
    clear hw9 hs4
    go_wp2_with fail
    refine (isAbove_any _ _ (constL p) (constL q) _ HS3.out HS4.out).mono ?_
    rintro e w9 ⟨rfl, n, rfl⟩
    obtain ⟨B, hB⟩ : ∃ B, B = decide (0 < cmpV (constL p) (constL q)) := ⟨_, rfl⟩
    have HBB : Hid (B = decide (0 < cmpV (constL p) (constL q))) := hB
    rw [← hB]
    clear hB
    go_wp2
    go_ret
    exact ⟨ret1b (HBB.out.trans HG.out.symm), below_drewN HB1.out _⟩

end Go.Proofs.YtdjmjhlbjcgoiaaGreatDoor

/- The document's small calls of layer 2, and sameNat of the law file. -/
namespace Go.Proofs.YtdjmjhlbjcgoiaaGreatDoor
open Go.RowKit Go.Maps

/-- A variable's exponent. -/
def expI (es : List Int) (k : Nat) : Int := (es[k]?).getD 0

set_option maxRecDepth 100000 in
theorem refExp_any (v : Value) (es : List Int) (k : Nat) (w : World) (h : Is w v es) (_hk : k ≤ 9223372036854775807) :
    Calls Tryz.prog 148 #[v, .int .i64 (k : Int)] w fun e w' => e = .returned (.int .i64 (expI es k)) ∧ w' = w := by
  obtain ⟨ao, cap, rfl, hao, hca, q0⟩ := Row.flat h
  unfold maxLen at hca
  have HI : Hid (Is w (.slice ao es.length cap) es) := h
  clear h q0
  by_cases hlt : k < es.length
  · obtain ⟨g, off, x, rfl, hx1, hx2, hx3, hx4⟩ := HI.out.at hlt
    have HX : Hid (expI es k = x) := by
      show _ = _
      unfold expI
      rw [hx1]
      rfl
    clear hx1
    go_enter Tryz.func148, Tryz.ntmps148
    go_wp2
    go_ret
    exact ⟨ret1i HX.out.symm, rfl⟩
  · have HX : Hid (expI es k = 0) := by
      show _ = _
      unfold expI
      rw [List.getElem?_eq_none (by omega)]
      rfl
    go_enter Tryz.func148, Tryz.ntmps148
    go_wp2
    go_ret
    exact ⟨ret1i HX.out.symm, rfl⟩

set_option maxHeartbeats 1000000 in
theorem refForm_any (cv ev : Value) (m : Mn) (w : World) (h : Mo w cv ev m) :
    Calls Tryz.prog 91 #[.agg #[cv, ev]] w fun e w' => e = .returned (.bool (monB m)) ∧ Below w.heap.size w w' := by
  obtain ⟨c, es⟩ := m
  obtain ⟨hs, hi⟩ := h
  simp only at hs hi
  have hB := below_alloc (w := w) (.cells #[cv, ev] 37)
  have HB : Hid (Below w.heap.size w (w.alloc (.cells #[cv, ev] 37))) := hB
  have HS : Hid (Sl (w.alloc (.cells #[cv, ev] 37)) cv c) := hs.kp (Kp.of_below hB)
  have hi2 := hi.kp (Kp.of_below hB)
  obtain ⟨ao, cap, rfl, hao, hca, q0⟩ := hs.flat
  obtain ⟨bo, cap', rfl, hbo, hcb, hcl⟩ := hi2.flat
  unfold maxLen at hca hcb
  clear q0 hs hi hi2 hB
  go_enter Tryz.func91, Tryz.ntmps91
  go_wp2_with fail
  refine (refRight_anyY _ _ _ HS.out).mono ?_
  rintro e w9 ⟨rfl, hw9⟩
  have hw8 := hw9.symm
  subst hw8
  clear hw9
  cases hr : rightB c
  · have HR : Hid (rightB c = false) := hr
    clear hr hcl
    go_wp2
    go_ret
    exact ⟨ret1b (monB_noR HR.out).symm, HB.out⟩
  have HR : Hid (rightB c = true) := hr
  clear hr
  obtain ⟨wb, hwb⟩ : ∃ wb, wb = w.alloc (.cells #[.slice ao c.length cap, .slice bo es.length cap'] 37) := ⟨_, rfl⟩
  have hc0 : wb.cell? ⟨w.heap.size, 0, none⟩ = some (.slice ao c.length cap) := by rw [hwb]; simp
  have hc1 : wb.cell? ⟨w.heap.size, 1, none⟩ = some (.slice bo es.length cap') := by rw [hwb]; simp
  rw [← hwb] at HB HS hcl ⊢
  clear hwb
  by_cases h0 : c.length = 0
  · have H0 : Hid (c.length = 0) := h0
    have hb0 : ((c.length : Int) == 0) = true := by rw [beq_iff_eq]; omega
    clear hcl h0
    go_wp2
    go_ret
    exact ⟨ret1b (monB_no0 H0.out).symm, HB.out⟩
  have hb0 : ((c.length : Int) == 0) = false := by rw [beq_eq_false_iff_ne]; omega
  go_wp2
  go_loopw [3] (fun i wr => ∃ k : Nat, k ≤ es.length ∧ i = .int .i64 k ∧ (∀ (j : Nat) (x : Int), j < k → es[j]? = some x → 0 ≤ x) ∧ wr = wb) (fun i _ => es.length - (intOf i).toNat)
  case atStart => exact ⟨0, by omega, rfl, fun j x hj => absurd hj (by omega), rfl⟩
  case round =>
    obtain ⟨k, hk, rfl, hp, hw⟩ := hrel
    subst hw
    have HP : Hid (∀ (j : Nat) (x : Int), j < k → es[j]? = some x → 0 ≤ x) := hp
    clear hp
    by_cases hlt : k < es.length
    · obtain ⟨g, off, x, rfl, hx1, hx2, hx3, hx4⟩ := hcl k hlt
      have HX : Hid (es[k]? = some x) := hx1
      rw [Nat.mul_one] at hx4
      clear hx1 hcl
      by_cases hx : x < 0
      · go_wp2
        go_ret
        exact ⟨ret1b (monB_neg HX.out hx).symm, HB.out⟩
      · go_wp2
        go_roundw
        case rel =>
          refine ⟨k + 1, by omega, by go_num, fun j y hj hy => ?_, trivial⟩
          by_cases hjk : j = k
          · subst hjk; rw [HX.out] at hy; cases hy; omega
          · exact HP.out j y (by omega) hy
        case measure => simp [intOf]; omega
    · have hke : k = es.length := by omega
      subst hke
      have HY : Hid (monB (c, es) = (es.length == 0 || !(es[es.length - 1]? == some 0))) := monB_yes h0 HR.out (fun j x hx => HP.out j x (List.getElem?_eq_some_iff.1 hx).1 hx)
      by_cases hz : es.length = 0
      · have hb1 : ((es.length : Int) == 0) = true := by rw [beq_iff_eq]; omega
        clear hcl
        go_wp2
        go_ret
        exact ⟨ret1b (by rw [HY.out, hz]; rfl), HB.out⟩
      · have hb1 : ((es.length : Int) == 0) = false := by rw [beq_eq_false_iff_ne]; omega
        obtain ⟨g, off, x, rfl, hx1, hx2, hx3, hx4⟩ := hcl (es.length - 1) (by omega)
        rw [Nat.mul_one] at hx4
        have HX : Hid (es[es.length - 1]? = some x) := hx1
        have hpos : 0 < es.length := by omega
        clear hx1 hcl
        go_wp2
        go_ret
        refine ⟨ret1b ?_, HB.out⟩
        have hz' : (es.length == 0) = false := by simpa using hz
        rw [HY.out, HX.out, hz', Bool.false_or, bne, Option.some_beq_some]

end Go.Proofs.YtdjmjhlbjcgoiaaGreatDoor

/- The document's order and small. -/
namespace Go.Proofs.YtdjmjhlbjcgoiaaGreatDoor
open Go.RowKit Go.Maps

def ordGo (es fs : List Int) : Nat → Nat → Int
  | 0, _ => 0
  | n + 1, k => if expI es k < expI fs k then -1 else if expI fs k < expI es k then 1 else ordGo es fs n (k + 1)

/-- Which of two rows of exponents comes first, where one that ends goes on with 0. -/
def ordX (es fs : List Int) : Int := ordGo es fs (max es.length fs.length) 0

set_option maxRecDepth 100000 in
set_option maxHeartbeats 800000 in
theorem refOrder_any (v u : Value) (es fs : List Int) (w : World) (h : Is w v es) (h' : Is w u fs) :
    Calls Tryz.prog 92 #[v, u] w fun e w' => e = .returned (.int .i64 (ordX es fs)) ∧ w' = w := by
  obtain ⟨ao, cap, rfl, hao, hca, q0⟩ := Row.flat h
  obtain ⟨bo, cap', rfl, hbo, hcb, q0'⟩ := Row.flat h'
  unfold maxLen at hca hcb
  have HI : Hid (Is w (.slice ao es.length cap) es) := h
  have HJ : Hid (Is w (.slice bo fs.length cap') fs) := h'
  clear h h' q0 q0'
  go_enter Tryz.func92, Tryz.ntmps92
  go_wp2
  go_loopw [5] (fun i wr => ∃ k : Nat, k ≤ max es.length fs.length ∧ i = .int .i64 k ∧ ordX es fs = ordGo es fs (max es.length fs.length - k) k ∧ wr = w) (fun i _ => max es.length fs.length - (intOf i).toNat)
  case atStart => exact ⟨0, by omega, rfl, rfl, rfl⟩
  case round =>
    obtain ⟨k, hk, rfl, ho, hw⟩ := hrel
    have hw8 := hw.symm
    subst hw8
    clear hw
    have HO : Hid (ordX es fs = ordGo es fs (max es.length fs.length - k) k) := ho
    clear ho
    by_cases hend : k < max es.length fs.length
    · have HS : Hid (ordX es fs = if expI es k < expI fs k then -1 else if expI fs k < expI es k then 1 else ordGo es fs (max es.length fs.length - (k + 1)) (k + 1)) := by
        show _ = _
        rw [HO.out, show max es.length fs.length - k = (max es.length fs.length - (k + 1)) + 1 by omega, ordGo]
      have hgo : (k < es.length) ∨ (decide (k < es.length) = false ∧ k < fs.length) := by
        by_cases h1 : k < es.length
        · exact .inl h1
        · exact .inr ⟨decide_eq_false h1, by omega⟩
      have hk6 : k ≤ 9223372036854775807 := by omega
      obtain ⟨X, hX⟩ : ∃ X, X = expI es k := ⟨_, rfl⟩
      obtain ⟨Y, hY⟩ : ∃ Y, Y = expI fs k := ⟨_, rfl⟩
      have HX : Hid (X = expI es k) := hX
      have HY : Hid (Y = expI fs k) := hY
      rw [← hX, ← hY] at HS
      clear hX hY
      have hcon1 := fun W (hh : Is W (.slice ao es.length cap) es) => refExp_any (.slice ao es.length cap) es k W hh hk6
      have hm : (k : Int) + 1 ≤ 9223372036854775807 := by omega
      by_cases h1 : X < Y
      · rw [if_pos h1] at HS
        have HS2 : Hid (ordX es fs = -1) := HS
        rcases hgo with hgo | ⟨hgo, hgo2⟩
        all_goals
          clear hcon1
          go_wp2_with fail
          refine (refExp_any _ es k _ HI.out hk6).mono ?_
          rw [← HX.out]
          rintro e w9 ⟨rfl, hw9⟩
          have hw8 := hw9.symm
          subst hw8
          clear hw9
          go_wp2_with fail
          refine (refExp_any _ fs k _ HJ.out hk6).mono ?_
          rw [← HY.out]
          rintro e w9 ⟨rfl, hw9⟩
          have hw8 := hw9.symm
          subst hw8
          clear hw9
          go_wp2
          go_ret
          exact ⟨ret1i HS2.out.symm, rfl⟩
      by_cases h2 : Y < X
      · rw [if_neg h1, if_pos h2] at HS
        have HS2 : Hid (ordX es fs = 1) := HS
        have hd1 : decide (X < Y) = false := decide_eq_false h1
        have hd2 : decide (Y < X) = true := decide_eq_true h2
        clear h1 h2 HS
        rcases hgo with hgo | ⟨hgo, hgo2⟩
        all_goals
          clear hcon1
          go_wp2_with fail
          refine (refExp_any _ es k _ HI.out hk6).mono ?_
          rw [← HX.out]
          rintro e w9 ⟨rfl, hw9⟩
          have hw8 := hw9.symm
          subst hw8
          clear hw9
          go_wp2_with fail
          refine (refExp_any _ fs k _ HJ.out hk6).mono ?_
          rw [← HY.out]
          rintro e w9 ⟨rfl, hw9⟩
          have hw8 := hw9.symm
          subst hw8
          clear hw9
          go_wp2
          go_ret
          exact ⟨ret1i HS2.out.symm, rfl⟩
      · rw [if_neg h1, if_neg h2] at HS
        have HS2 : Hid (ordX es fs = ordGo es fs (max es.length fs.length - (k + 1)) (k + 1)) := HS
        obtain rfl : X = Y := by omega
        clear h1 h2 HS
        rcases hgo with hgo | ⟨hgo, hgo2⟩
        all_goals
          clear hcon1
          go_wp2_with fail
          refine (refExp_any _ es k _ HI.out hk6).mono ?_
          rw [← HX.out]
          rintro e w9 ⟨rfl, hw9⟩
          have hw8 := hw9.symm
          subst hw8
          clear hw9
          go_wp2_with fail
          refine (refExp_any _ fs k _ HJ.out hk6).mono ?_
          rw [← HY.out]
          rintro e w9 ⟨rfl, hw9⟩
          have hw8 := hw9.symm
          subst hw8
          clear hw9
          go_wp2
          go_roundw
          case rel => exact ⟨k + 1, by omega, by go_num, HS2.out, trivial⟩
          case measure => simp [intOf]; omega
    · have hke : k = max es.length fs.length := by omega
      have HF : Hid (ordX es fs = 0) := by
        show _ = _
        rw [HO.out, hke, Nat.sub_self]
        rfl
      have hd1 : decide (k < es.length) = false := decide_eq_false (by omega)
      have hd2 : decide (k < fs.length) = false := decide_eq_false (by omega)
      clear hke
      go_wp2
      go_ret
      exact ⟨ret1i HF.out.symm, rfl⟩

/-- Whether a monomial is in bounds, as the document's small says it. -/
def smallR (m : Mn) : Bool := m.2.all (fun n => decide (n ≤ 64)) && (decide (m.1.length ≤ 64) && decide (m.2.length ≤ 512))

set_option maxRecDepth 100000 in
set_option maxHeartbeats 800000 in
theorem refSmall_any (cv ev : Value) (m : Mn) (w : World) (h : Mo w cv ev m) :
    Calls Tryz.prog 93 #[.agg #[cv, ev]] w fun e w' => e = .returned (.bool (smallR m)) ∧ Below w.heap.size w w' := by
  obtain ⟨c, es⟩ := m
  obtain ⟨hs, hi⟩ := h
  simp only at hs hi
  have hB := below_alloc (w := w) (.cells #[cv, ev] 37)
  have HB : Hid (Below w.heap.size w (w.alloc (.cells #[cv, ev] 37))) := hB
  have hi2 := hi.kp (Kp.of_below hB)
  obtain ⟨ao, cap, rfl, hao, hca, q0⟩ := hs.flat
  obtain ⟨bo, cap', rfl, hbo, hcb, hcl⟩ := hi2.flat
  unfold maxLen at hca hcb
  clear q0 hs hi hi2 hB
  go_enter Tryz.func93, Tryz.ntmps93
  go_wp2
  obtain ⟨wb, hwb⟩ : ∃ wb, wb = w.alloc (.cells #[.slice ao c.length cap, .slice bo es.length cap'] 37) := ⟨_, rfl⟩
  have hc0 : wb.cell? ⟨w.heap.size, 0, none⟩ = some (.slice ao c.length cap) := by rw [hwb]; simp
  have hc1 : wb.cell? ⟨w.heap.size, 1, none⟩ = some (.slice bo es.length cap') := by rw [hwb]; simp
  rw [← hwb] at HB hcl ⊢
  clear hwb
  go_loopw [3] (fun i wr => ∃ k : Nat, k ≤ es.length ∧ i = .int .i64 k ∧ (∀ (j : Nat) (x : Int), j < k → es[j]? = some x → x ≤ 64) ∧ wr = wb) (fun i _ => es.length - (intOf i).toNat)
  case atStart => exact ⟨0, by omega, rfl, fun j x hj => absurd hj (by omega), rfl⟩
  case round =>
    obtain ⟨k, hk, rfl, hp, hw⟩ := hrel
    subst hw
    have HP : Hid (∀ (j : Nat) (x : Int), j < k → es[j]? = some x → x ≤ 64) := hp
    clear hp
    by_cases hlt : k < es.length
    · obtain ⟨g, off, x, rfl, hx1, hx2, hx3, hx4⟩ := hcl k hlt
      have HX : Hid (es[k]? = some x) := hx1
      rw [Nat.mul_one] at hx4
      clear hx1 hcl
      by_cases hx : x ≤ 64
      · go_wp2
        go_roundw
        case rel =>
          refine ⟨k + 1, by omega, by go_num, fun j y hj hy => ?_, trivial⟩
          by_cases hjk : j = k
          · subst hjk; rw [HX.out] at hy; cases hy; exact hx
          · exact HP.out j y (by omega) hy
        case measure => simp [intOf]; omega
      · have HF : Hid (smallR (c, es) = false) := by
          show _ = _
          have : es.all (fun n => decide (n ≤ 64)) = false := by rw [List.all_eq_false]; exact ⟨x, List.mem_of_getElem? HX.out, by simp; omega⟩
          simp [smallR, this]
        go_wp2
        go_ret
        exact ⟨ret1b HF.out.symm, HB.out⟩
    · have hke : k = es.length := by omega
      subst hke
      have HF : Hid (smallR (c, es) = (decide (c.length ≤ 64) && decide (es.length ≤ 512))) := by
        show _ = _
        have : es.all (fun n => decide (n ≤ 64)) = true := by
          rw [List.all_eq_true]
          intro x hx
          obtain ⟨j, hj⟩ := List.mem_iff_getElem?.1 hx
          simpa using HP.out j x (List.getElem?_eq_some_iff.1 hj).1 hj
        simp only [smallR, this, Bool.true_and]
      clear hcl
      by_cases h64 : c.length ≤ 64
      · have HF2 : Hid (smallR (c, es) = decide (es.length ≤ 512)) := by
          show _ = _
          rw [HF.out, decide_eq_true h64, Bool.true_and]
        go_wp2
        go_ret
        exact ⟨ret1b ((decide_eq_decide.2 (by omega)).trans HF2.out.symm), HB.out⟩
      · have hd : decide (c.length ≤ 64) = false := decide_eq_false h64
        have HF2 : Hid (smallR (c, es) = false) := by
          show _ = _
          rw [HF.out, hd, Bool.false_and]
        go_wp2
        go_ret
        exact ⟨ret1b HF2.out.symm, HB.out⟩

end Go.Proofs.YtdjmjhlbjcgoiaaGreatDoor

/- one of the law file, and small rows in memory. -/
namespace Go.Proofs.YtdjmjhlbjcgoiaaGreatDoor
open Go.RowKit Go.Maps

theorem is_two {w : World} {g : Nat} {a b : Int} (ha : -9223372036854775808 ≤ a ∧ a ≤ 9223372036854775807) (hb : -9223372036854775808 ≤ b ∧ b ≤ 9223372036854775807) (h : w.cell? ⟨g, 0, none⟩ = some (.int .i64 a)) (h' : w.cell? ⟨g, 1, none⟩ = some (.int .i64 b)) : Is w (.slice (some ⟨g, 0, none⟩) 2 2) [a, b] := by
  refine ⟨_, 2, rfl, by simp, by simp [maxLen], fun _ => ⟨g, 0, rfl, World.block_lt_of_cell? w _ h, ?_⟩⟩
  intro k x hk
  have hlt := (List.getElem?_eq_some_iff.1 hk).1
  match k, hlt with
  | 0, _ =>
    simp only [List.getElem?_cons_zero, Option.some.injEq] at hk
    subst hk
    exact ⟨ha.1, ha.2, h⟩
  | 1, _ =>
    simp only [List.getElem?_cons_succ, List.getElem?_cons_zero, Option.some.injEq] at hk
    subst hk
    exact ⟨hb.1, hb.2, h'⟩

end Go.Proofs.YtdjmjhlbjcgoiaaGreatDoor

/- Rows of monomials, rows of limbs and rows of rows that came in, as a row of the claim reads them. -/
namespace Go.Proofs.YtdjmjhlbjcgoiaaGreatDoor
open Go.ChangeShapes Go.WideShapes Go.ChangeAt Go.RowKit Go.Deep

theorem spot_noneY {w : World} {a : Addr} {v : Value} (h : w.cell? (a.add 0) = some v) : ∃ g off, a = ⟨g, off, none⟩ ∧ g < w.heap.size := by
  obtain ⟨b, off, spot⟩ := a
  have hspot : spot = none := by simpa [Addr.add] using World.cell?_spot h
  subst hspot
  refine ⟨b, off, rfl, ?_⟩
  rw [Addr.add_lit] at h
  exact World.block_lt_of_cell? w _ h

/-- How much memory the rows of monomials take up at the most. -/
def Fit (R : Nat) (p : List Mn) : Prop := p.length * 48 ≤ R ∧ ∀ m ∈ p, m.1.length * 4 ≤ R ∧ m.2.length * 8 ≤ R

theorem weight_headY {H : Type} {P : Program} {t e : TypeId} {d : DataW H} {elems spare : List (DataW H)} (hd : d = .slice elems spare) (hu : P.underlying t = some (.slice e)) : (elems.length + spare.length) * P.bytesOf e ∈ d.weights P t := by
  subst hd
  simp [DataW.weights, hu]

theorem weight_allY {H : Type} {P : Program} {e : TypeId} {d : DataW H} {n : Nat} : ∀ {l : List (DataW H)}, d ∈ l → n ∈ d.weights P e → n ∈ DataW.weightsAll P e l
  | [], h, _ => by cases h
  | x :: r, h, hn => by
    unfold DataW.weightsAll
    rcases List.mem_cons.1 h with rfl | h
    · exact List.mem_append_left _ hn
    · exact List.mem_append_right _ (weight_allY h hn)

theorem weight_elemY {H : Type} {P : Program} {t e : TypeId} {d y : DataW H} {n : Nat} {elems spare : List (DataW H)} (hd : d = .slice elems spare) (hu : P.underlying t = some (.slice e)) (hy : y ∈ elems) (hn : n ∈ y.weights P e) : n ∈ d.weights P t := by
  subst hd
  have := weight_allY hy hn
  simp [DataW.weights, hu, this]

theorem weight_aggY {H : Type} {P : Program} {t u : TypeId} {fs : Array Field} {parts : List (DataW H)} {y : DataW H} {j n : Nat} (hu : P.underlying t = some (.struct fs)) (hj : (fs.toList.map (·.type))[j]? = some u) (hp : parts[j]? = some y) (hn : n ∈ y.weights P u) : n ∈ (DataW.agg parts).weights P t := by
  have := DataW.weights_mem_each hj hp n hn
  simp [DataW.weights, hu, this]

theorem open_limbs {H : Type} {enc : TypeId × Value → H} {W : World} {base fuel : Nat} {held : Bool} {cs : List Value} {x : DataW H × List MemPlace}
    (h : DataW.trod enc Tryz.prog W base (fun _ => true) held fuel 35 cs = some x) : ∃ v xs, cs = [v] ∧ Sl W v xs ∧ ∀ R, (∀ n ∈ x.1.weights Tryz.prog 35, n ≤ R) → xs.length * 4 ≤ R := by
  rcases open_ints Tryz.underlying35 Tryz.underlying38 (by kernel_rfl) h with ⟨rfl, _⟩ | ⟨a, len, cap, zs, rfl, _, hl, hm, hz, hx, hcell, hwz⟩
  · exact ⟨_, [], rfl, ⟨by intro y hy; simp at hy, none, 0, rfl, by simp, by simp [maxLen], by simp⟩, by simp⟩
  · simp only [if_true] at hz
    have hlen : ((zs.take len).map Int.toNat).length = len := by simp; omega
    have hfit : ∀ R, (∀ n ∈ x.1.weights Tryz.prog 35, n ≤ R) → len * 4 ≤ R := by
      intro R hR
      have := hR _ (weight_headY (by rw [hx]) Tryz.underlying35)
      rw [show Tryz.prog.bytesOf 38 = 4 by kernel_rfl] at this
      simp only [lits, List.length_map, List.length_take, List.length_drop] at this
      omega
    refine ⟨_, (zs.take len).map Int.toNat, rfl, ⟨?_, some a, cap, by rw [hlen], by omega, hm, fun h0 => ?_⟩, by rw [hlen]; exact hfit⟩
    · intro y hy
      obtain ⟨z, hz1, rfl⟩ := List.mem_map.1 hy
      have := bounds_u32 (hwz z (List.mem_of_mem_take hz1))
      omega
    · rw [hlen] at h0
      obtain ⟨g, off, rfl, hg⟩ := spot_noneY (hcell 0 (by omega))
      refine ⟨g, off, rfl, hg, fun k y hk => ?_⟩
      have hkl : k < len := by have := (List.getElem?_eq_some_iff.1 hk).1; omega
      have h1 := hcell k (by omega)
      rw [Addr.add_lit] at h1
      rw [h1]
      have hkz : k < zs.length := by omega
      have h2 := bounds_u32 (hwz zs[k] (List.getElem_mem hkz))
      simp only [List.getElem?_map, List.getElem?_take_of_lt hkl, List.getElem?_eq_getElem hkz, Option.map_some, Option.some.injEq] at hk
      rw [List.getD_eq_getElem?_getD, List.getElem?_eq_getElem hkz, Option.getD_some, ← hk]
      congr 2
      omega

theorem open_numsY {H : Type} {enc : TypeId × Value → H} {W : World} {base fuel : Nat} {held : Bool} {cs : List Value} {x : DataW H × List MemPlace}
    (h : DataW.trod enc Tryz.prog W base (fun _ => true) held fuel 30 cs = some x) : ∃ v xs, cs = [v] ∧ Is W v xs ∧ ∀ R, (∀ n ∈ x.1.weights Tryz.prog 30, n ≤ R) → xs.length * 8 ≤ R := by
  rcases open_ints Tryz.underlying30 Tryz.underlying3 (by kernel_rfl) h with ⟨rfl, _⟩ | ⟨a, len, cap, zs, rfl, _, hl, hm, hz, hx, hcell, hwz⟩
  · exact ⟨_, [], rfl, Row.nil (by simp [maxLen]), by simp⟩
  · simp only [if_true] at hz
    have hlen : (zs.take len).length = len := by simp; omega
    have hfit : ∀ R, (∀ n ∈ x.1.weights Tryz.prog 30, n ≤ R) → len * 8 ≤ R := by
      intro R hR
      have := hR _ (weight_headY (by rw [hx]) Tryz.underlying30)
      rw [show Tryz.prog.bytesOf 3 = 8 by kernel_rfl] at this
      simp only [lits, List.length_map, List.length_take, List.length_drop] at this
      omega
    refine ⟨_, zs.take len, rfl, ⟨some a, cap, by rw [hlen], by omega, hm, fun h0 => ?_⟩, by rw [hlen]; exact hfit⟩
    rw [hlen] at h0
    obtain ⟨g, off, rfl, hg⟩ := spot_noneY (hcell 0 (by omega))
    refine ⟨g, off, rfl, hg, fun k y hk => ?_⟩
    have hkl : k < len := by have := (List.getElem?_eq_some_iff.1 hk).1; omega
    have h1 := hcell k (by omega)
    rw [Addr.add_lit] at h1
    have hkz : k < zs.length := by omega
    have h2 := bounds_i64 (hwz zs[k] (List.getElem_mem hkz))
    rw [List.getElem?_take_of_lt hkl, List.getElem?_eq_getElem hkz, Option.some.injEq] at hk
    rw [List.getD_eq_getElem?_getD, List.getElem?_eq_getElem hkz, Option.getD_some] at h1
    subst hk
    rw [Nat.mul_one]
    exact ⟨by omega, by omega, h1⟩

theorem open_monos {H : Type} {enc : TypeId × Value → H} {W : World} {base fuel : Nat} {held : Bool} {cs : List Value} {x : DataW H × List MemPlace}
    (h : DataW.trod enc Tryz.prog W base (fun _ => true) held fuel 31 cs = some x) : ∃ v p, cs = [v] ∧ Ms W v p ∧ ∀ R, (∀ n ∈ x.1.weights Tryz.prog 31, n ≤ R) → Fit R p := by
  rcases open_slice_pairs Tryz.underlying31 Tryz.underlying37 (by kernel_rfl) rfl rfl (by kernel_rfl) (by kernel_rfl) h with ⟨rfl, _⟩ | ⟨a, len, cap, m, n, V0, V1, D0, D1, P0, P1, rfl, _, hl, hm, hmm, hx, hall⟩
  · exact ⟨_, [], rfl, Row.nil (by simp [maxLen]), fun R _ => ⟨by simp, by simp⟩⟩
  · simp only [if_true] at hmm
    have each : ∀ i, i < m → ∃ q : Mn, Mo W (V0 i) (V1 i) q ∧ ∀ R, (∀ n ∈ (D0 i).weights Tryz.prog 35, n ≤ R) → (∀ n ∈ (D1 i).weights Tryz.prog 30, n ≤ R) → q.1.length * 4 ≤ R ∧ q.2.length * 8 ≤ R := by
      intro i hi
      obtain ⟨_, _, t0, t1⟩ := hall i hi
      obtain ⟨v0, c, e0, hc, hf0⟩ := open_limbs t0
      obtain ⟨v1, e, e1, he, hf1⟩ := open_numsY t1
      simp only [List.cons.injEq, and_true] at e0 e1
      subst e0; subst e1
      exact ⟨(c, e), ⟨hc, he⟩, fun R h0 h1 => ⟨hf0 R h0, hf1 R h1⟩⟩
    obtain ⟨q, hq⟩ := choose_lt each
    have hlen : ((List.range len).map q).length = len := by simp
    have hfit : ∀ R, (∀ n ∈ x.1.weights Tryz.prog 31, n ≤ R) → Fit R ((List.range len).map q) := by
      intro R hR
      have hx1 : x.1 = .slice ((List.range len).map fun i => .agg [D0 i, D1 i]) ((List.range (m - len)).map fun j => .agg [D0 (len + j), D1 (len + j)]) := by rw [hx]
      refine ⟨?_, fun y hy => ?_⟩
      · have := hR _ (weight_headY hx1 Tryz.underlying31)
        rw [show Tryz.prog.bytesOf 37 = 48 by kernel_rfl] at this
        simp only [List.length_map, List.length_range] at this
        rw [hlen]
        omega
      · obtain ⟨i, hi, rfl⟩ := List.mem_map.1 hy
        have hi2 := List.mem_range.1 hi
        have hin : ∀ n ∈ (DataW.agg [D0 i, D1 i]).weights Tryz.prog 37, n ≤ R := fun n hn => hR n (weight_elemY hx1 Tryz.underlying31 (List.mem_map.2 ⟨i, hi, rfl⟩) hn)
        refine (hq i (by omega)).2 R (fun n hn => hin n ?_) (fun n hn => hin n ?_)
        · exact weight_aggY Tryz.underlying37 (j := 0) rfl rfl hn
        · exact weight_aggY Tryz.underlying37 (j := 1) rfl rfl hn
    refine ⟨_, (List.range len).map q, rfl, ⟨some a, cap, by rw [hlen], by omega, hm, fun h0 => ?_⟩, hfit⟩
    rw [hlen] at h0
    obtain ⟨g, off, rfl, hg⟩ := spot_noneY (hall 0 (by omega)).1
    refine ⟨g, off, rfl, hg, fun k y hk => ?_⟩
    have hkl : k < len := by have := (List.getElem?_eq_some_iff.1 hk).1; omega
    obtain ⟨h0, h1, _⟩ := hall k (by omega)
    rw [Addr.add_lit] at h0 h1
    simp only [List.getElem?_map, List.getElem?_range hkl, Option.map_some, Option.some.injEq] at hk
    subst hk
    exact ⟨V0 k, V1 k, h0, h1, (hq k (by omega)).1⟩

theorem open_rowsY {H : Type} {enc : TypeId × Value → H} {W : World} {base fuel : Nat} {held : Bool} {cs : List Value} {x : DataW H × List MemPlace}
    (h : DataW.trod enc Tryz.prog W base (fun _ => true) held fuel 54 cs = some x) : ∃ v xs, cs = [v] ∧ RsY W v xs := by
  rcases open_slice1 Tryz.underlying54 (by kernel_rfl) h with ⟨rfl, _⟩ | ⟨a, len, cap, m, n, V, D, Pl, rfl, _, hl, hm, hmm, _, hall⟩
  · exact ⟨_, [], rfl, Row.nil (by simp [maxLen])⟩
  · simp only [if_true] at hmm
    have each : ∀ i, i < m → ∃ q : List Nat, Sl W (V i) q := by
      intro i hi
      obtain ⟨v0, c, e0, hc, _⟩ := open_limbs (hall i hi).2
      simp only [List.cons.injEq, and_true] at e0
      subst e0
      exact ⟨c, hc⟩
    obtain ⟨q, hq⟩ := choose_lt each
    have hlen : ((List.range len).map q).length = len := by simp
    refine ⟨_, (List.range len).map q, rfl, some a, cap, by rw [hlen], by omega, hm, fun h0 => ?_⟩
    rw [hlen] at h0
    obtain ⟨g, off, rfl, hg⟩ := spot_noneY (hall 0 (by omega)).1
    refine ⟨g, off, rfl, hg, fun k y hk => ?_⟩
    have hkl : k < len := by have := (List.getElem?_eq_some_iff.1 hk).1; omega
    have h0 := (hall k (by omega)).1
    rw [Addr.add_lit] at h0
    simp only [List.getElem?_map, List.getElem?_range hkl, Option.map_some, Option.some.injEq] at hk
    subst hk
    rw [Nat.mul_one]
    exact ⟨V k, h0, hq k (by omega)⟩

end Go.Proofs.YtdjmjhlbjcgoiaaGreatDoor

/- What lies away from some blocks; rows of monomials that alias older ones. -/
namespace Go.Proofs.YtdjmjhlbjcgoiaaGreatDoor
open Go.RowKit Go.Maps

/-- The world with nothing in the blocks outside of A. -/
def onlyY (A : Nat → Bool) (w : World) : World := { w with heap := w.heap.mapIdx fun g o => if A g then o else .cells #[] 0 }

theorem only_sizeY (A : Nat → Bool) (w : World) : (onlyY A w).heap.size = w.heap.size := by simp [onlyY]

theorem only_blockY {A : Nat → Bool} {w : World} {g : Nat} (h : A g = true) : (onlyY A w).heap[g]? = w.heap[g]? := by
  simp only [onlyY, Array.getElem?_mapIdx, h, if_true]
  cases w.heap[g]? <;> rfl

theorem only_notY {A : Nat → Bool} {w : World} {a : Addr} (h : ¬ A a.block = true) : (onlyY A w).cell? a = none := by
  have hf : A a.block = false := by simpa using h
  unfold World.cell?
  simp only [onlyY, Array.getElem?_mapIdx]
  cases w.heap[a.block]? with
  | none => rfl
  | some o => simp [hf]

theorem only_cellY {A : Nat → Bool} {w : World} {a : Addr} (h : A a.block = true) : (onlyY A w).cell? a = w.cell? a := by
  unfold World.cell?
  rw [only_blockY h]

theorem only_kp (A : Nat → Bool) (w : World) : Kp (onlyY A w) w := by
  refine ⟨by rw [only_sizeY]; exact Nat.le_refl _, fun a v hv => ?_⟩
  by_cases h : A a.block = true
  · rw [only_cellY h] at hv
    exact hv
  · rw [only_notY h] at hv
    cases hv

/-- All blocks of A are as they were. -/
theorem only_step {A : Nat → Bool} {w w' : World} (hs : w.heap.size ≤ w'.heap.size) (h : ∀ g, g < w.heap.size → A g = true → w'.heap[g]? = w.heap[g]?) : Kp (onlyY A w) (onlyY A w') := by
  refine ⟨by rw [only_sizeY, only_sizeY]; exact hs, fun a v hv => ?_⟩
  by_cases hA : A a.block = true
  · have hlt := World.block_lt_of_cell? _ _ hv
    rw [only_sizeY] at hlt
    rw [only_cellY hA] at hv ⊢
    rw [World.cell?_of_block (h _ hlt hA)]
    exact hv
  · rw [only_notY hA] at hv
    cases hv

theorem only_below {A : Nat → Bool} {w w' : World} (h : Below w.heap.size w w') : Kp (onlyY A w) (onlyY A w') := only_step h.size fun g hg _ => h.block g hg

/-- What is older than all that A leaves out. -/
theorem only_old {A : Nat → Bool} {w : World} (h : ∀ g, g < w.heap.size → A g = true) : Kp w (onlyY A w) := by
  refine ⟨by rw [only_sizeY]; exact Nat.le_refl _, fun a v hv => ?_⟩
  rw [only_cellY (h _ (World.block_lt_of_cell? _ _ hv))]
  exact hv

theorem only_owns {A : Nat → Bool} {w : World} {base : Nat} {e : TypeId} {s n : Nat} {v : Value} {xs : List Value} (h : w.ownsRow base e s v n xs) (hA : ∀ g, base ≤ g → A g = true) : (onlyY A w).ownsRow base e s v n xs := by
  refine ⟨h.1, ?_⟩
  rcases h.2 with h | ⟨g, cap, cur, hv, hb, hg, r⟩
  · exact .inl h
  · exact .inr ⟨g, cap, cur, hv, hb, by rw [only_blockY (hA g hb)]; exact hg, r⟩

end Go.Proofs.YtdjmjhlbjcgoiaaGreatDoor

/- What a polynomial is worth, as a natural. -/
namespace Go.Proofs.YtdjmjhlbjcgoiaaGreatDoor
open Go.RowKit Go.Maps

/-- The least natural that has too many limbs. -/
def bigN : Nat := 4294967296 ^ 64

theorem limbs_short (n : Nat) : (limbs n).length ≤ 64 ↔ n < bigN := by
  refine ⟨fun h => ?_, fun h => length_limbs_le h⟩
  have h1 := val_lt (limbs_lim n)
  rw [val_limbs] at h1
  exact Nat.lt_of_lt_of_le h1 (Nat.pow_le_pow_right (by omega) h)

/-- The limbs of a natural that has not too many of them. -/
def RtY (xs : List Nat) (n : Nat) : Prop := xs = limbs n ∧ n < bigN

theorem RtY.right {xs : List Nat} {n : Nat} (h : RtY xs n) : rightB xs = true := by
  rw [h.1, rightB_limbs]
  exact decide_eq_true ((limbs_short n).2 h.2)

theorem RtY.val {xs : List Nat} {n : Nat} (h : RtY xs n) : val xs = n := by rw [h.1, val_limbs]

theorem RtY.of {xs : List Nat} (h : Lim xs) (hr : rightB xs = true) : RtY xs (Go.Proofs.YtdjmjhlbjcgoiaaGreatDoor.val xs) :=
  ⟨(limbs_val_of_right h hr).symm, (limbs_short _).1 (by rw [limbs_val_of_right h hr]; exact length_le_of_right hr)⟩

theorem res_ok {n : Nat} (h : n < bigN) : resL n = limbs n ∧ resE n = 0 := by
  unfold resL resE
  rw [if_pos ((limbs_short n).2 h), if_pos ((limbs_short n).2 h)]
  exact ⟨rfl, rfl⟩

theorem res_no {n : Nat} (h : bigN ≤ n) : resL n = [] ∧ resE n = 2 := by
  have : ¬ (limbs n).length ≤ 64 := fun hh => by have := (limbs_short n).1 hh; omega
  unfold resL resE
  rw [if_neg this, if_neg this]
  exact ⟨rfl, rfl⟩

theorem mul_ok {xs ys : List Nat} {a b : Nat} (h : RtY xs a) (h' : RtY ys b) (hb : a * b < bigN) : mulE xs ys = 0 ∧ RtY (mulL xs ys) (a * b) := by
  unfold mulE mulL
  rw [h.right, h'.right, h.val, h'.val, (res_ok hb).1, (res_ok hb).2]
  exact ⟨rfl, rfl, hb⟩

theorem mul_no {xs ys : List Nat} {a b : Nat} (h : RtY xs a) (h' : RtY ys b) (hb : bigN ≤ a * b) : mulE xs ys = 2 ∧ mulL xs ys = [] := by
  unfold mulE mulL
  rw [h.right, h'.right, h.val, h'.val, (res_no hb).1, (res_no hb).2]
  exact ⟨rfl, rfl⟩

theorem add_ok {xs ys : List Nat} {a b : Nat} (h : RtY xs a) (h' : RtY ys b) (hb : a + b < bigN) : addE xs ys = 0 ∧ RtY (addL xs ys) (a + b) := by
  unfold addE addL
  rw [h.right, h'.right, h.val, h'.val, (res_ok hb).1, (res_ok hb).2]
  exact ⟨rfl, rfl, hb⟩

theorem add_no {xs ys : List Nat} {a b : Nat} (h : RtY xs a) (h' : RtY ys b) (hb : bigN ≤ a + b) : addE xs ys = 2 ∧ addL xs ys = [] := by
  unfold addE addL
  rw [h.right, h'.right, h.val, h'.val, (res_no hb).1, (res_no hb).2]
  exact ⟨rfl, rfl⟩

/-- What is answered for a natural. -/
def ans (n : Nat) : List Nat × Int := if n < bigN then (limbs n, 0) else ([], 2)

theorem ans_ok {n : Nat} (h : n < bigN) : ans n = (limbs n, 0) := if_pos h

theorem ans_no {n : Nat} (h : bigN ≤ n) : ans n = ([], 2) := if_neg (by omega)

theorem powGo_spec {a : List Nat} {F n : Nat} (hF : 1 ≤ F) (ha : RtY a F) : ∀ (b : Nat) (out : List Nat), RtY out (F ^ (n / 2 ^ b)) → powGo mulL mulE [] a n b out = ans (F ^ n) := by
  intro b
  induction b with
  | zero =>
    intro out h
    rw [Nat.pow_zero, Nat.div_one] at h
    unfold powGo
    rw [ans_ok h.2, h.1]
  | succ b ih =>
    intro out h
    have hdiv : n / 2 ^ b = 2 * (n / 2 ^ (b + 1)) + n / 2 ^ b % 2 := by
      rw [Nat.pow_succ, ← Nat.div_div_eq_div_mul]
      omega
    have hle : n / 2 ^ b ≤ n := Nat.div_le_self _ _
    have hsq : F ^ (n / 2 ^ (b + 1)) * F ^ (n / 2 ^ (b + 1)) = F ^ (2 * (n / 2 ^ (b + 1))) := by rw [← Nat.pow_add]; congr 1; omega
    unfold powGo
    by_cases h1 : F ^ (2 * (n / 2 ^ (b + 1))) < bigN
    · obtain ⟨e1, r1⟩ := mul_ok h h (by rw [hsq]; exact h1)
      rw [hsq] at r1
      rw [if_pos e1]
      by_cases h2 : n / 2 ^ b % 2 = 1
      · rw [if_pos h2]
        have hst : F ^ (2 * (n / 2 ^ (b + 1))) * F = F ^ (n / 2 ^ b) := by rw [← Nat.pow_succ]; congr 1; omega
        by_cases h3 : F ^ (n / 2 ^ b) < bigN
        · obtain ⟨e2, r2⟩ := mul_ok r1 ha (by rw [hst]; exact h3)
          rw [hst] at r2
          rw [if_pos e2]
          exact ih _ r2
        · obtain ⟨e2, _⟩ := mul_no r1 ha (by rw [hst]; omega)
          rw [if_neg (by rw [e2]; decide), e2, ans_no (Nat.le_trans (by omega) (Nat.pow_le_pow_right hF hle))]
      · rw [if_neg h2]
        refine ih _ ?_
        rw [show n / 2 ^ b = 2 * (n / 2 ^ (b + 1)) by omega]
        exact r1
    · obtain ⟨e1, _⟩ := mul_no h h (by rw [hsq]; omega)
      rw [if_neg (by rw [e1]; decide), e1, ans_no (Nat.le_trans (show bigN ≤ F ^ (2 * (n / 2 ^ (b + 1))) by omega) (Nat.pow_le_pow_right hF (by omega)))]

theorem bit_top {n : Nat} (h1 : 1 ≤ n) (h2 : n ≤ 64) : n / 2 ^ (Lib.bitLen n - 1) = 1 := by
  have h : ∀ k : Fin 65, 1 ≤ k.1 → k.1 / 2 ^ (Lib.bitLen k.1 - 1) = 1 := by decide +kernel
  exact h ⟨n, by omega⟩ h1

theorem pow_spec {a : List Nat} {F n : Nat} (hF : 1 ≤ F) (ha : RtY a F) (hn : 1 ≤ n) (hn2 : n ≤ 64) : powGo mulL mulE [] a n (Lib.bitLen n - 1) a = ans (F ^ n) := by
  refine powGo_spec hF ha _ _ ?_
  rw [bit_top hn hn2, Nat.pow_one]
  exact ha

/-- The product of the powers. -/
def prodW : List Int → List (List Nat) → Nat
  | [], _ => 1
  | _ :: _, [] => 1
  | n :: es, f :: fs => val f ^ n.toNat * prodW es fs

theorem val_pos {f : List Nat} (h : Lim f) (hr : rightB f = true) (h0 : ¬ f.length = 0) : 1 ≤ val f := by
  rcases Nat.eq_zero_or_pos (val f) with h1 | h1
  · have := limbs_val_of_right h hr
    rw [h1, limbs_zero] at this
    rw [← this] at h0
    exact absurd rfl h0
  · exact h1

theorem nought_cons {n : Int} {es : List Int} {f : List Nat} {fs : List (List Nat)} : noughtB (n :: es) (f :: fs) = (decide (0 < n) && f.length == 0 || noughtB es fs) := rfl

theorem prodW_pos : ∀ {es : List Int} {fs : List (List Nat)}, (∀ f ∈ fs, Lim f ∧ rightB f = true) → (∀ n ∈ es, 0 ≤ n ∧ n ≤ 64) → noughtB es fs = false → 1 ≤ prodW es fs
  | [], _, _, _, _ => by simp [prodW]
  | _ :: _, [], _, _, _ => by simp [prodW]
  | n :: es, f :: fs, hf, hn, h => by
    rw [nought_cons, Bool.or_eq_false_iff] at h
    unfold prodW
    have h1 := prodW_pos (es := es) (fs := fs) (fun g hg => hf g (List.mem_cons_of_mem _ hg)) (fun m hm => hn m (List.mem_cons_of_mem _ hm)) h.2
    by_cases h0 : n = 0
    · subst h0
      simpa using h1
    · have hp : 0 < n := by have := hn n (by simp); omega
      have h2 : ¬ f.length = 0 := by
        have := h.1
        simp [hp] at this
        simpa using this
      have h3 := val_pos (hf f (by simp)).1 (hf f (by simp)).2 h2
      exact Nat.mul_pos (Nat.pow_pos h3) h1

theorem prodW_nought : ∀ {es : List Int} {fs : List (List Nat)}, noughtB es fs = true → prodW es fs = 0
  | [], _, h => by simp [noughtB] at h
  | _ :: _, [], h => by simp [noughtB] at h
  | n :: es, f :: fs, h => by
    rw [nought_cons, Bool.or_eq_true] at h
    unfold prodW
    rcases h with h | h
    · simp only [Bool.and_eq_true, decide_eq_true_eq, beq_iff_eq] at h
      have : f = [] := List.eq_nil_of_length_eq_zero h.2
      subst this
      have h2 : n.toNat ≠ 0 := by omega
      rw [show val [] = 0 from rfl, Nat.zero_pow (by omega), Nat.zero_mul]
    · rw [prodW_nought h, Nat.mul_zero]

theorem worthGo_spec : ∀ {es : List Int} {fs : List (List Nat)} {c : List Nat} {C : Nat}, (∀ f ∈ fs, Lim f ∧ rightB f = true) → (∀ n ∈ es, 0 ≤ n ∧ n ≤ 64) → noughtB es fs = false → RtY c C → 1 ≤ C →
    worthGo mulL mulE es fs c = ans (C * prodW es fs)
  | [], fs, c, C, _, _, _, hc, _ => by
    unfold worthGo prodW
    rw [Nat.mul_one, ans_ok hc.2, hc.1]
  | _ :: _, [], c, C, _, _, _, hc, _ => by
    unfold worthGo prodW
    rw [Nat.mul_one, ans_ok hc.2, hc.1]
  | n :: es, f :: fs, c, C, hf, hn, h, hc, h1 => by
    have hh := h
    rw [nought_cons, Bool.or_eq_false_iff] at h
    have hf' : ∀ g ∈ fs, Lim g ∧ rightB g = true := fun g hg => hf g (List.mem_cons_of_mem _ hg)
    have hn' : ∀ m ∈ es, 0 ≤ m ∧ m ≤ 64 := fun m hm => hn m (List.mem_cons_of_mem _ hm)
    have hpos := prodW_pos hf' hn' h.2
    unfold worthGo prodW
    by_cases h0 : n = 0
    · subst h0
      rw [if_pos rfl, worthGo_spec hf' hn' h.2 hc h1]
      simp
    · have hp : 0 < n := by have := hn n (by simp); omega
      have h2 : ¬ f.length = 0 := by
        have := h.1
        simp [hp] at this
        simpa using this
      have hfr := hf f (by simp)
      have h3 := val_pos hfr.1 hfr.2 h2
      have hN : 1 ≤ n.toNat := by omega
      have hN2 : n.toNat ≤ 64 := by have := hn n (by simp); omega
      rw [if_neg h0, pow_spec h3 (RtY.of hfr.1 hfr.2) hN hN2]
      have hFp : 1 ≤ val f ^ n.toNat := Nat.pow_pos h3
      by_cases h4 : val f ^ n.toNat < bigN
      · rw [ans_ok h4, if_pos rfl]
        have hR : RtY (limbs (val f ^ n.toNat)) (val f ^ n.toNat) := ⟨rfl, h4⟩
        by_cases h5 : C * val f ^ n.toNat < bigN
        · obtain ⟨e1, r1⟩ := mul_ok hc hR h5
          rw [if_pos e1, worthGo_spec hf' hn' h.2 r1 (Nat.mul_pos h1 hFp), Nat.mul_assoc]
        · obtain ⟨e1, r1⟩ := mul_no hc hR (by omega)
          rw [if_neg (by rw [e1]; decide), e1, ans_no]
          rw [← Nat.mul_assoc]
          exact Nat.le_trans (by omega) (Nat.le_mul_of_pos_right _ hpos)
      · rw [ans_no (by omega), if_neg (by decide), ans_no]
        have h6 : val f ^ n.toNat ≤ C * (val f ^ n.toNat * prodW es fs) := Nat.le_trans (Nat.le_mul_of_pos_right _ hpos) (Nat.le_mul_of_pos_left _ h1)
        omega

theorem worthV_spec {es : List Int} {fs : List (List Nat)} {c : List Nat} {C : Nat} (hf : ∀ f ∈ fs, Lim f ∧ rightB f = true) (hn : ∀ n ∈ es, 0 ≤ n ∧ n ≤ 64) (hc : RtY c C) (h1 : 1 ≤ C) : worthV mulL mulE es fs c = ans (C * prodW es fs) := by
  unfold worthV
  cases h : noughtB es fs
  · rw [if_neg (by simp)]
    exact worthGo_spec hf hn h hc h1
  · rw [if_pos rfl, prodW_nought h, Nat.mul_zero, ans_ok (by unfold bigN; exact Nat.pow_pos (by omega))]
    rfl

/-- What a polynomial is worth. -/
def worthN (ats : List (List Nat)) : List Mn → Nat
  | [] => 0
  | m :: p => val m.1 * prodW m.2 ats + worthN ats p

/-- A monomial's limbs and exponents are right. -/
def GoodM (m : Mn) : Prop := Lim m.1 ∧ rightB m.1 = true ∧ ¬ m.1.length = 0 ∧ ∀ n ∈ m.2, 0 ≤ n ∧ n ≤ 64

theorem valGo_spec {ats : List (List Nat)} (hf : ∀ f ∈ ats, Lim f ∧ rightB f = true) : ∀ {p : List Mn} {t : List Nat} {T : Nat}, (∀ m ∈ p, GoodM m) → RtY t T → valGo ats t p = ans (T + worthN ats p)
  | [], t, T, _, ht => by
    unfold valGo worthN
    rw [Nat.add_zero, ans_ok ht.2, ht.1]
  | m :: p, t, T, hg, ht => by
    obtain ⟨g1, g2, g3, g4⟩ := hg m (by simp)
    unfold valGo worthN
    rw [worthV_spec hf g4 (RtY.of g1 g2) (val_pos g1 g2 g3)]
    by_cases h1 : val m.1 * prodW m.2 ats < bigN
    · rw [ans_ok h1, if_pos rfl]
      have hR : RtY (limbs (val m.1 * prodW m.2 ats)) (val m.1 * prodW m.2 ats) := ⟨rfl, h1⟩
      by_cases h2 : T + val m.1 * prodW m.2 ats < bigN
      · obtain ⟨e1, r1⟩ := add_ok ht hR h2
        rw [if_pos e1, valGo_spec hf (fun n hn => hg n (List.mem_cons_of_mem _ hn)) r1, Nat.add_assoc]
      · obtain ⟨e1, _⟩ := add_no ht hR (by omega)
        rw [if_neg (by rw [e1]; decide), e1, ans_no (by omega)]
    · rw [ans_no (by omega), if_neg (by decide), ans_no (by omega)]

end Go.Proofs.YtdjmjhlbjcgoiaaGreatDoor
