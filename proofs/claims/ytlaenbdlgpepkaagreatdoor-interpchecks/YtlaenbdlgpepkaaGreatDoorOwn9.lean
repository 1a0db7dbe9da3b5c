/- Texts of the proof, one behind the other. -/
import Derived.Test.YtlaenbdlgpepkaaGreatDoorOwn8
import Derived.Test.YtlaenbdlgpepkaaGreatDoorRows
import Derived.ProofKit
import Derived.OpenShut
import Derived.ShutString
import Derived.ChangeOld
import Derived.Deep.Slices
import Derived.Deep.SlicePairs
import Derived.SizedLaws
import Derived.Deep.Upon
/- What AtLeast and Greater answer. -/
namespace Go.Proofs.YtlaenbdlgpepkaaGreatDoor
open Go.RowKit Go.Maps

/-- What of p is left for a monomial of q. -/
def leftP (m : Mn) : List Mn → List Mn
  | [] => []
  | x :: r => if cmpX x.2 m.2 < 0 then leftP m r else x :: r

def atGo : List Mn → List Mn → Bool
  | _, [] => true
  | p, m :: q =>
    match leftP m p with
    | [] => false
    | x :: r => if x.2 = m.2 then if 0 < cmpV m.1 x.1 then false else atGo (x :: r) q else false

def atLeastB (p q : List Mn) : Bool := if checkAllE [p, q] = 0 then atGo p q else false

def greaterB (p q : List Mn) : Bool := atLeastB p q && decide (0 < cmpV (constL p) (constL q))

theorem Ms.tail {w : World} {g off n cap : Nat} {m : Mn} {r : List Mn} (h : Ms w (.slice (some ⟨g, off, none⟩) n cap) (m :: r)) : Ms w (.slice (some ⟨g, off + 2, none⟩) r.length (cap - 1)) r := by
  obtain ⟨ao, cap', hv, hc, hm, hx⟩ := h
  simp only [Value.slice.injEq] at hv
  obtain ⟨hao, hn, rfl⟩ := hv
  simp only [List.length_cons] at hc
  refine ⟨_, _, rfl, by omega, by omega, fun h0 => ⟨g, off + 2, rfl, ?_, ?_⟩⟩
  · obtain ⟨g', off', e, hg, _⟩ := hx (by simp)
    rw [← hao] at e
    cases e
    exact hg
  · obtain ⟨g', off', e, hg, hk⟩ := hx (by simp)
    rw [← hao] at e
    cases e
    intro k x hxk
    have := hk (k + 1) x hxk
    rwa [show off + (k + 1) * 2 = off + 2 + k * 2 by omega] at this

set_option maxRecDepth 100000 in
set_option maxHeartbeats 1000000 in
theorem atLeast_any (v u : Value) (p q : List Mn) (w : World) (h : Ms w v p) (h' : Ms w u q) :
    Calls Tryz.prog 52 #[v, u] w fun e w' => e = .returned (.bool (atLeastB p q)) ∧ Below w.heap.size w w' := by
  obtain ⟨ao, cap, rfl, hao, hca, q0⟩ := Row.flat h
  obtain ⟨bo, cap', rfl, hbo, hcb, q0'⟩ := Row.flat h'
  unfold maxLen at hca hcb
  have HA : Hid (Ms w (.slice ao p.length cap) p) := h
  have HQ : Hid (Ms w (.slice bo q.length cap') q) := h'
  have HP : Hid _ := ps2 h h'
  clear h h' q0 q0'
  go_enter Tryz.func52, Tryz.ntmps52
  go_wp2_with fail
  refine (checkAll_any _ [p, q] _ HP.out).mono ?_
  rintro e w1 ⟨rfl, hb1⟩
  have HB1 : Hid (Below w.heap.size w w1) := below_step (below_alloc _) hb1
  obtain ⟨E, hE⟩ : ∃ E, E = checkAllE [p, q] := ⟨_, rfl⟩
  have HE : Hid (E = checkAllE [p, q]) := hE
  rw [← hE]
  clear hE hb1 HP
  by_cases hE0 : E = 0
  case neg =>
    have hb0 : (E != 0) = true := by rw [bne_iff_ne]; exact hE0
    have HC : Hid (atLeastB p q = false) := by
      show _ = _
      unfold atLeastB
      rw [if_neg (by rw [← HE.out]; exact hE0)]
    go_wp2
    go_ret
    exact ⟨ret1b HC.out.symm, HB1.out⟩
  subst hE0
  have HC : Hid (atLeastB p q = atGo p q) := by
    show _ = _
    unfold atLeastB
    rw [if_pos HE.out.symm]
  go_wp2
  go_loopw [0, 14] (fun x i wr => ∃ (l : Nat) (pc : List Mn), l ≤ q.length ∧ i = .int .i64 l ∧ Ms wr x pc ∧ atGo p q = atGo pc (q.drop l) ∧ Below w.heap.size w wr) (fun _ i _ => q.length - (intOf i).toNat)
  case atStart => exact ⟨0, p, by omega, rfl, HA.out.kp (Kp.of_below HB1.out), rfl, HB1.out⟩
  case round =>
    obtain ⟨l, pc, hl, rfl, hms, hat, hbl⟩ := hrel
    have HMs : Hid (Ms wr u0 pc) := hms
    have HAt : Hid (atGo p q = atGo pc (q.drop l)) := hat
    have HBl : Hid (Below w.heap.size w wr) := hbl
    clear hms hat hbl
    by_cases hll : l < q.length
    · obtain ⟨g', off', d, fs, b1, d1, b2, d2, rfl, hn1, he0, he1, hmn, hj1, hj2, hj3, hj4⟩ := (HQ.out.kp (Kp.of_below HBl.out)).at hll
      have HY : Hid (q[l]? = some (d, fs)) := hn1
      have hba := below_alloc (w := wr) (.cells #[.slice b1 d.length d1, .slice b2 fs.length d2] 37)
      obtain ⟨wb, hwb⟩ : ∃ wb, wb = wr.alloc (.cells #[.slice b1 d.length d1, .slice b2 fs.length d2] 37) := ⟨_, rfl⟩
      have hd0 : wb.cell? ⟨wr.heap.size, 0, none⟩ = some (.slice b1 d.length d1) := by rw [hwb]; simp
      have hd1 : wb.cell? ⟨wr.heap.size, 1, none⟩ = some (.slice b2 fs.length d2) := by rw [hwb]; simp
      have HMn : Hid (Mo wb (.slice b1 d.length d1) (.slice b2 fs.length d2) (d, fs)) := by rw [hwb]; exact hmn.kp (Kp.of_below hba)
      have HMb : Hid (Ms wb u0 pc) := by rw [hwb]; exact HMs.out.kp (Kp.of_below hba)
      have HBb : Hid (Below w.heap.size w wb) := by rw [hwb]; exact below_step HBl.out hba
      have HWb : Hid (wb = wr.alloc (.cells #[.slice b1 d.length d1, .slice b2 fs.length d2] 37)) := hwb
      obtain ⟨G6, hG6⟩ : ∃ G6, G6 = wr.heap.size := ⟨_, rfl⟩
      clear hn1 hmn hba hwb
      go_wp2
      rw [← HWb.out, ← hG6]
      rw [← hG6] at hd0 hd1
      clear hG6 HWb
      go_loopw [0] (fun x ws => ∃ pd : List Mn, Ms ws x pd ∧ leftP (d, fs) pc = leftP (d, fs) pd ∧ ∃ n, ws = wb.drewN n) (fun x _ => lenOfV x)
      case atStart => exact ⟨pc, HMb.out, rfl, 0, rfl⟩
      case round =>
        obtain ⟨pd, hmd, hlp, n, hws⟩ := hrel
        have HLp : Hid (leftP (d, fs) pc = leftP (d, fs) pd) := hlp
        have HWs : Hid (∃ n, wr = wb.drewN n) := ⟨n, hws⟩
        have hw0 : wr.cell? ⟨G6, 0, none⟩ = some (.slice b1 d.length d1) := by rw [hws]; exact hd0
        have hw1 : wr.cell? ⟨G6, 1, none⟩ = some (.slice b2 fs.length d2) := by rw [hws]; exact hd1
        have HBw : Hid (Below w.heap.size w wr) := by rw [hws]; exact below_drewN HBb.out n
        have HIf : Hid (Is wr (.slice b2 fs.length d2) fs) := by rw [hws]; exact HMn.out.2
        have HSd : Hid (Sl wr (.slice b1 d.length d1) d) := by rw [hws]; exact HMn.out.1
        clear hlp hws hd0 hd1
        cases pd with
        | nil =>
          obtain ⟨ao1, cap1, rfl, hc1, hc2, _⟩ := Row.flat hmd
          simp only [List.length_nil]
          have HF : Hid (atLeastB p q = false) := by
            show _ = _
            rw [HC.out, HAt.out, drop_getY HY.out, atGo, HLp.out]
            rfl
          clear hmd
          go_wp2
          go_quiet (fail)
          go_wp2
          go_quiet (fail)
          go_wp2
          go_ret
          exact ⟨ret1b HF.out.symm, below_drewN (below_drewN HBw.out _) _⟩
        | cons x r =>
          obtain ⟨ao1, cap1, rfl, hc1, hc2, q1⟩ := Row.flat hmd
          clear q1
          obtain ⟨c, es⟩ := x
          obtain ⟨g, off, c', es', a1, c3, a2, c2, rfl, hm1, hx0, hx1, hmo, hl1, hl2, hl3, hl4⟩ := hmd.at (k := 0) (by simp)
          simp only [List.getElem?_cons_zero, Option.some.injEq, Prod.mk.injEq] at hm1
          obtain ⟨rfl, rfl⟩ := hm1
          rw [Nat.zero_mul, Nat.add_zero] at hx0 hx1
          unfold maxLen at hc2
          have HTl : Hid (Ms wr (.slice (some ⟨g, off + 2, none⟩) r.length (cap1 - 1)) r) := hmd.tail
          have HMd : Hid (Ms wr (.slice (some ⟨g, off, none⟩) (r.length + 1) cap1) ((c, es) :: r)) := hmd
          have HIs : Hid (Is wr (.slice a2 es.length c2) es) := hmo.2
          have HSc : Hid (Sl wr (.slice a1 c.length c3) c) := hmo.1
          simp only [List.length_cons] at hc1 ⊢
          have hrl : (0 : Int) < (r.length : Int) + 1 := by omega
          have hrb : ((r.length : Int) + 1 == 0) = false := by rw [beq_eq_false_iff_ne]; omega
          clear hmd hmo
          cases hcf : decide (cmpX es fs < 0)
          · have HCf : Hid (decide (cmpX es fs < 0) = false) := hcf
            have hne := of_decide_eq_false hcf
            have HLe : Hid (leftP (d, fs) pc = (c, es) :: r) := by
              show _ = _
              rw [HLp.out, leftP, if_neg hne]
            clear hcf hne
            go_wp2
            go_quiet ((go_at_call 105; exact Calls.quiet_of_same (HCf.out ▸ comesFirst_any _ _ es fs _ (HIs.out.kp (Kp.drewN _ _)) (HIf.out.kp (Kp.drewN _ _)))))
            go_wp2
            obtain ⟨wq, hwq⟩ : ∃ wq, wq = wr.drewN nq := ⟨_, rfl⟩
            have hq0 : wq.cell? ⟨g, off, none⟩ = some (.slice a1 c.length c3) := by rw [hwq]; exact hx0
            have hq1 : wq.cell? ⟨g, off + 1, none⟩ = some (.slice a2 es.length c2) := by rw [hwq]; exact hx1
            have hq2 : wq.cell? ⟨G6, 0, none⟩ = some (.slice b1 d.length d1) := by rw [hwq]; exact hw0
            have hq3 : wq.cell? ⟨G6, 1, none⟩ = some (.slice b2 fs.length d2) := by rw [hwq]; exact hw1
            have HIsq : Hid (Is wq (.slice a2 es.length c2) es) := by rw [hwq]; exact HIs.out
            have HIfq : Hid (Is wq (.slice b2 fs.length d2) fs) := by rw [hwq]; exact HIf.out
            have HScq : Hid (Sl wq (.slice a1 c.length c3) c) := by rw [hwq]; exact HSc.out
            have HSdq : Hid (Sl wq (.slice b1 d.length d1) d) := by rw [hwq]; exact HSd.out
            have HMdq : Hid (Ms wq (.slice (some ⟨g, off, none⟩) (r.length + 1) cap1) ((c, es) :: r)) := by rw [hwq]; exact HMd.out
            have HBq : Hid (Below w.heap.size w wq) := by rw [hwq]; exact below_drewN HBw.out _
            rw [← hwq]
            clear hwq hx0 hx1 hw0 hw1
            by_cases heq : es = fs
            · have HEq : Hid (decide (es = fs) = true) := decide_eq_true heq
              have HEq0 : Hid (es = fs) := heq
              clear heq
              cases hab : decide (0 < cmpV d c)
              · have HAb : Hid (decide (0 < cmpV d c) = false) := hab
                have hna := of_decide_eq_false hab
                have HNx : Hid (atGo p q = atGo ((c, es) :: r) (q.drop (l + 1))) := by
                  show _ = _
                  rw [HAt.out, drop_getY HY.out, atGo, HLe.out]
                  simp only
                  rw [if_pos HEq0.out, if_neg hna]
                clear hab hna
                go_quiet (first
                  | (go_at_call 106; exact Calls.quiet_of (HEq.out ▸ slicesEqual_any _ _ es fs _ (HIsq.out.kp (Kp.drewN _ _)) (HIfq.out.kp (Kp.drewN _ _))))
                  | (go_at_call 103; exact Calls.quiet_of (HAb.out ▸ isAbove_any _ _ d c _ (HSdq.out.kp (Kp.drewN _ _)) (HScq.out.kp (Kp.drewN _ _)))))
                go_wp2
                go_roundw
                case rel => exact ⟨l + 1, (c, es) :: r, by omega, by go_num, HMdq.out.kp (Kp.drewN _ _), HNx.out, below_drewN HBq.out _⟩
                case measure => simp [intOf]; omega
              · have HAb : Hid (decide (0 < cmpV d c) = true) := hab
                have hna := of_decide_eq_true hab
                have HF : Hid (atLeastB p q = false) := by
                  show _ = _
                  rw [HC.out, HAt.out, drop_getY HY.out, atGo, HLe.out]
                  simp only
                  rw [if_pos HEq0.out, if_pos hna]
                clear hab hna
                go_quiet (first
                  | (go_at_call 106; exact Calls.quiet_of (HEq.out ▸ slicesEqual_any _ _ es fs _ (HIsq.out.kp (Kp.drewN _ _)) (HIfq.out.kp (Kp.drewN _ _))))
                  | (go_at_call 103; exact Calls.quiet_of (HAb.out ▸ isAbove_any _ _ d c _ (HSdq.out.kp (Kp.drewN _ _)) (HScq.out.kp (Kp.drewN _ _)))))
                go_wp2
                go_ret
                exact ⟨ret1b HF.out.symm, below_drewN HBq.out _⟩
            · have HEq : Hid (decide (es = fs) = false) := decide_eq_false heq
              have HF : Hid (atLeastB p q = false) := by
                show _ = _
                rw [HC.out, HAt.out, drop_getY HY.out, atGo, HLe.out]
                simp only
                rw [if_neg heq]
              clear heq
              go_quiet ((go_at_call 106; exact Calls.quiet_of (HEq.out ▸ slicesEqual_any _ _ es fs _ (HIsq.out.kp (Kp.drewN _ _)) (HIfq.out.kp (Kp.drewN _ _)))))
              go_wp2
              go_ret
              exact ⟨ret1b HF.out.symm, below_drewN HBq.out _⟩
          · have HCf : Hid (decide (cmpX es fs < 0) = true) := hcf
            have hlt := of_decide_eq_true hcf
            have HLp2 : Hid (leftP (d, fs) pc = leftP (d, fs) r) := by
              show _ = _
              rw [HLp.out, leftP, if_pos hlt]
            clear hcf hlt
            go_wp2
            go_quiet ((go_at_call 105; exact Calls.quiet_of_same (HCf.out ▸ comesFirst_any _ _ es fs _ (HIs.out.kp (Kp.drewN _ _)) (HIf.out.kp (Kp.drewN _ _)))))
            go_wp2
            refine ⟨⟨r, ?_, HLp2.out, ?_⟩, by simp [lenOfV]⟩
            · by_cases hcp : cap1 = 1
              · rw [if_pos hcp]
                obtain rfl : r = [] := List.eq_nil_of_length_eq_zero (by omega)
                exact Row.nil (by unfold maxLen; omega)
              · rw [if_neg hcp]
                exact HTl.out.kp (Kp.drewN _ _)
            · obtain ⟨m, hm⟩ := HWs.out
              exact ⟨_, by rw [hm]; exact World.drewN_drewN _ _ _⟩
    · have hle : l = q.length := by omega
      subst hle
      have HF : Hid (atLeastB p q = true) := by
        show _ = _
        rw [HC.out, HAt.out, List.drop_of_length_le (Nat.le_refl _)]
        simp [atGo]
      go_wp2
      go_ret
      exact ⟨ret1b HF.out.symm, HBl.out⟩

set_option maxRecDepth 100000 in
theorem greater_any (v u : Value) (p q : List Mn) (w : World) (h : Ms w v p) (h' : Ms w u q) :
    Calls Tryz.prog 51 #[v, u] w fun e w' => e = .returned (.bool (greaterB p q)) ∧ Below w.heap.size w w' := by
  have HA : Hid (Ms w v p) := h
  have HB : Hid (Ms w u q) := h'
  go_enter Tryz.func51, Tryz.ntmps51
  go_wp2_with fail
  refine (atLeast_any _ _ p q _ h h').mono ?_
  rintro e w1 ⟨rfl, hb1⟩
  have HB1 : Hid (Below w.heap.size w w1) := hb1
  clear hb1 h h'
  cases ha : atLeastB p q
  · have HG : Hid (greaterB p q = false) := by
      show _ = _
      unfold greaterB
      rw [ha]
      rfl
    clear ha
    go_wp2
    go_ret
    exact ⟨ret1b HG.out.symm, HB1.out⟩
  · have HG : Hid (greaterB p q = decide (0 < cmpV (constL p) (constL q))) := by
      show _ = _
      unfold greaterB
      rw [ha, Bool.true_and]
    clear ha
    go_wp2_with fail
    refine (constant_any _ p _ (HA.out.kp (Kp.of_below HB1.out))).mono ?_
    rintro e w9 ⟨v3, rfl, hs3, hw9⟩
    have hw8 := hw9.symm
    subst hw8
    have HS3 : Hid (Sl w1 v3 (constL p)) := hs3
    clear hw9 hs3
    go_wp2_with fail
    refine (constant_any _ q _ (HB.out.kp (Kp.of_below HB1.out))).mono ?_
    rintro e w9 ⟨v4, rfl, hs4, hw9⟩
    have hw8 := hw9.symm
    subst hw8
    have HS4 : Hid (Sl w1 v4 (constL q)) := hs4
    clear hw9 hs4
    go_wp2_with fail
    refine (isAbove_any _ _ (constL p) (constL q) _ HS3.out HS4.out).mono ?_
    rintro e w9 ⟨rfl, n, rfl⟩
    obtain ⟨B, hB⟩ : ∃ B, B = decide (0 < cmpV (constL p) (constL q)) := ⟨_, rfl⟩
    have HBB : Hid (B = decide (0 < cmpV (constL p) (constL q))) := hB
    rw [← hB]
    clear hB
    go_wp2
    go_ret
    exact ⟨ret1b (HBB.out.trans HG.out.symm), below_drewN HB1.out _⟩

end Go.Proofs.YtlaenbdlgpepkaaGreatDoor

/- The document's small calls of layer 2, and sameNat of the law file. -/
namespace Go.Proofs.YtlaenbdlgpepkaaGreatDoor
open Go.RowKit Go.Maps

/-- A variable's exponent. -/
def expI (es : List Int) (k : Nat) : Int := (es[k]?).getD 0

set_option maxRecDepth 100000 in
theorem refExp_any (v : Value) (es : List Int) (k : Nat) (w : World) (h : Is w v es) (_hk : k ≤ 9223372036854775807) :
    Calls Tryz.prog 148 #[v, .int .i64 (k : Int)] w fun e w' => e = .returned (.int .i64 (expI es k)) ∧ w' = w := by
  obtain ⟨ao, cap, rfl, hao, hca, q0⟩ := Row.flat h
  unfold maxLen at hca
  have HI : Hid (Is w (.slice ao es.length cap) es) := h
  clear h q0
  by_cases hlt : k < es.length
  · obtain ⟨g, off, x, rfl, hx1, hx2, hx3, hx4⟩ := HI.out.at hlt
    have HX : Hid (expI es k = x) := by
      show _ = _
      unfold expI
      rw [hx1]
      rfl
    clear hx1
    go_enter Tryz.func148, Tryz.ntmps148
    go_wp2
    go_ret
    exact ⟨ret1i HX.out.symm, rfl⟩
  · have HX : Hid (expI es k = 0) := by
      show _ = _
      unfold expI
      rw [List.getElem?_eq_none (by omega)]
      rfl
    go_enter Tryz.func148, Tryz.ntmps148
    go_wp2
    go_ret
    exact ⟨ret1i HX.out.symm, rfl⟩

set_option maxHeartbeats 1000000 in
theorem refForm_any (cv ev : Value) (m : Mn) (w : World) (h : Mo w cv ev m) :
    Calls Tryz.prog 91 #[.agg #[cv, ev]] w fun e w' => e = .returned (.bool (monB m)) ∧ Below w.heap.size w w' := by
  obtain ⟨c, es⟩ := m
  obtain ⟨hs, hi⟩ := h
  simp only at hs hi
  have hB := below_alloc (w := w) (.cells #[cv, ev] 37)
  have HB : Hid (Below w.heap.size w (w.alloc (.cells #[cv, ev] 37))) := hB
  have HS : Hid (Sl (w.alloc (.cells #[cv, ev] 37)) cv c) := hs.kp (Kp.of_below hB)
  have hi2 := hi.kp (Kp.of_below hB)
  obtain ⟨ao, cap, rfl, hao, hca, q0⟩ := hs.flat
  obtain ⟨bo, cap', rfl, hbo, hcb, hcl⟩ := hi2.flat
  unfold maxLen at hca hcb
  clear q0 hs hi hi2 hB
  go_enter Tryz.func91, Tryz.ntmps91
  go_wp2_with fail
  refine (refRight_anyY _ _ _ HS.out).mono ?_
  rintro e w9 ⟨rfl, hw9⟩
  have hw8 := hw9.symm
  subst hw8
  clear hw9
  cases hr : rightB c
  · have HR : Hid (rightB c = false) := hr
    clear hr hcl
    go_wp2
    go_ret
    exact ⟨ret1b (monB_noR HR.out).symm, HB.out⟩
  have HR : Hid (rightB c = true) := hr
  clear hr
  obtain ⟨wb, hwb⟩ : ∃ wb, wb = w.alloc (.cells #[.slice ao c.length cap, .slice bo es.length cap'] 37) := ⟨_, rfl⟩
  have hc0 : wb.cell? ⟨w.heap.size, 0, none⟩ = some (.slice ao c.length cap) := by rw [hwb]; simp
  have hc1 : wb.cell? ⟨w.heap.size, 1, none⟩ = some (.slice bo es.length cap') := by rw [hwb]; simp
  rw [← hwb] at HB HS hcl ⊢
  clear hwb
  by_cases h0 : c.length = 0
  · have H0 : Hid (c.length = 0) := h0
    have hb0 : ((c.length : Int) == 0) = true := by rw [beq_iff_eq]; omega
    clear hcl h0
    go_wp2
    go_ret
    exact ⟨ret1b (monB_no0 H0.out).symm, HB.out⟩
  have hb0 : ((c.length : Int) == 0) = false := by rw [beq_eq_false_iff_ne]; omega
  go_wp2
  go_loopw [3] (fun i wr => ∃ k : Nat, k ≤ es.length ∧ i = .int .i64 k ∧ (∀ (j : Nat) (x : Int), j < k → es[j]? = some x → 0 ≤ x) ∧ wr = wb) (fun i _ => es.length - (intOf i).toNat)
  case atStart => exact ⟨0, by omega, rfl, fun j x hj => absurd hj (by omega), rfl⟩
  case round =>
    obtain ⟨k, hk, rfl, hp, hw⟩ := hrel
    subst hw
    have HP : Hid (∀ (j : Nat) (x : Int), j < k → es[j]? = some x → 0 ≤ x) := hp
    clear hp
    by_cases hlt : k < es.length
    · obtain ⟨g, off, x, rfl, hx1, hx2, hx3, hx4⟩ := hcl k hlt
      have HX : Hid (es[k]? = some x) := hx1
      rw [Nat.mul_one] at hx4
      clear hx1 hcl
      by_cases hx : x < 0
      · go_wp2
        go_ret
        exact ⟨ret1b (monB_neg HX.out hx).symm, HB.out⟩
      · go_wp2
        go_roundw
        case rel =>
          refine ⟨k + 1, by omega, by go_num, fun j y hj hy => ?_, trivial⟩
          by_cases hjk : j = k
          · subst hjk; rw [HX.out] at hy; cases hy; omega
          · exact HP.out j y (by omega) hy
        case measure => simp [intOf]; omega
    · have hke : k = es.length := by omega
      subst hke
      have HY : Hid (monB (c, es) = (es.length == 0 || !(es[es.length - 1]? == some 0))) := monB_yes h0 HR.out (fun j x hx => HP.out j x (List.getElem?_eq_some_iff.1 hx).1 hx)
      by_cases hz : es.length = 0
      · have hb1 : ((es.length : Int) == 0) = true := by rw [beq_iff_eq]; omega
        clear hcl
        go_wp2
        go_ret
        exact ⟨ret1b (by rw [HY.out, hz]; rfl), HB.out⟩
      · have hb1 : ((es.length : Int) == 0) = false := by rw [beq_eq_false_iff_ne]; omega
        obtain ⟨g, off, x, rfl, hx1, hx2, hx3, hx4⟩ := hcl (es.length - 1) (by omega)
        rw [Nat.mul_one] at hx4
        have HX : Hid (es[es.length - 1]? = some x) := hx1
        have hpos : 0 < es.length := by omega
        clear hx1 hcl
        go_wp2
        go_ret
        refine ⟨ret1b ?_, HB.out⟩
        have hz' : (es.length == 0) = false := by simpa using hz
        rw [HY.out, HX.out, hz', Bool.false_or, bne, Option.some_beq_some]

end Go.Proofs.YtlaenbdlgpepkaaGreatDoor

/- The document's order and small. -/
namespace Go.Proofs.YtlaenbdlgpepkaaGreatDoor
open Go.RowKit Go.Maps

def ordGo (es fs : List Int) : Nat → Nat → Int
  | 0, _ => 0
  | n + 1, k => if expI es k < expI fs k then -1 else if expI fs k < expI es k then 1 else ordGo es fs n (k + 1)

/-- Which of two rows of exponents comes first, where one that ends goes on with 0. -/
def ordX (es fs : List Int) : Int := ordGo es fs (max es.length fs.length) 0

set_option maxRecDepth 100000 in
set_option maxHeartbeats 800000 in
theorem refOrder_any (v u : Value) (es fs : List Int) (w : World) (h : Is w v es) (h' : Is w u fs) :
    Calls Tryz.prog 92 #[v, u] w fun e w' => e = .returned (.int .i64 (ordX es fs)) ∧ w' = w := by
  obtain ⟨ao, cap, rfl, hao, hca, q0⟩ := Row.flat h
  obtain ⟨bo, cap', rfl, hbo, hcb, q0'⟩ := Row.flat h'
  unfold maxLen at hca hcb
  have HI : Hid (Is w (.slice ao es.length cap) es) := h
  have HJ : Hid (Is w (.slice bo fs.length cap') fs) := h'
  clear h h' q0 q0'
  go_enter Tryz.func92, Tryz.ntmps92
  go_wp2
  go_loopw [5] (fun i wr => ∃ k : Nat, k ≤ max es.length fs.length ∧ i = .int .i64 k ∧ ordX es fs = ordGo es fs (max es.length fs.length - k) k ∧ wr = w) (fun i _ => max es.length fs.length - (intOf i).toNat)
  case atStart => exact ⟨0, by omega, rfl, rfl, rfl⟩
  case round =>
    obtain ⟨k, hk, rfl, ho, hw⟩ := hrel
    have hw8 := hw.symm
    subst hw8
    clear hw
    have HO : Hid (ordX es fs = ordGo es fs (max es.length fs.length - k) k) := ho
    clear ho
    by_cases hend : k < max es.length fs.length
    · have HS : Hid (ordX es fs = if expI es k < expI fs k then -1 else if expI fs k < expI es k then 1 else ordGo es fs (max es.length fs.length - (k + 1)) (k + 1)) := by
        show _ = _
        rw [HO.out, show max es.length fs.length - k = (max es.length fs.length - (k + 1)) + 1 by omega, ordGo]
      have hgo : (k < es.length) ∨ (decide (k < es.length) = false ∧ k < fs.length) := by
        by_cases h1 : k < es.length
        · exact .inl h1
        · exact .inr ⟨decide_eq_false h1, by omega⟩
      have hk6 : k ≤ 9223372036854775807 := by omega
      obtain ⟨X, hX⟩ : ∃ X, X = expI es k := ⟨_, rfl⟩
      obtain ⟨Y, hY⟩ : ∃ Y, Y = expI fs k := ⟨_, rfl⟩
      have HX : Hid (X = expI es k) := hX
      have HY : Hid (Y = expI fs k) := hY
      rw [← hX, ← hY] at HS
      clear hX hY
      have hcon1 := fun W (hh : Is W (.slice ao es.length cap) es) => refExp_any (.slice ao es.length cap) es k W hh hk6
      have hm : (k : Int) + 1 ≤ 9223372036854775807 := by omega
      by_cases h1 : X < Y
      · rw [if_pos h1] at HS
        have HS2 : Hid (ordX es fs = -1) := HS
        rcases hgo with hgo | ⟨hgo, hgo2⟩
        all_goals
          clear hcon1
          go_wp2_with fail
          refine (refExp_any _ es k _ HI.out hk6).mono ?_
          rw [← HX.out]
          rintro e w9 ⟨rfl, hw9⟩
          have hw8 := hw9.symm
          subst hw8
          clear hw9
          go_wp2_with fail
          refine (refExp_any _ fs k _ HJ.out hk6).mono ?_
          rw [← HY.out]
          rintro e w9 ⟨rfl, hw9⟩
          have hw8 := hw9.symm
          subst hw8
          clear hw9
          go_wp2
          go_ret
          exact ⟨ret1i HS2.out.symm, rfl⟩
      by_cases h2 : Y < X
      · rw [if_neg h1, if_pos h2] at HS
        have HS2 : Hid (ordX es fs = 1) := HS
        have hd1 : decide (X < Y) = false := decide_eq_false h1
        have hd2 : decide (Y < X) = true := decide_eq_true h2
        clear h1 h2 HS
        rcases hgo with hgo | ⟨hgo, hgo2⟩
        all_goals
          clear hcon1
          go_wp2_with fail
          refine (refExp_any _ es k _ HI.out hk6).mono ?_
          rw [← HX.out]
          rintro e w9 ⟨rfl, hw9⟩
          have hw8 := hw9.symm
          subst hw8
          clear hw9
          go_wp2_with fail
          refine (refExp_any _ fs k _ HJ.out hk6).mono ?_
          rw [← HY.out]
          rintro e w9 ⟨rfl, hw9⟩
          have hw8 := hw9.symm
          subst hw8
          clear hw9
          go_wp2
          go_ret
          exact ⟨ret1i HS2.out.symm, rfl⟩
      · rw [if_neg h1, if_neg h2] at HS
        have HS2 : Hid (ordX es fs = ordGo es fs (max es.length fs.length - (k + 1)) (k + 1)) := HS
        obtain rfl : X = Y := by omega
        clear h1 h2 HS
        rcases hgo with hgo | ⟨hgo, hgo2⟩
        all_goals
          clear hcon1
          go_wp2_with fail
          refine (refExp_any _ es k _ HI.out hk6).mono ?_
          rw [← HX.out]
          rintro e w9 ⟨rfl, hw9⟩
          have hw8 := hw9.symm
          subst hw8
          clear hw9
          go_wp2_with fail
          refine (refExp_any _ fs k _ HJ.out hk6).mono ?_
          rw [← HY.out]
          rintro e w9 ⟨rfl, hw9⟩
          have hw8 := hw9.symm
          subst hw8
          clear hw9
          go_wp2
          go_roundw
          case rel => exact ⟨k + 1, by omega, by go_num, HS2.out, trivial⟩
          case measure => simp [intOf]; omega
    · have hke : k = max es.length fs.length := by omega
      have HF : Hid (ordX es fs = 0) := by
        show _ = _
        rw [HO.out, hke, Nat.sub_self]
        rfl
      have hd1 : decide (k < es.length) = false := decide_eq_false (by omega)
      have hd2 : decide (k < fs.length) = false := decide_eq_false (by omega)
      clear hke
      go_wp2
      go_ret
      exact ⟨ret1i HF.out.symm, rfl⟩

/-- Whether a monomial is in bounds, as the document's small says it. -/
def smallR (m : Mn) : Bool := m.2.all (fun n => decide (n ≤ 64)) && (decide (m.1.length ≤ 64) && decide (m.2.length ≤ 512))

set_option maxRecDepth 100000 in
set_option maxHeartbeats 800000 in
theorem refSmall_any (cv ev : Value) (m : Mn) (w : World) (h : Mo w cv ev m) :
    Calls Tryz.prog 93 #[.agg #[cv, ev]] w fun e w' => e = .returned (.bool (smallR m)) ∧ Below w.heap.size w w' := by
  obtain ⟨c, es⟩ := m
  obtain ⟨hs, hi⟩ := h
  simp only at hs hi
  have hB := below_alloc (w := w) (.cells #[cv, ev] 37)
  have HB : Hid (Below w.heap.size w (w.alloc (.cells #[cv, ev] 37))) := hB
  have hi2 := hi.kp (Kp.of_below hB)
  obtain ⟨ao, cap, rfl, hao, hca, q0⟩ := hs.flat
  obtain ⟨bo, cap', rfl, hbo, hcb, hcl⟩ := hi2.flat
  unfold maxLen at hca hcb
  clear q0 hs hi hi2 hB
  go_enter Tryz.func93, Tryz.ntmps93
  go_wp2
  obtain ⟨wb, hwb⟩ : ∃ wb, wb = w.alloc (.cells #[.slice ao c.length cap, .slice bo es.length cap'] 37) := ⟨_, rfl⟩
  have hc0 : wb.cell? ⟨w.heap.size, 0, none⟩ = some (.slice ao c.length cap) := by rw [hwb]; simp
  have hc1 : wb.cell? ⟨w.heap.size, 1, none⟩ = some (.slice bo es.length cap') := by rw [hwb]; simp
  rw [← hwb] at HB hcl ⊢
  clear hwb
  go_loopw [3] (fun i wr => ∃ k : Nat, k ≤ es.length ∧ i = .int .i64 k ∧ (∀ (j : Nat) (x : Int), j < k → es[j]? = some x → x ≤ 64) ∧ wr = wb) (fun i _ => es.length - (intOf i).toNat)
  case atStart => exact ⟨0, by omega, rfl, fun j x hj => absurd hj (by omega), rfl⟩
  case round =>
    obtain ⟨k, hk, rfl, hp, hw⟩ := hrel
    subst hw
    have HP : Hid (∀ (j : Nat) (x : Int), j < k → es[j]? = some x → x ≤ 64) := hp
    clear hp
    by_cases hlt : k < es.length
    · obtain ⟨g, off, x, rfl, hx1, hx2, hx3, hx4⟩ := hcl k hlt
      have HX : Hid (es[k]? = some x) := hx1
      rw [Nat.mul_one] at hx4
      clear hx1 hcl
      by_cases hx : x ≤ 64
      · go_wp2
        go_roundw
        case rel =>
          refine ⟨k + 1, by omega, by go_num, fun j y hj hy => ?_, trivial⟩
          by_cases hjk : j = k
          · subst hjk; rw [HX.out] at hy; cases hy; exact hx
          · exact HP.out j y (by omega) hy
        case measure => simp [intOf]; omega
      · have HF : Hid (smallR (c, es) = false) := by
          show _ = _
          have : es.all (fun n => decide (n ≤ 64)) = false := by rw [List.all_eq_false]; exact ⟨x, List.mem_of_getElem? HX.out, by simp; omega⟩
          simp [smallR, this]
        go_wp2
        go_ret
        exact ⟨ret1b HF.out.symm, HB.out⟩
    · have hke : k = es.length := by omega
      subst hke
      have HF : Hid (smallR (c, es) = (decide (c.length ≤ 64) && decide (es.length ≤ 512))) := by
        show _ = _
        have : es.all (fun n => decide (n ≤ 64)) = true := by
          rw [List.all_eq_true]
          intro x hx
          obtain ⟨j, hj⟩ := List.mem_iff_getElem?.1 hx
          simpa using HP.out j x (List.getElem?_eq_some_iff.1 hj).1 hj
        simp only [smallR, this, Bool.true_and]
      clear hcl
      by_cases h64 : c.length ≤ 64
      · have HF2 : Hid (smallR (c, es) = decide (es.length ≤ 512)) := by
          show _ = _
          rw [HF.out, decide_eq_true h64, Bool.true_and]
        go_wp2
        go_ret
        exact ⟨ret1b ((decide_eq_decide.2 (by omega)).trans HF2.out.symm), HB.out⟩
      · have hd : decide (c.length ≤ 64) = false := decide_eq_false h64
        have HF2 : Hid (smallR (c, es) = false) := by
          show _ = _
          rw [HF.out, hd, Bool.false_and]
        go_wp2
        go_ret
        exact ⟨ret1b HF2.out.symm, HB.out⟩

end Go.Proofs.YtlaenbdlgpepkaaGreatDoor

/- one of the law file, and small rows in memory. -/
namespace Go.Proofs.YtlaenbdlgpepkaaGreatDoor
open Go.RowKit Go.Maps

theorem is_two {w : World} {g : Nat} {a b : Int} (ha : -9223372036854775808 ≤ a ∧ a ≤ 9223372036854775807) (hb : -9223372036854775808 ≤ b ∧ b ≤ 9223372036854775807) (h : w.cell? ⟨g, 0, none⟩ = some (.int .i64 a)) (h' : w.cell? ⟨g, 1, none⟩ = some (.int .i64 b)) : Is w (.slice (some ⟨g, 0, none⟩) 2 2) [a, b] := by
  refine ⟨_, 2, rfl, by simp, by simp [maxLen], fun _ => ⟨g, 0, rfl, World.block_lt_of_cell? w _ h, ?_⟩⟩
  intro k x hk
  have hlt := (List.getElem?_eq_some_iff.1 hk).1
  match k, hlt with
  | 0, _ =>
    simp only [List.getElem?_cons_zero, Option.some.injEq] at hk
    subst hk
    exact ⟨ha.1, ha.2, h⟩
  | 1, _ =>
    simp only [List.getElem?_cons_succ, List.getElem?_cons_zero, Option.some.injEq] at hk
    subst hk
    exact ⟨hb.1, hb.2, h'⟩

end Go.Proofs.YtlaenbdlgpepkaaGreatDoor

/- Rows of monomials, rows of limbs and rows of rows that came in, as a row of the claim reads them. -/
namespace Go.Proofs.YtlaenbdlgpepkaaGreatDoor
open Go.ChangeShapes Go.WideShapes Go.ChangeAt Go.RowKit Go.Deep

theorem spot_noneY {w : World} {a : Addr} {v : Value} (h : w.cell? (a.add 0) = some v) : ∃ g off, a = ⟨g, off, none⟩ ∧ g < w.heap.size := by
  obtain ⟨b, off, spot⟩ := a
  have hspot : spot = none := by simpa [Addr.add] using World.cell?_spot h
  subst hspot
  refine ⟨b, off, rfl, ?_⟩
  rw [Addr.add_lit] at h
  exact World.block_lt_of_cell? w _ h

/-- How much memory the rows of monomials take up at the most. -/
def Fit (R : Nat) (p : List Mn) : Prop := p.length * 48 ≤ R ∧ ∀ m ∈ p, m.1.length * 4 ≤ R ∧ m.2.length * 8 ≤ R

theorem weight_headY {H : Type} {P : Program} {t e : TypeId} {d : DataW H} {elems spare : List (DataW H)} (hd : d = .slice elems spare) (hu : P.underlying t = some (.slice e)) : (elems.length + spare.length) * P.bytesOf e ∈ d.weights P t := by
  subst hd
  simp [DataW.weights, hu]

theorem weight_allY {H : Type} {P : Program} {e : TypeId} {d : DataW H} {n : Nat} : ∀ {l : List (DataW H)}, d ∈ l → n ∈ d.weights P e → n ∈ DataW.weightsAll P e l
  | [], h, _ => by cases h
  | x :: r, h, hn => by
    unfold DataW.weightsAll
    rcases List.mem_cons.1 h with rfl | h
    · exact List.mem_append_left _ hn
    · exact List.mem_append_right _ (weight_allY h hn)

theorem weight_elemY {H : Type} {P : Program} {t e : TypeId} {d y : DataW H} {n : Nat} {elems spare : List (DataW H)} (hd : d = .slice elems spare) (hu : P.underlying t = some (.slice e)) (hy : y ∈ elems) (hn : n ∈ y.weights P e) : n ∈ d.weights P t := by
  subst hd
  have := weight_allY hy hn
  simp [DataW.weights, hu, this]

theorem weight_aggY {H : Type} {P : Program} {t u : TypeId} {fs : Array Field} {parts : List (DataW H)} {y : DataW H} {j n : Nat} (hu : P.underlying t = some (.struct fs)) (hj : (fs.toList.map (·.type))[j]? = some u) (hp : parts[j]? = some y) (hn : n ∈ y.weights P u) : n ∈ (DataW.agg parts).weights P t := by
  have := DataW.weights_mem_each hj hp n hn
  simp [DataW.weights, hu, this]

theorem open_limbs {H : Type} {enc : TypeId × Value → H} {W : World} {base fuel : Nat} {held : Bool} {cs : List Value} {x : DataW H × List MemPlace}
    (h : DataW.trod enc Tryz.prog W base (fun _ => true) held fuel 35 cs = some x) : ∃ v xs, cs = [v] ∧ Sl W v xs ∧ ∀ R, (∀ n ∈ x.1.weights Tryz.prog 35, n ≤ R) → xs.length * 4 ≤ R := by
  rcases open_ints Tryz.underlying35 Tryz.underlying38 (by kernel_rfl) h with ⟨rfl, _⟩ | ⟨a, len, cap, zs, rfl, _, hl, hm, hz, hx, hcell, hwz⟩
  · exact ⟨_, [], rfl, ⟨by intro y hy; simp at hy, none, 0, rfl, by simp, by simp [maxLen], by simp⟩, by simp⟩
  · simp only [if_true] at hz
    have hlen : ((zs.take len).map Int.toNat).length = len := by simp; omega
    have hfit : ∀ R, (∀ n ∈ x.1.weights Tryz.prog 35, n ≤ R) → len * 4 ≤ R := by
      intro R hR
      have := hR _ (weight_headY (by rw [hx]) Tryz.underlying35)
      rw [show Tryz.prog.bytesOf 38 = 4 by kernel_rfl] at this
      simp only [lits, List.length_map, List.length_take, List.length_drop] at this
      omega
    refine ⟨_, (zs.take len).map Int.toNat, rfl, ⟨?_, some a, cap, by rw [hlen], by omega, hm, fun h0 => ?_⟩, by rw [hlen]; exact hfit⟩
    · intro y hy
      obtain ⟨z, hz1, rfl⟩ := List.mem_map.1 hy
      have := bounds_u32 (hwz z (List.mem_of_mem_take hz1))
      omega
    · rw [hlen] at h0
      obtain ⟨g, off, rfl, hg⟩ := spot_noneY (hcell 0 (by omega))
      refine ⟨g, off, rfl, hg, fun k y hk => ?_⟩
      have hkl : k < len := by have := (List.getElem?_eq_some_iff.1 hk).1; omega
      have h1 := hcell k (by omega)
      rw [Addr.add_lit] at h1
      rw [h1]
      have hkz : k < zs.length := by omega
      have h2 := bounds_u32 (hwz zs[k] (List.getElem_mem hkz))
      simp only [List.getElem?_map, List.getElem?_take_of_lt hkl, List.getElem?_eq_getElem hkz, Option.map_some, Option.some.injEq] at hk
      rw [List.getD_eq_getElem?_getD, List.getElem?_eq_getElem hkz, Option.getD_some, ← hk]
      congr 2
      omega

theorem open_numsY {H : Type} {enc : TypeId × Value → H} {W : World} {base fuel : Nat} {held : Bool} {cs : List Value} {x : DataW H × List MemPlace}
    (h : DataW.trod enc Tryz.prog W base (fun _ => true) held fuel 30 cs = some x) : ∃ v xs, cs = [v] ∧ Is W v xs ∧ ∀ R, (∀ n ∈ x.1.weights Tryz.prog 30, n ≤ R) → xs.length * 8 ≤ R := by
  rcases open_ints Tryz.underlying30 Tryz.underlying3 (by kernel_rfl) h with ⟨rfl, _⟩ | ⟨a, len, cap, zs, rfl, _, hl, hm, hz, hx, hcell, hwz⟩
  · exact ⟨_, [], rfl, Row.nil (by simp [maxLen]), by simp⟩
  · simp only [if_true] at hz
    have hlen : (zs.take len).length = len := by simp; omega
    have hfit : ∀ R, (∀ n ∈ x.1.weights Tryz.prog 30, n ≤ R) → len * 8 ≤ R := by
      intro R hR
      have := hR _ (weight_headY (by rw [hx]) Tryz.underlying30)
      rw [show Tryz.prog.bytesOf 3 = 8 by kernel_rfl] at this
      simp only [lits, List.length_map, List.length_take, List.length_drop] at this
      omega
    refine ⟨_, zs.take len, rfl, ⟨some a, cap, by rw [hlen], by omega, hm, fun h0 => ?_⟩, by rw [hlen]; exact hfit⟩
    rw [hlen] at h0
    obtain ⟨g, off, rfl, hg⟩ := spot_noneY (hcell 0 (by omega))
    refine ⟨g, off, rfl, hg, fun k y hk => ?_⟩
    have hkl : k < len := by have := (List.getElem?_eq_some_iff.1 hk).1; omega
    have h1 := hcell k (by omega)
    rw [Addr.add_lit] at h1
    have hkz : k < zs.length := by omega
    have h2 := bounds_i64 (hwz zs[k] (List.getElem_mem hkz))
    rw [List.getElem?_take_of_lt hkl, List.getElem?_eq_getElem hkz, Option.some.injEq] at hk
    rw [List.getD_eq_getElem?_getD, List.getElem?_eq_getElem hkz, Option.getD_some] at h1
    subst hk
    rw [Nat.mul_one]
    exact ⟨by omega, by omega, h1⟩

theorem open_monos {H : Type} {enc : TypeId × Value → H} {W : World} {base fuel : Nat} {held : Bool} {cs : List Value} {x : DataW H × List MemPlace}
    (h : DataW.trod enc Tryz.prog W base (fun _ => true) held fuel 31 cs = some x) : ∃ v p, cs = [v] ∧ Ms W v p ∧ ∀ R, (∀ n ∈ x.1.weights Tryz.prog 31, n ≤ R) → Fit R p := by
  rcases open_slice_pairs Tryz.underlying31 Tryz.underlying37 (by kernel_rfl) rfl rfl (by kernel_rfl) (by kernel_rfl) h with ⟨rfl, _⟩ | ⟨a, len, cap, m, n, V0, V1, D0, D1, P0, P1, rfl, _, hl, hm, hmm, hx, hall⟩
  · exact ⟨_, [], rfl, Row.nil (by simp [maxLen]), fun R _ => ⟨by simp, by simp⟩⟩
  · simp only [if_true] at hmm
    have each : ∀ i, i < m → ∃ q : Mn, Mo W (V0 i) (V1 i) q ∧ ∀ R, (∀ n ∈ (D0 i).weights Tryz.prog 35, n ≤ R) → (∀ n ∈ (D1 i).weights Tryz.prog 30, n ≤ R) → q.1.length * 4 ≤ R ∧ q.2.length * 8 ≤ R := by
      intro i hi
      obtain ⟨_, _, t0, t1⟩ := hall i hi
      obtain ⟨v0, c, e0, hc, hf0⟩ := open_limbs t0
      obtain ⟨v1, e, e1, he, hf1⟩ := open_numsY t1
      simp only [List.cons.injEq, and_true] at e0 e1
      subst e0; subst e1
      exact ⟨(c, e), ⟨hc, he⟩, fun R h0 h1 => ⟨hf0 R h0, hf1 R h1⟩⟩
    obtain ⟨q, hq⟩ := choose_lt each
    have hlen : ((List.range len).map q).length = len := by simp
    have hfit : ∀ R, (∀ n ∈ x.1.weights Tryz.prog 31, n ≤ R) → Fit R ((List.range len).map q) := by
      intro R hR
      have hx1 : x.1 = .slice ((List.range len).map fun i => .agg [D0 i, D1 i]) ((List.range (m - len)).map fun j => .agg [D0 (len + j), D1 (len + j)]) := by rw [hx]
      refine ⟨?_, fun y hy => ?_⟩
      · have := hR _ (weight_headY hx1 Tryz.underlying31)
        rw [show Tryz.prog.bytesOf 37 = 48 by kernel_rfl] at this
        simp only [List.length_map, List.length_range] at this
        rw [hlen]
        omega
      · obtain ⟨i, hi, rfl⟩ := List.mem_map.1 hy
        have hi2 := List.mem_range.1 hi
        have hin : ∀ n ∈ (DataW.agg [D0 i, D1 i]).weights Tryz.prog 37, n ≤ R := fun n hn => hR n (weight_elemY hx1 Tryz.underlying31 (List.mem_map.2 ⟨i, hi, rfl⟩) hn)
        refine (hq i (by omega)).2 R (fun n hn => hin n ?_) (fun n hn => hin n ?_)
        · exact weight_aggY Tryz.underlying37 (j := 0) rfl rfl hn
        · exact weight_aggY Tryz.underlying37 (j := 1) rfl rfl hn
    refine ⟨_, (List.range len).map q, rfl, ⟨some a, cap, by rw [hlen], by omega, hm, fun h0 => ?_⟩, hfit⟩
    rw [hlen] at h0
    obtain ⟨g, off, rfl, hg⟩ := spot_noneY (hall 0 (by omega)).1
    refine ⟨g, off, rfl, hg, fun k y hk => ?_⟩
    have hkl : k < len := by have := (List.getElem?_eq_some_iff.1 hk).1; omega
    obtain ⟨h0, h1, _⟩ := hall k (by omega)
    rw [Addr.add_lit] at h0 h1
    simp only [List.getElem?_map, List.getElem?_range hkl, Option.map_some, Option.some.injEq] at hk
    subst hk
    exact ⟨V0 k, V1 k, h0, h1, (hq k (by omega)).1⟩

end Go.Proofs.YtlaenbdlgpepkaaGreatDoor

/- copied of the law file: monomials of one's own. -/
namespace Go.Proofs.YtlaenbdlgpepkaaGreatDoor
open Go.RowKit Go.Maps

theorem info_u32c : (Tryz.prog.info? 38).map (fun i => (i.zero, i.size, i.bytes)) = some (some (.int .u32 0), 1, 4) := by kernel_rfl

theorem under_u32s : Tryz.prog.underlying 35 = some (.slice 38) := by kernel_rfl

/-- Limbs appended to a row of one's own without any. -/
theorem copy_limbs (ty : TypeId) {w : World} {base g : Nat} {u : Value} {c : List Nat} (ho : w.ownsRow base 38 1 (.slice (some ⟨g, 0, none⟩) 0 0) 0 []) (hs : Sl w u c) (hb : base ≤ w.heap.size) (hl : c.length * 4 ≤ 140737488355328) :
    ∃ v' w', (Builtin.append_ #[35, 35] ty #[.slice (some ⟨g, 0, none⟩) 0 0, u]).run Tryz.prog w = .ok v' w' ∧ Ow w' base v' c ∧ w.grownBy w' (some g) := by
  obtain ⟨i0, hi, hz0, hz1, hz2⟩ := info_parts info_u32c
  obtain ⟨hlim, ao, cap, rfl, hc, hm, hx⟩ := hs
  by_cases h0 : c.length = 0
  · obtain rfl : c = [] := List.eq_nil_of_length_eq_zero h0
    refine ⟨_, w, run_append_nothing w 35 35 ty 38 i0 under_u32s hi _ 0 0 (Nat.le_refl _) _ ?_, ⟨hlim, ho⟩, World.grownBy.refl _ _⟩
    cases ao with
    | none => exact Src.ofNil w under_u32s _
    | some a => exact Src.ofSlice w under_u32s a 0 _ [] (by simp) (fun j u hj => (by simp at hj)) (fun u hu => (by simp at hu))
  · obtain ⟨g', off, rfl, hg, hcell⟩ := hx (by omega)
    obtain ⟨v', w', hr, h2, h3, _, _⟩ := run_append_own_at (P := Tryz.prog) w base 35 ty 38 i0 _ 1 4 under_u32s hi hz0 hz1 hz2 rfl (by decide) _ 0 [] ho ⟨g', off, none⟩ c.length cap (c.map fun (x : Nat) => Value.int .u32 (x : Int)) (by simp) (fun j u hj => by
      rw [List.getElem?_map] at hj
      cases hk : c[j]? with
      | none => rw [hk] at hj; simp at hj
      | some x =>
        rw [hk] at hj
        simp at hj
        subst hj
        rw [Addr.add_lit]
        exact hcell j x hk) (fun u hu => by obtain ⟨x, _, rfl⟩ := List.mem_map.1 hu; rfl) (by unfold maxLen at hm ⊢; omega) (by omega) hb
    refine ⟨v', w', hr, ⟨hlim, ?_⟩, h3⟩
    rw [Nat.zero_add, List.nil_append] at h2
    exact h2

end Go.Proofs.YtlaenbdlgpepkaaGreatDoor

/- copied of the law file: monomials of one's own. -/
namespace Go.Proofs.YtlaenbdlgpepkaaGreatDoor
open Go.RowKit Go.Maps

theorem OM.empty {w : World} {base : Nat} (hb : base ≤ w.heap.size) : OM (w.alloc (.cells #[] 37)) base (.slice (some ⟨w.heap.size, 0, none⟩) 0 0) [] :=
  ⟨[], rfl, fun i c m h => (by simp at h), rfl, .inr ⟨w.heap.size, 0, #[], rfl, hb, heap_alloc_new _ _, Nat.le_refl _, Nat.zero_le _, rfl, rfl⟩⟩

end Go.Proofs.YtlaenbdlgpepkaaGreatDoor

/- What a polynomial is worth, as a natural. -/
namespace Go.Proofs.YtlaenbdlgpepkaaGreatDoor
open Go.RowKit Go.Maps

/-- The least natural that has too many limbs. -/
def bigN : Nat := 4294967296 ^ 64

theorem limbs_short (n : Nat) : (limbs n).length ≤ 64 ↔ n < bigN := by
  refine ⟨fun h => ?_, fun h => length_limbs_le h⟩
  have h1 := val_lt (limbs_lim n)
  rw [val_limbs] at h1
  exact Nat.lt_of_lt_of_le h1 (Nat.pow_le_pow_right (by omega) h)

/-- The limbs of a natural that has not too many of them. -/
def RtY (xs : List Nat) (n : Nat) : Prop := xs = limbs n ∧ n < bigN

theorem RtY.right {xs : List Nat} {n : Nat} (h : RtY xs n) : rightB xs = true := by
  rw [h.1, rightB_limbs]
  exact decide_eq_true ((limbs_short n).2 h.2)

theorem RtY.val {xs : List Nat} {n : Nat} (h : RtY xs n) : val xs = n := by rw [h.1, val_limbs]

theorem RtY.of {xs : List Nat} (h : Lim xs) (hr : rightB xs = true) : RtY xs (Go.Proofs.YtlaenbdlgpepkaaGreatDoor.val xs) :=
  ⟨(limbs_val_of_right h hr).symm, (limbs_short _).1 (by rw [limbs_val_of_right h hr]; exact length_le_of_right hr)⟩

theorem res_ok {n : Nat} (h : n < bigN) : resL n = limbs n ∧ resE n = 0 := by
  unfold resL resE
  rw [if_pos ((limbs_short n).2 h), if_pos ((limbs_short n).2 h)]
  exact ⟨rfl, rfl⟩

theorem res_no {n : Nat} (h : bigN ≤ n) : resL n = [] ∧ resE n = 2 := by
  have : ¬ (limbs n).length ≤ 64 := fun hh => by have := (limbs_short n).1 hh; omega
  unfold resL resE
  rw [if_neg this, if_neg this]
  exact ⟨rfl, rfl⟩

theorem mul_ok {xs ys : List Nat} {a b : Nat} (h : RtY xs a) (h' : RtY ys b) (hb : a * b < bigN) : mulE xs ys = 0 ∧ RtY (mulL xs ys) (a * b) := by
  unfold mulE mulL
  rw [h.right, h'.right, h.val, h'.val, (res_ok hb).1, (res_ok hb).2]
  exact ⟨rfl, rfl, hb⟩

theorem mul_no {xs ys : List Nat} {a b : Nat} (h : RtY xs a) (h' : RtY ys b) (hb : bigN ≤ a * b) : mulE xs ys = 2 ∧ mulL xs ys = [] := by
  unfold mulE mulL
  rw [h.right, h'.right, h.val, h'.val, (res_no hb).1, (res_no hb).2]
  exact ⟨rfl, rfl⟩

theorem add_ok {xs ys : List Nat} {a b : Nat} (h : RtY xs a) (h' : RtY ys b) (hb : a + b < bigN) : addE xs ys = 0 ∧ RtY (addL xs ys) (a + b) := by
  unfold addE addL
  rw [h.right, h'.right, h.val, h'.val, (res_ok hb).1, (res_ok hb).2]
  exact ⟨rfl, rfl, hb⟩

theorem add_no {xs ys : List Nat} {a b : Nat} (h : RtY xs a) (h' : RtY ys b) (hb : bigN ≤ a + b) : addE xs ys = 2 ∧ addL xs ys = [] := by
  unfold addE addL
  rw [h.right, h'.right, h.val, h'.val, (res_no hb).1, (res_no hb).2]
  exact ⟨rfl, rfl⟩

theorem bit_top {n : Nat} (h1 : 1 ≤ n) (h2 : n ≤ 64) : n / 2 ^ (Lib.bitLen n - 1) = 1 := by
  have h : ∀ k : Fin 65, 1 ≤ k.1 → k.1 / 2 ^ (Lib.bitLen k.1 - 1) = 1 := by decide +kernel
  exact h ⟨n, by omega⟩ h1

theorem val_pos {f : List Nat} (h : Lim f) (hr : rightB f = true) (h0 : ¬ f.length = 0) : 1 ≤ val f := by
  rcases Nat.eq_zero_or_pos (val f) with h1 | h1
  · have := limbs_val_of_right h hr
    rw [h1, limbs_zero] at this
    rw [← this] at h0
    exact absurd rfl h0
  · exact h1

/-- A monomial's limbs and exponents are right. -/
def GoodM (m : Mn) : Prop := Lim m.1 ∧ rightB m.1 = true ∧ ¬ m.1.length = 0 ∧ ∀ n ∈ m.2, 0 ≤ n ∧ n ≤ 64

end Go.Proofs.YtlaenbdlgpepkaaGreatDoor

/- Greater is greater: plain data. -/
namespace Go.Proofs.YtlaenbdlgpepkaaGreatDoor
open Go.RowKit Go.Maps

def SortedX : List Mn → Prop
  | [] => True
  | [_] => True
  | m :: n :: r => cmpX m.2 n.2 < 0 ∧ SortedX (n :: r)

theorem SortedX.tail {m : Mn} {r : List Mn} (h : SortedX (m :: r)) : SortedX r := by
  cases r with
  | nil => exact trivial
  | cons n r => exact h.2

theorem SortedX.head {m n : Mn} {r : List Mn} (h : SortedX (m :: r)) (hn : r[0]? = some n) : cmpX m.2 n.2 < 0 := by
  cases r with
  | nil => simp at hn
  | cons n' r =>
    simp at hn
    subst hn
    exact h.1

theorem sortedX_of {p : List Mn} (h : ∀ k m n, p[k]? = some m → p[k + 1]? = some n → cmpX m.2 n.2 < 0) : SortedX p := by
  induction p with
  | nil => exact trivial
  | cons m r ih =>
    cases r with
    | nil => exact trivial
    | cons n r => exact ⟨h 0 m n rfl rfl, ih fun k a b ha hb => h (k + 1) a b ha hb⟩

theorem polyB_sorted {p : List Mn} {vars : Int} (h : polyB p vars = true) : SortedX p := by
  refine sortedX_of fun k m n hm hn => ?_
  have := polyB_iff.1 h (k + 1) (List.getElem?_eq_some_iff.1 hn).1
  unfold okAt at this
  simp only [Bool.and_eq_true, Bool.or_eq_true, beq_iff_eq, decide_eq_true_eq] at this
  have h2 := this.2.resolve_left (by omega)
  unfold expsAt at h2
  rw [Nat.add_sub_cancel, hm, hn] at h2
  exact h2

theorem polyB_good {p : List Mn} {vars : Int} (h : polyB p vars = true) {m : Mn} (hm : m ∈ p) : monB m = true ∧ (m.2.length : Int) ≤ vars := by
  obtain ⟨k, hk⟩ := List.mem_iff_getElem?.1 hm
  have := polyB_iff.1 h k (List.getElem?_eq_some_iff.1 hk).1
  unfold okAt at this
  rw [hk] at this
  simp only [Bool.and_eq_true, decide_eq_true_eq] at this
  exact this.1

/-- A polynomial that Check lets by. -/
structure Pol (p : List Mn) : Prop where
  lim : ∀ m ∈ p, Lim m.1
  mon : ∀ m ∈ p, monB m = true
  sort : SortedX p
  small : ∀ m ∈ p, m.2.length ≤ 512 ∧ ∀ n ∈ m.2, n ≤ 64
  len : p.length ≤ 256

theorem check_iff {p : List Mn} {vars : Int} (hv : ¬ vars < 0) : checkE p vars = 0 ↔ polyB p vars = true ∧ boundsB p = true := by
  unfold checkE
  rw [if_neg hv]
  cases hp : polyB p vars <;> cases hb : boundsB p <;> simp

theorem Pol.of {p : List Mn} {vars : Int} (hl : ∀ m ∈ p, Lim m.1) (hv : ¬ vars < 0) (h : checkE p vars = 0) : Pol p := by
  obtain ⟨h1, h2⟩ := (check_iff hv).1 h
  simp only [boundsB, smallB, Bool.and_eq_true, decide_eq_true_eq, List.all_eq_true] at h2
  exact ⟨hl, fun m hm => (polyB_good h1 hm).1, polyB_sorted h1, h2.2, h2.1⟩

theorem Pol.good {p : List Mn} (h : Pol p) {m : Mn} (hm : m ∈ p) : GoodM m := by
  have h1 := h.mon m hm
  obtain ⟨c, es⟩ := m
  simp only [monB, Bool.and_eq_true, List.all_eq_true, decide_eq_true_eq, Bool.not_eq_true', beq_eq_false_iff_ne, ne_eq] at h1
  exact ⟨h.lim _ hm, h1.1.1.2, h1.1.1.1, fun n hn => ⟨h1.1.2 n hn, (h.small _ hm).2 n hn⟩⟩

theorem okAt_vars {p : List Mn} {a b : Int} {k : Nat} (h : okAt p a k = true) (hb : ∀ m, p[k]? = some m → (m.2.length : Int) ≤ b) : okAt p b k = true := by
  unfold okAt at h ⊢
  cases hk : p[k]? with
  | none => rw [hk] at h; simp at h
  | some m =>
    rw [hk] at h
    simp only [Bool.and_eq_true, decide_eq_true_eq] at h ⊢
    exact ⟨⟨h.1.1, hb m hk⟩, h.2⟩

/-- How many variables are asked for does not matter, where there are enough. -/
theorem check_vars {p : List Mn} {a b : Int} (ha : ¬ a < 0) (hb : 512 ≤ b) (h : checkE p a = 0) : checkE p b = 0 := by
  obtain ⟨h1, h2⟩ := (check_iff ha).1 h
  refine (check_iff (by omega)).2 ⟨polyB_iff.2 fun k hk => okAt_vars (polyB_iff.1 h1 k hk) fun m hm => ?_, h2⟩
  simp only [boundsB, smallB, Bool.and_eq_true, decide_eq_true_eq, List.all_eq_true] at h2
  have := (h2.2 m (List.mem_of_getElem? hm)).1
  omega

theorem varsN_iff {p : List Mn} {B : Nat} : varsN p ≤ B ↔ ∀ m ∈ p, m.2.length ≤ B := by
  have key : ∀ (p : List Mn) (a : Nat), p.foldl (fun a m => max a m.2.length) a ≤ B ↔ a ≤ B ∧ ∀ m ∈ p, m.2.length ≤ B := by
    intro p
    induction p with
    | nil => intro a; simp
    | cons m r ih =>
      intro a
      rw [List.foldl_cons, ih, Nat.max_le]
      simp only [List.mem_cons, forall_eq_or_imp, and_assoc]
  unfold varsN
  rw [key]
  simp

theorem checkAll2_iff {p q : List Mn} : checkAllE [p, q] = 0 ↔ checkE p 9223372036854775807 = 0 ∧ checkE q 9223372036854775807 = 0 := by
  simp only [checkAllE]
  by_cases h1 : checkE p 9223372036854775807 = 0
  · rw [if_pos h1]
    by_cases h2 : checkE q 9223372036854775807 = 0
    · simp [h1, h2]
    · simp [h1, h2]
  · simp [h1]

theorem checkAll1_iff {p : List Mn} : checkAllE [p] = 0 ↔ checkE p 9223372036854775807 = 0 := by
  simp only [checkAllE]
  by_cases h1 : checkE p 9223372036854775807 = 0 <;> simp [h1]

theorem rt_nil : RtY [] 0 := ⟨rfl, Nat.pow_pos (by omega)⟩

end Go.Proofs.YtlaenbdlgpepkaaGreatDoor

/- What sums and products are worth: plain data. -/
namespace Go.Proofs.YtlaenbdlgpepkaaGreatDoor
open Go.RowKit Go.Maps

theorem top_split (ks : List Nat) : ∃ n, ks = ks.take (topK ks) ++ List.replicate n 0 := by
  have h1 : ks = (ks.reverse.dropWhile (· == 0)).reverse ++ (ks.reverse.takeWhile (· == 0)).reverse := by
    rw [← List.reverse_append, List.takeWhile_append_dropWhile, List.reverse_reverse]
  have h2 : ks.take (topK ks) = (ks.reverse.dropWhile (· == 0)).reverse := by
    unfold topK
    have := congrArg (List.take (ks.reverse.dropWhile (· == 0)).length) h1
    rw [this, List.take_left' (by simp)]
  refine ⟨(ks.reverse.takeWhile (· == 0)).length, ?_⟩
  rw [h2]
  have h3 : (ks.reverse.takeWhile (· == 0)).reverse = List.replicate (ks.reverse.takeWhile (· == 0)).length 0 := by
    rw [List.eq_replicate_iff]
    refine ⟨by simp, fun b hb => ?_⟩
    have := List.mem_reverse.1 hb
    have hall : ∀ (l : List Nat) (x : Nat), x ∈ l.takeWhile (· == 0) → x = 0 := by
      intro l
      induction l with
      | nil => intro x hx; simp at hx
      | cons a l ih =>
        intro x hx
        rw [List.takeWhile_cons] at hx
        split at hx
        · rename_i ha
          rcases List.mem_cons.1 hx with rfl | hx
          · simpa using ha
          · exact ih x hx
        · simp at hx
    exact hall _ b this
  rw [← h3]
  exact h1

theorem map_ofNat (l : List Nat) : (l.map Int.ofNat).map Int.toNat = l := by
  rw [List.map_map]
  conv => rhs; rw [← List.map_id l]
  exact List.map_congr_left fun x _ => rfl

theorem coefK_head {p : List Nat × List Nat} {r : LkY} : coefK (p :: r) p.1 = p.2 := by simp [coefK]

theorem coefK_tail {p : List Nat × List Nat} {r : LkY} {k : List Nat} (h : ¬ k = p.1) : coefK (p :: r) k = coefK r k := by
  have hb : (p.1 == k) = false := by rw [beq_eq_false_iff_ne]; exact fun e => h e.symm
  unfold coefK
  rw [List.find?_cons, hb]

theorem rising_nil : Rising [] := List.Pairwise.nil

end Go.Proofs.YtlaenbdlgpepkaaGreatDoor
