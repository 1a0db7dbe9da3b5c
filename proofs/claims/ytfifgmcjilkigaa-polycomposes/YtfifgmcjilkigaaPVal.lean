/- What Value answers. -/
import Derived.Test.YtfifgmcjilkigaaPCompW
namespace Go.Proofs.Ytfifgmcjilkigaa
open Go.RowKit Go.Maps

set_option maxRecDepth 100000 in
set_option maxHeartbeats 600000 in
theorem value_own (v av : Value) (p : List Mn) (ats : List (List Nat)) (w : World) (h : Ms w v p) (h' : Rs w av ats) :
    Calls Try.prog 25 #[v, av] w fun e w' => ∃ v', e = .returned (.tuple #[v', .int .i64 (valE p ats)]) ∧ Ow w' w.heap.size v' (valL p ats) ∧ Below w.heap.size w w' := by
  obtain ⟨ao, cap, rfl, hao, hca, q0⟩ := Row.flat h
  obtain ⟨bo, cap', rfl, hbo, hcb, q0'⟩ := Row.flat h'
  unfold maxLen at hca hcb
  have HP : Hid (Ms w (.slice ao p.length cap) p) := h
  have HQ : Hid (Rs w (.slice bo ats.length cap') ats) := h'
  have H1 : Hid _ := ps1 h
  clear h h' q0 q0'
  go_enter Try.func25, Try.ntmps25
  go_wp2_with fail
  refine (checkAll_any _ [p] _ H1.out).mono ?_
  rintro e w1 ⟨rfl, hb1⟩
  have HB1 : Hid (Below w.heap.size w w1) := below_step (below_alloc _) hb1
  obtain ⟨E, hE⟩ : ∃ E, E = checkAllE [p] := ⟨_, rfl⟩
  have HE : Hid (E = checkAllE [p]) := hE
  rw [← hE]
  clear hE hb1 H1
  by_cases hE0 : E = 0
  case neg =>
    have hb0 : (E != 0) = true := by rw [bne_iff_ne]; exact hE0
    have hc : valE p ats = E := by unfold valE; rw [if_neg (by rw [← HE.out]; exact hE0)]; exact HE.out.symm
    have HC : Hid (valE p ats = E ∧ valL p ats = []) := ⟨hc, by unfold valL; rw [hc, if_neg hE0]⟩
    clear hc
    go_wp2
    go_ret2
    exact ⟨_, ret2i HC.out.1.symm, by rw [HC.out.2]; exact Ow.nil _ _, HB1.out⟩
  subst hE0
  have HSp : Hid (DomM p) := small_of_check (checkAll1 HE.out.symm)
  go_wp2_with fail
  refine (variables_any _ p _ (HP.out.kp (Kp.of_below HB1.out))).mono ?_
  rintro e w3 ⟨rfl, hb3⟩
  have HB3 : Hid (Below w.heap.size w w3) := below_step HB1.out hb3
  obtain ⟨N, hN⟩ : ∃ N, N = varsN p := ⟨_, rfl⟩
  have HN : Hid (N = varsN p) := hN
  rw [← hN]
  clear hN hb3
  by_cases hNa : N ≤ ats.length
  case neg =>
    have hc : valE p ats = 21 := by unfold valE; rw [if_pos HE.out.symm, if_neg (by rw [← HN.out]; exact hNa)]
    have HC : Hid (valE p ats = 21 ∧ valL p ats = []) := ⟨hc, by unfold valL; rw [hc]; rfl⟩
    clear hc
    go_wp2
    go_ret2
    exact ⟨_, ret2i HC.out.1.symm, by rw [HC.out.2]; exact Ow.nil _ _, HB3.out⟩
  have hdec : decide (ats.length < N) = false := decide_eq_false (by omega)
  go_wp2
  go_loopw [27] (fun i wr => ∃ k : Nat, k ≤ ats.length ∧ i = .int .i64 k ∧ (∀ (j : Nat) (x : List Nat), j < k → ats[j]? = some x → rightB x = true) ∧ wr = w3) (fun i _ => ats.length - (intOf i).toNat)
  case atStart => exact ⟨0, by omega, rfl, fun j x hj => absurd hj (by omega), rfl⟩
  case round =>
    obtain ⟨k, hk, rfl, hp, hw⟩ := hrel
    have hw8 := hw.symm
    subst hw8
    clear hw
    have HPk : Hid (∀ (j : Nat) (x : List Nat), j < k → ats[j]? = some x → rightB x = true) := hp
    clear hp
    by_cases hlt : k < ats.length
    · obtain ⟨g2, off2, f, a1, c1, rfl, hy1, hy2, hy3, hy4, hy5⟩ := (HQ.out.kp (Kp.of_below HB3.out)).at hlt
      have HY : Hid (ats[k]? = some f) := hy1
      have HFr : Hid (Sl w3 (.slice a1 f.length c1) f) := hy3
      clear hy1 hy3
      go_wp2_with fail
      refine (right_any _ f _ HFr.out).mono ?_
      rintro e w9 ⟨rfl, hw9⟩
      have hw8 := hw9.symm
      subst hw8
      clear hw9
      cases hr : rightB f
      · have hc : valE p ats = 10 := by
          unfold valE
          rw [if_pos HE.out.symm, if_pos (by rw [← HN.out]; exact hNa), if_neg]
          rw [Bool.not_eq_true, List.all_eq_false]
          exact ⟨f, List.mem_of_getElem? HY.out, by rw [hr]; simp⟩
        have HC : Hid (valE p ats = 10 ∧ valL p ats = []) := ⟨hc, by unfold valL; rw [hc]; rfl⟩
        clear hc hr
        go_wp2
        go_ret2
        exact ⟨_, ret2i HC.out.1.symm, by rw [HC.out.2]; exact Ow.nil _ _, HB3.out⟩
      · have HR : Hid (rightB f = true) := hr
        clear hr
        go_wp2
        go_roundw
        case rel =>
          refine ⟨k + 1, by omega, by go_num, fun j x hj h1 => ?_, trivial⟩
          by_cases hjk : j = k
          · subst hjk; rw [HY.out] at h1; cases h1; exact HR.out
          · exact HPk.out j x (by omega) h1
        case measure => simp [intOf]; omega
    · have hke : k = ats.length := by omega
      subst hke
      have hall : ats.all rightB = true := by
        rw [List.all_eq_true]
        intro x hx
        obtain ⟨j, hj⟩ := List.mem_iff_getElem?.1 hx
        exact HPk.out j x (List.getElem?_eq_some_iff.1 hj).1 hj
      have HCE : Hid (valE p ats = (valGo ats [] p).2) := by
        show _ = _
        unfold valE
        rw [if_pos HE.out.symm, if_pos (by rw [← HN.out]; exact hNa), if_pos hall]
      clear hall HPk
      go_wp2
      go_loopw [9, 37] (fun x i wr => ∃ (k : Nat) (t : List Nat), k ≤ p.length ∧ i = .int .i64 k ∧ valGo ats [] p = valGo ats t (p.drop k) ∧ Ow wr w.heap.size x t ∧ Below w.heap.size w wr) (fun _ i _ => p.length - (intOf i).toNat)
      case atStart => exact ⟨0, [], by omega, rfl, rfl, Ow.nil _ _, HB3.out⟩
      case round =>
        obtain ⟨k, t, hk, rfl, hpu, hst, hbl⟩ := hrel
        have HPr : Hid (valGo ats [] p = valGo ats t (p.drop k)) := hpu
        have HSt : Hid (Ow wr w.heap.size u9 t) := hst
        have HBl : Hid (Below w.heap.size w wr) := hbl
        clear hpu hst hbl
        by_cases hlt : k < p.length
        · obtain ⟨g, off, c, es, a1, c1, a2, c2, rfl, hm1, hc0, hc1, hmm, hl1, hl2, hl3, hl4⟩ := (HP.out.kp (Kp.of_below HBl.out)).at hlt
          have HX : Hid (p[k]? = some (c, es)) := hm1
          have HSm : Hid (Small es) := HSp.out k _ hm1
          have hle : es.length ≤ ats.length := Nat.le_trans (varsN_ge hm1) (by rw [← HN.out]; exact hNa)
          have hbx := below_alloc (w := wr) (.cells #[.slice a1 c.length c1, .slice a2 es.length c2] 46)
          have HMm : Hid (Mo (wr.alloc (.cells #[.slice a1 c.length c1, .slice a2 es.length c2] 46)) (.slice a1 c.length c1) (.slice a2 es.length c2) (c, es)) := hmm.kp (Kp.of_below hbx)
          have HBx : Hid (Below wr.heap.size wr (wr.alloc (.cells #[.slice a1 c.length c1, .slice a2 es.length c2] 46))) := hbx
          clear hm1 hmm hbx
          go_wp2_with fail
          refine (worthN_any 53 _ _ _ c es ats _ timesN (fun _ _ _ _ _ => trivial) HMm.out.1 HMm.out.2 ((HQ.out.kp (Kp.of_below HBl.out)).kp (Kp.of_below HBx.out)) trivial (fun _ _ => trivial) HSm.out hle enterN).mono ?_
          rintro e w4 ⟨v4, rfl, ho4, hb4⟩
          obtain ⟨PW, hPW⟩ : ∃ PW, PW = worthV mulL mulE es ats c := ⟨_, rfl⟩
          have HPW : Hid (PW = worthV mulL mulE es ats c) := hPW
          rw [← hPW] at ho4 ⊢
          have HO4 : Hid (Sl w4 v4 PW.1) := ho4
          have hb04 := below_step HBx.out hb4
          have HSt4 : Hid (Sl w4 u9 t) := HSt.out.sl.kp (Kp.of_below hb04)
          have HB4 : Hid (Below w.heap.size w w4) := below_step HBl.out hb04
          obtain ⟨E1, hE1⟩ : ∃ E1, E1 = PW.2 := ⟨_, rfl⟩
          have HE1 : Hid (E1 = PW.2) := hE1
          rw [← hE1]
          clear hPW hE1 ho4 hb4 hb04
          by_cases h1 : E1 = 0
          · subst h1
            go_wp2_with fail
            refine (add_any _ _ t PW.1 _ HSt4.out HO4.out).mono ?_
            rintro e w5 ⟨v5, rfl, ho5, hb5⟩
            have HO5 : Hid (Ow w5 w.heap.size v5 (addL t PW.1)) := ho5.mono HB4.out.size
            have HB5 : Hid (Below w.heap.size w w5) := below_step HB4.out hb5
            obtain ⟨E2, hE2⟩ : ∃ E2, E2 = addE t PW.1 := ⟨_, rfl⟩
            have HE2 : Hid (E2 = addE t PW.1) := hE2
            rw [← hE2]
            clear hE2 ho5 hb5
            by_cases h2 : E2 = 0
            · subst h2
              go_wp2
              go_roundw
              case rel =>
                refine ⟨k + 1, addL t PW.1, by omega, by go_num, ?_, HO5.out, HB5.out⟩
                rw [HPr.out, drop_get HX.out, valGo]
                simp only
                rw [← HPW.out, if_pos HE1.out.symm, if_pos HE2.out.symm]
              case measure => simp [intOf]; omega
            · have hb0 : (E2 != 0) = true := by rw [bne_iff_ne]; exact h2
              have hc : valE p ats = E2 := by
                rw [HCE.out, HPr.out, drop_get HX.out, valGo]
                simp only
                rw [← HPW.out, if_pos HE1.out.symm, if_neg (by rw [← HE2.out]; exact h2), ← HE2.out]
              have HC : Hid (valE p ats = E2 ∧ valL p ats = []) := ⟨hc, by unfold valL; rw [hc, if_neg h2]⟩
              clear hc
              go_wp2
              go_ret2
              exact ⟨_, ret2i HC.out.1.symm, by rw [HC.out.2]; exact Ow.nil _ _, HB5.out⟩
          · have hb0 : (E1 != 0) = true := by rw [bne_iff_ne]; exact h1
            have hb1 : (E1 == 0) = false := by rw [beq_eq_false_iff_ne]; exact h1
            have hc : valE p ats = E1 := by
              rw [HCE.out, HPr.out, drop_get HX.out, valGo]
              simp only
              rw [← HPW.out, if_neg (by rw [← HE1.out]; exact h1), ← HE1.out]
            have HC : Hid (valE p ats = E1 ∧ valL p ats = []) := ⟨hc, by unfold valL; rw [hc, if_neg h1]⟩
            clear hc
            go_wp2
            go_ret2
            exact ⟨_, ret2i HC.out.1.symm, by rw [HC.out.2]; exact Ow.nil _ _, HB4.out⟩
        · have hke : k = p.length := by omega
          subst hke
          have hfin : valGo ats [] p = (t, 0) := by rw [HPr.out, List.drop_of_length_le (Nat.le_refl _)]; rfl
          have hc : valE p ats = 0 := by rw [HCE.out, hfin]
          have HO6 : Hid (Ow wr w.heap.size u9 (valL p ats)) := by
            show Ow _ _ _ _
            unfold valL
            rw [if_pos hc, hfin]
            exact HSt.out
          have HC : Hid (valE p ats = 0) := hc
          clear hfin hc
          go_wp2
          go_ret2
          exact ⟨_, ret2i HC.out.symm, HO6.out, HBl.out⟩

theorem value_any (v av : Value) (p : List Mn) (ats : List (List Nat)) (w : World) (h : Ms w v p) (h' : Rs w av ats) :
    Calls Try.prog 25 #[v, av] w fun e w' => ∃ v', e = .returned (.tuple #[v', .int .i64 (valE p ats)]) ∧ Sl w' v' (valL p ats) ∧ Below w.heap.size w w' :=
  (value_own v av p ats w h h').mono fun _ _ ⟨v', he, ho, hb⟩ => ⟨v', he, ho.sl, hb⟩

/-- The constant. -/
def constL (p : List Mn) : List Nat := match p with | [] => [] | m :: _ => if m.2.length = 0 then m.1 else []

set_option maxRecDepth 100000 in
theorem constant_any (v : Value) (p : List Mn) (w : World) (h : Ms w v p) :
    Calls Try.prog 44 #[v] w fun e w' => ∃ v', e = .returned v' ∧ Sl w' v' (constL p) ∧ w' = w := by
  obtain ⟨ao, cap, rfl, hao, hca, q0⟩ := Row.flat h
  unfold maxLen at hca
  have HM : Hid (Ms w (.slice ao p.length cap) p) := h
  clear h q0
  by_cases h0 : p.length = 0
  · obtain rfl : p = [] := List.eq_nil_of_length_eq_zero h0
    rw [List.length_nil]
    clear h0
    go_enter Try.func44, Try.ntmps44
    go_wp2
    go_ret
    exact ⟨_, rfl, Sl.nil _, rfl⟩
  · obtain ⟨g, off, c, es, a1, c1, a2, c2, rfl, hm1, hc0, hc1, hmo, hl1, hl2, hl3, hl4⟩ := HM.out.at (k := 0) (by omega)
    have hb0 : ((p.length : Int) == 0) = false := by rw [beq_eq_false_iff_ne]; omega
    have hpos : 0 < p.length := by omega
    have HS : Hid (Sl w (.slice a1 c.length c1) c) := hmo.1
    have HC : Hid (constL p = if es.length = 0 then c else []) := by
      show _ = _
      cases p with
      | nil => simp at hpos
      | cons m r => simp at hm1; subst hm1; rfl
    rw [Nat.zero_mul, Nat.add_zero] at hc0 hc1
    clear hm1 hmo
    by_cases he : es.length = 0
    · have HC' : Hid (constL p = c) := HC.out.trans (if_pos he)
      have hge : decide (0 < es.length) = false := decide_eq_false (by omega)
      have hge2 : ¬ (0 < es.length) := by omega
      clear he
      go_enter Try.func44, Try.ntmps44
      go_wp2
      go_ret
      exact ⟨_, rfl, by rw [HC'.out]; exact HS.out, rfl⟩
    · have HC' : Hid (constL p = []) := HC.out.trans (if_neg he)
      have hge : 0 < es.length := by omega
      go_enter Try.func44, Try.ntmps44
      go_wp2
      go_ret
      exact ⟨_, rfl, by rw [HC'.out]; exact Sl.nil _, rfl⟩

end Go.Proofs.Ytfifgmcjilkigaa
