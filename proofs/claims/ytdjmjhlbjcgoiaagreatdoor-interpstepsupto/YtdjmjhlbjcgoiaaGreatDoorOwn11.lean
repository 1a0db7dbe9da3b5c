/- Texts of the proof, one behind the other. -/
import Derived.Test.YtdjmjhlbjcgoiaaGreatDoorOwn10
set_option maxRecDepth 1000000
set_option maxHeartbeats 6400000
namespace Go.Proofs.YtdjmjhlbjcgoiaaGreatDoor
open Go.RowKit Go.Maps
theorem ms_one {w : World} {cv : Value} {c : List Nat} (h : Sl w cv c) : Ms (w.alloc (.cells #[cv, .slice none 0 0] 37)) (.slice (some ⟨w.heap.size, 0, none⟩) 1 1) [(c, [])] := by
 have hk := zK (zA (w := w) (.cells #[cv, .slice none 0 0] 37))
 refine ⟨_, 1, rfl, by simp, by simp [maxLen], fun _ => ⟨w.heap.size, 0, rfl, by simp, ?_⟩⟩
 intro k x hk2
 have hlt := (zB.1 hk2).1
 match k, hlt with
 | 0, _ =>
  simp only [yQ, zX] at hk2
  subst hk2
  exact ⟨cv, .slice none 0 0, by simp, by simp, h.kp hk, Row.nil (by simp [maxLen])⟩
theorem domM_one (c : List Nat) : DomM [(c, [])] := by
 intro k m hk
 have hlt := (zB.1 hk).1
 match k, hlt with
 | 0, _ =>
  simp only [yQ, zX] at hk
  subst hk
  exact ⟨by simp, fun j x hj => by simp at hj⟩
theorem compose_any (v av : Value) (p : List Mn) (args : List (List Mn)) (w : World) (h : Ms w v p) (h' : Ps w av args) :
  Calls Tryz.prog 26 #[v, av] w fun e w' => ∃ v', e = .returned (.tuple #[v', .int .i64 (compE p args)]) ∧ OM w' w.heap.size v' (compL p args) ∧ Below w.heap.size w w' := by
 obtain ⟨ao, cap, rfl, hao, hca, q0⟩ := Row.flat h
 obtain ⟨bo, cap', rfl, hbo, hcb, q0'⟩ := Row.flat h'
 unfold maxLen at hca hcb
 have HP : Hid (Ms w (.slice ao p.length cap) p) := h
 have HQ : Hid (Ps w (.slice bo args.length cap') args) := h'
 have H1 : Hid _ := ps1 h
 have hmm := @run_makeMap Tryz.prog
 clear h h' q0 q0'
 go_enter Tryz.func26, Tryz.ntmps26
 go_wp2_with fail
 refine (xDR _ [p] _ H1.out).mono ?_
 rintro e w1 ⟨rfl, hb1⟩
 have HB1 : Hid (Below w.heap.size w w1) := zS (zA _) hb1
 obtain ⟨E, hE⟩ : ∃ E, E = checkAllE [p] := ⟨_, rfl⟩
 have HE : Hid (E = checkAllE [p]) := hE
 rw [← hE]
 clear hE hb1 H1
 by_cases hE0 : E = 0
 case neg =>
  have hb0 : (E != 0) = true := by rw [bne_iff_ne]; exact hE0
  have hc : compE p args = E := by unfold compE; rw [if_neg (by rw [← HE.out]; exact hE0)]; exact HE.out.symm
  have HC : Hid (compE p args = E ∧ compL p args = []) := ⟨hc, by unfold compL; rw [hc, if_neg hE0]⟩
  clear hc
  go_wp2
  go_ret2
  exact ⟨_, ret2i HC.out.1.symm, by rw [HC.out.2]; exact OM.nil _ _, HB1.out⟩
 subst hE0
 have HSp : Hid (DomM p) := xCN (checkAll1 HE.out.symm)
 go_wp2_with fail
 refine (xDR _ args _ (HQ.out.kp (zK HB1.out))).mono ?_
 rintro e w2 ⟨rfl, hb2⟩
 have HB2 : Hid (Below w.heap.size w w2) := zS HB1.out hb2
 obtain ⟨F, hF⟩ : ∃ F, F = checkAllE args := ⟨_, rfl⟩
 have HF : Hid (F = checkAllE args) := hF
 rw [← hF]
 clear hF hb2
 by_cases hF0 : F = 0
 case neg =>
  have hb0 : (F != 0) = true := by rw [bne_iff_ne]; exact hF0
  have hc : compE p args = F := by unfold compE; rw [if_pos HE.out.symm, if_neg (by rw [← HF.out]; exact hF0)]; exact HF.out.symm
  have HC : Hid (compE p args = F ∧ compL p args = []) := ⟨hc, by unfold compL; rw [hc, if_neg hF0]⟩
  clear hc
  go_wp2
  go_ret2
  exact ⟨_, ret2i HC.out.1.symm, by rw [HC.out.2]; exact OM.nil _ _, HB2.out⟩
 subst hF0
 have HSa : Hid (∀ q ∈ args, DomM q) := xFD HF.out.symm
 go_wp2_with fail
 refine (variables_any _ p _ (HP.out.kp (zK HB2.out))).mono ?_
 rintro e w3 ⟨rfl, hb3⟩
 have HB3 : Hid (Below w.heap.size w w3) := zS HB2.out hb3
 obtain ⟨N, hN⟩ : ∃ N, N = varsN p := ⟨_, rfl⟩
 have HN : Hid (N = varsN p) := hN
 rw [← hN]
 clear hN hb3
 by_cases hNa : N ≤ args.length
 case neg =>
  have hc : compE p args = 21 := by unfold compE; rw [if_pos HE.out.symm, if_pos HF.out.symm, if_neg (by rw [← HN.out]; exact hNa)]
  have HC : Hid (compE p args = 21 ∧ compL p args = []) := ⟨hc, by unfold compL; rw [hc]; rfl⟩
  clear hc
  go_wp2
  go_ret2
  exact ⟨_, ret2i HC.out.1.symm, by rw [HC.out.2]; exact OM.nil _ _, HB3.out⟩
 have HCE : Hid (compE p args = (compGo args [] p).2) := by
  show _ = _
  unfold compE
  rw [if_pos HE.out.symm, if_pos HF.out.symm, if_pos (by rw [← HN.out]; exact hNa)]
 have hdec : decide (args.length < N) = false := decide_eq_false (by omega)
 go_wp2
 clear hmm
 have H0 : Hid (MapOk (w3.alloc (.map #[] 0)) w.heap.size w3.heap.size []) := MapOk.made w3 _
 have HB4 : Hid (Below w.heap.size w (w3.alloc (.map #[] 0))) := zS HB3.out (zA _)
 obtain ⟨G, hG⟩ : ∃ G, G = w3.heap.size := ⟨_, rfl⟩
 have hGw : w.heap.size ≤ G := by rw [hG]; exact HB3.out.size
 rw [← hG] at H0 ⊢
 clear hG
 go_loopw [32] (fun i wr => ∃ (k : Nat) (M : LkY), k ≤ p.length ∧ i = .int .i64 k ∧ compGo args [] p = compGo args M (p.drop k) ∧ M.length ≤ 256 ∧ MapOk wr w.heap.size G M ∧ Below w.heap.size w wr) (fun i _ => p.length - (intOf i).toNat)
 case atStart => exact ⟨0, [], by omega, rfl, rfl, by simp, H0.out, HB4.out⟩
 case round =>
  obtain ⟨k, M, hk, rfl, hpu, hM6, hmo, hbl⟩ := hrel
  have HPr : Hid (compGo args [] p = compGo args M (p.drop k)) := hpu
  have HMo : Hid (MapOk wr w.heap.size G M) := hmo
  have HBl : Hid (Below w.heap.size w wr) := hbl
  clear hpu hmo hbl H0 HB4
  by_cases hlt : k < p.length
  ·obtain ⟨g, off, c, es, a1, c1, a2, c2, rfl, hm1, hc0, hc1, hmm, hl1, hl2, hl3, hl4⟩ := (HP.out.kp (zK HBl.out)).at hlt
   have HX : Hid (p[k]? = some (c, es)) := hm1
   have HSm : Hid (Small es) := HSp.out k _ hm1
   have hle : es.length ≤ args.length := Nat.le_trans (varsN_ge hm1) (by rw [← HN.out]; exact hNa)
   have hbx := zA (w := wr) (.cells #[.slice a1 c.length c1, .slice a2 es.length c2] 37)
   have hmm2 := hmm.kp (zK hbx)
   have hone := ms_one hmm2.1
   rw [show (wr.alloc (.cells #[.slice a1 c.length c1, .slice a2 es.length c2] 37)).heap.size = wr.heap.size + 1 by simp] at hone
   have HOne : Hid (Ms ((wr.alloc (.cells #[.slice a1 c.length c1, .slice a2 es.length c2] 37)).alloc (.cells #[.slice a1 c.length c1, .slice none 0 0] 37)) (.slice (some ⟨wr.heap.size + 1, 0, none⟩) 1 1) [(c, [])]) := hone
   clear hone
   have hbx2 := zA (w := wr.alloc (.cells #[.slice a1 c.length c1, .slice a2 es.length c2] 37)) (.cells #[.slice a1 c.length c1, .slice none 0 0] 37)
   have HEs : Hid (Is ((wr.alloc (.cells #[.slice a1 c.length c1, .slice a2 es.length c2] 37)).alloc (.cells #[.slice a1 c.length c1, .slice none 0 0] 37)) (.slice a2 es.length c2) es) := hmm2.2.kp (zK hbx2)
   have HBx : Hid (Below wr.heap.size wr ((wr.alloc (.cells #[.slice a1 c.length c1, .slice a2 es.length c2] 37)).alloc (.cells #[.slice a1 c.length c1, .slice none 0 0] 37))) := zS hbx hbx2
   clear hm1 hmm hmm2 hbx hbx2
   go_wp2_with fail
   refine (worthM_any 65 _ _ _ [(c, [])] es args _ timesM domM_prod HOne.out HEs.out ((HQ.out.kp (zK HBl.out)).kp (zK HBx.out)) (domM_one c) HSa.out HSm.out hle enterM).mono ?_
   rintro e w4 ⟨v4, rfl, ho4, hb4⟩
   obtain ⟨PW, hPW⟩ : ∃ PW, PW = worthV prodL prodE es args [(c, [])] := ⟨_, rfl⟩
   have HPW : Hid (PW = worthV prodL prodE es args [(c, [])]) := hPW
   rw [← hPW] at ho4 ⊢
   have HO4 : Hid (Ms w4 v4 PW.1) := ho4
   have hb04 := zS HBx.out hb4
   have HM4 : Hid (MapOk w4 w.heap.size G M) := HMo.out.later hb04
   have HB4 : Hid (Below w.heap.size w w4) := zS HBl.out hb04
   obtain ⟨E1, hE1⟩ : ∃ E1, E1 = PW.2 := ⟨_, rfl⟩
   have HE1 : Hid (E1 = PW.2) := hE1
   rw [← hE1]
   clear hPW hE1 ho4 hb4 hb04
   by_cases h1 : E1 = 0
   ·subst h1
    have HDp : Hid (DomM PW.1) := by
     show DomM PW.1
     rw [HPW.out]
     unfold worthV
     split
     ·exact domM_nil
     rename_i hno
     refine D_worth domM_prod es args _ HSa.out (domM_one c) ?_
     have := HE1.out.symm
     rw [HPW.out] at this
     unfold worthV at this
     rw [if_neg hno] at this
     exact this
    go_wp2_with fail
    refine (putAll_any G w.heap.size M PW.1 _ _ HM4.out HO4.out HDp.out hM6 HB4.out.size).mono ?_
    rintro e w5 ⟨rfl, hm5, hg5⟩
    have HM5 : Hid (MapOk w5 w.heap.size G (puts M PW.1).1) := hm5
    have HB5 : Hid (Below w.heap.size w w5) := HB4.out.grown hg5 HB4.out.size (fun k hk => by cases hk; exact hGw)
    obtain ⟨E2, hE2⟩ : ∃ E2, E2 = (puts M PW.1).2 := ⟨_, rfl⟩
    have HE2 : Hid (E2 = (puts M PW.1).2) := hE2
    rw [← hE2]
    clear hE2 hm5 hg5
    by_cases h2 : E2 = 0
    ·subst h2
     go_wp2
     go_roundw
     case rel =>
      refine ⟨k + 1, (puts M PW.1).1, by omega, by go_num, ?_, len_puts HE2.out.symm hM6, HM5.out, HB5.out⟩
      rw [HPr.out, xAK HX.out, compGo]
      simp only
      rw [← HPW.out, if_pos HE1.out.symm, if_pos HE2.out.symm]
     case measure => simp [intOf]; omega
    have hb0 : (E2 != 0) = true := by rw [bne_iff_ne]; exact h2
    have hc : compE p args = E2 := by
     rw [HCE.out, HPr.out, xAK HX.out, compGo]
     simp only
     rw [← HPW.out, if_pos HE1.out.symm, if_neg (by rw [← HE2.out]; exact h2), ← HE2.out]
    have HC : Hid (compE p args = E2 ∧ compL p args = []) := ⟨hc, by unfold compL; rw [hc, if_neg h2]⟩
    clear hc
    go_wp2
    go_ret2
    exact ⟨_, ret2i HC.out.1.symm, by rw [HC.out.2]; exact OM.nil _ _, HB5.out⟩
   have hb0 : (E1 != 0) = true := by rw [bne_iff_ne]; exact h1
   have hb1 : (E1 == 0) = false := by rw [zY]; exact h1
   have hc : compE p args = E1 := by
    rw [HCE.out, HPr.out, xAK HX.out, compGo]
    simp only
    rw [← HPW.out, if_neg (by rw [← HE1.out]; exact h1), ← HE1.out]
   have HC : Hid (compE p args = E1 ∧ compL p args = []) := ⟨hc, by unfold compL; rw [hc, if_neg h1]⟩
   clear hc
   go_wp2
   go_ret2
   exact ⟨_, ret2i HC.out.1.symm, by rw [HC.out.2]; exact OM.nil _ _, HB4.out⟩
  have hke : k = p.length := by omega
  subst hke
  have hfin : compGo args [] p = (M, 0) := by rw [HPr.out, zP (Nat.le_refl _)]; rfl
  have hc : compE p args = 0 := by rw [HCE.out, hfin]
  go_wp2_with fail
  refine (row_any G w.heap.size M _ HMo.out (by omega) HBl.out.size).mono ?_
  rintro e w6 ⟨v6, rfl, ho6, hb6⟩
  have HO6 : Hid (OM w6 w.heap.size v6 (compL p args)) := by
   show OM _ _ _ _
   unfold compL
   rw [if_pos hc, hfin]
   exact ho6
  have HC : Hid (compE p args = 0) := hc
  have HB6 : Hid (Below w.heap.size w w6) := zS HBl.out hb6
  clear ho6 hb6 hfin hc
  go_wp2
  go_ret2
  exact ⟨_, ret2i HC.out.symm, HO6.out, HB6.out⟩
theorem value_own (v av : Value) (p : List Mn) (ats : List (List Nat)) (w : World) (h : Ms w v p) (h' : RsY w av ats) :
  Calls Tryz.prog 30 #[v, av] w fun e w' => ∃ v', e = .returned (.tuple #[v', .int .i64 (valE p ats)]) ∧ Ow w' w.heap.size v' (valL p ats) ∧ Below w.heap.size w w' := by
 obtain ⟨ao, cap, rfl, hao, hca, q0⟩ := Row.flat h
 obtain ⟨bo, cap', rfl, hbo, hcb, q0'⟩ := Row.flat h'
 unfold maxLen at hca hcb
 have HP : Hid (Ms w (.slice ao p.length cap) p) := h
 have HQ : Hid (RsY w (.slice bo ats.length cap') ats) := h'
 have H1 : Hid _ := ps1 h
 clear h h' q0 q0'
 go_enter Tryz.func30, Tryz.ntmps30
 go_wp2_with fail
 refine (xDR _ [p] _ H1.out).mono ?_
 rintro e w1 ⟨rfl, hb1⟩
 have HB1 : Hid (Below w.heap.size w w1) := zS (zA _) hb1
 obtain ⟨E, hE⟩ : ∃ E, E = checkAllE [p] := ⟨_, rfl⟩
 have HE : Hid (E = checkAllE [p]) := hE
 rw [← hE]
 clear hE hb1 H1
 by_cases hE0 : E = 0
 case neg =>
  have hb0 : (E != 0) = true := by rw [bne_iff_ne]; exact hE0
  have hc : valE p ats = E := by unfold valE; rw [if_neg (by rw [← HE.out]; exact hE0)]; exact HE.out.symm
  have HC : Hid (valE p ats = E ∧ valL p ats = []) := ⟨hc, by unfold valL; rw [hc, if_neg hE0]⟩
  clear hc
  go_wp2
  go_ret2
  exact ⟨_, ret2i HC.out.1.symm, by rw [HC.out.2]; exact Ow.nil _ _, HB1.out⟩
 subst hE0
 have HSp : Hid (DomM p) := xCN (checkAll1 HE.out.symm)
 go_wp2_with fail
 refine (variables_any _ p _ (HP.out.kp (zK HB1.out))).mono ?_
 rintro e w3 ⟨rfl, hb3⟩
 have HB3 : Hid (Below w.heap.size w w3) := zS HB1.out hb3
 obtain ⟨N, hN⟩ : ∃ N, N = varsN p := ⟨_, rfl⟩
 have HN : Hid (N = varsN p) := hN
 rw [← hN]
 clear hN hb3
 by_cases hNa : N ≤ ats.length
 case neg =>
  have hc : valE p ats = 21 := by unfold valE; rw [if_pos HE.out.symm, if_neg (by rw [← HN.out]; exact hNa)]
  have HC : Hid (valE p ats = 21 ∧ valL p ats = []) := ⟨hc, by unfold valL; rw [hc]; rfl⟩
  clear hc
  go_wp2
  go_ret2
  exact ⟨_, ret2i HC.out.1.symm, by rw [HC.out.2]; exact Ow.nil _ _, HB3.out⟩
 have hdec : decide (ats.length < N) = false := decide_eq_false (by omega)
 go_wp2
 go_loopw [27] (fun i wr => ∃ k : Nat, k ≤ ats.length ∧ i = .int .i64 k ∧ (∀ (j : Nat) (x : List Nat), j < k → ats[j]? = some x → rightB x = true) ∧ wr = w3) (fun i _ => ats.length - (intOf i).toNat)
 case atStart => exact ⟨0, by omega, rfl, fun j x hj => absurd hj (by omega), rfl⟩
 case round =>
  obtain ⟨k, hk, rfl, hp, hw⟩ := hrel
  have hw8 := hw.symm
  subst hw8
  clear hw
  have HPk : Hid (∀ (j : Nat) (x : List Nat), j < k → ats[j]? = some x → rightB x = true) := hp
  clear hp
  by_cases hlt : k < ats.length
  ·obtain ⟨g2, off2, f, a1, c1, rfl, hy1, hy2, hy3, hy4, hy5⟩ := (HQ.out.kp (zK HB3.out)).at hlt
   have HY : Hid (ats[k]? = some f) := hy1
   have HFr : Hid (Sl w3 (.slice a1 f.length c1) f) := hy3
   clear hy1 hy3
   go_wp2_with fail
   refine (xCB _ f _ HFr.out).mono ?_
   rintro e w9 ⟨rfl, hw9⟩
   have hw8 := hw9.symm
   subst hw8
   clear hw9
   cases hr : rightB f
   ·have hc : valE p ats = 10 := by
     unfold valE
     rw [if_pos HE.out.symm, if_pos (by rw [← HN.out]; exact hNa), if_neg]
     rw [Bool.not_eq_true, List.all_eq_false]
     exact ⟨f, zD HY.out, by rw [hr]; simp⟩
    have HC : Hid (valE p ats = 10 ∧ valL p ats = []) := ⟨hc, by unfold valL; rw [hc]; rfl⟩
    clear hc hr
    go_wp2
    go_ret2
    exact ⟨_, ret2i HC.out.1.symm, by rw [HC.out.2]; exact Ow.nil _ _, HB3.out⟩
   have HR : Hid (rightB f = true) := hr
   clear hr
   go_wp2
   go_roundw
   case rel =>
    refine ⟨k + 1, by omega, by go_num, fun j x hj h1 => ?_, trivial⟩
    by_cases hjk : j = k
    ·subst hjk; rw [HY.out] at h1; cases h1; exact HR.out
    exact HPk.out j x (by omega) h1
   case measure => simp [intOf]; omega
  have hke : k = ats.length := by omega
  subst hke
  have hall : ats.all rightB = true := by
   rw [List.all_eq_true]
   intro x hx
   obtain ⟨j, hj⟩ := zW.1 hx
   exact HPk.out j x (zB.1 hj).1 hj
  have HCE : Hid (valE p ats = (valGo ats [] p).2) := by
   show _ = _
   unfold valE
   rw [if_pos HE.out.symm, if_pos (by rw [← HN.out]; exact hNa), if_pos hall]
  clear hall HPk
  go_wp2
  go_loopw [9, 37] (fun x i wr => ∃ (k : Nat) (t : List Nat), k ≤ p.length ∧ i = .int .i64 k ∧ valGo ats [] p = valGo ats t (p.drop k) ∧ Ow wr w.heap.size x t ∧ Below w.heap.size w wr) (fun _ i _ => p.length - (intOf i).toNat)
  case atStart => exact ⟨0, [], by omega, rfl, rfl, Ow.nil _ _, HB3.out⟩
  case round =>
   obtain ⟨k, t, hk, rfl, hpu, hst, hbl⟩ := hrel
   have HPr : Hid (valGo ats [] p = valGo ats t (p.drop k)) := hpu
   have HSt : Hid (Ow wr w.heap.size u9 t) := hst
   have HBl : Hid (Below w.heap.size w wr) := hbl
   clear hpu hst hbl
   by_cases hlt : k < p.length
   ·obtain ⟨g, off, c, es, a1, c1, a2, c2, rfl, hm1, hc0, hc1, hmm, hl1, hl2, hl3, hl4⟩ := (HP.out.kp (zK HBl.out)).at hlt
    have HX : Hid (p[k]? = some (c, es)) := hm1
    have HSm : Hid (Small es) := HSp.out k _ hm1
    have hle : es.length ≤ ats.length := Nat.le_trans (varsN_ge hm1) (by rw [← HN.out]; exact hNa)
    have hbx := zA (w := wr) (.cells #[.slice a1 c.length c1, .slice a2 es.length c2] 37)
    have HMm : Hid (Mo (wr.alloc (.cells #[.slice a1 c.length c1, .slice a2 es.length c2] 37)) (.slice a1 c.length c1) (.slice a2 es.length c2) (c, es)) := hmm.kp (zK hbx)
    have HBx : Hid (Below wr.heap.size wr (wr.alloc (.cells #[.slice a1 c.length c1, .slice a2 es.length c2] 37))) := hbx
    clear hm1 hmm hbx
    go_wp2_with fail
    refine (worthN_any 70 _ _ _ c es ats _ timesN (fun _ _ _ _ _ => trivial) HMm.out.1 HMm.out.2 ((HQ.out.kp (zK HBl.out)).kp (zK HBx.out)) trivial (fun _ _ => trivial) HSm.out hle enterN).mono ?_
    rintro e w4 ⟨v4, rfl, ho4, hb4⟩
    obtain ⟨PW, hPW⟩ : ∃ PW, PW = worthV mulL mulE es ats c := ⟨_, rfl⟩
    have HPW : Hid (PW = worthV mulL mulE es ats c) := hPW
    rw [← hPW] at ho4 ⊢
    have HO4 : Hid (Sl w4 v4 PW.1) := ho4
    have hb04 := zS HBx.out hb4
    have HSt4 : Hid (Sl w4 u9 t) := HSt.out.sl.kp (zK hb04)
    have HB4 : Hid (Below w.heap.size w w4) := zS HBl.out hb04
    obtain ⟨E1, hE1⟩ : ∃ E1, E1 = PW.2 := ⟨_, rfl⟩
    have HE1 : Hid (E1 = PW.2) := hE1
    rw [← hE1]
    clear hPW hE1 ho4 hb4 hb04
    by_cases h1 : E1 = 0
    ·subst h1
     go_wp2_with fail
     refine (add_any _ _ t PW.1 _ HSt4.out HO4.out).mono ?_
     rintro e w5 ⟨v5, rfl, ho5, hb5⟩
     have HO5 : Hid (Ow w5 w.heap.size v5 (addL t PW.1)) := ho5.mono HB4.out.size
     have HB5 : Hid (Below w.heap.size w w5) := zS HB4.out hb5
     obtain ⟨E2, hE2⟩ : ∃ E2, E2 = addE t PW.1 := ⟨_, rfl⟩
     have HE2 : Hid (E2 = addE t PW.1) := hE2
     rw [← hE2]
     clear hE2 ho5 hb5
     by_cases h2 : E2 = 0
     ·subst h2
      go_wp2
      go_roundw
      case rel =>
       refine ⟨k + 1, addL t PW.1, by omega, by go_num, ?_, HO5.out, HB5.out⟩
       rw [HPr.out, xAK HX.out, valGo]
       simp only
       rw [← HPW.out, if_pos HE1.out.symm, if_pos HE2.out.symm]
      case measure => simp [intOf]; omega
     have hb0 : (E2 != 0) = true := by rw [bne_iff_ne]; exact h2
     have hc : valE p ats = E2 := by
      rw [HCE.out, HPr.out, xAK HX.out, valGo]
      simp only
      rw [← HPW.out, if_pos HE1.out.symm, if_neg (by rw [← HE2.out]; exact h2), ← HE2.out]
     have HC : Hid (valE p ats = E2 ∧ valL p ats = []) := ⟨hc, by unfold valL; rw [hc, if_neg h2]⟩
     clear hc
     go_wp2
     go_ret2
     exact ⟨_, ret2i HC.out.1.symm, by rw [HC.out.2]; exact Ow.nil _ _, HB5.out⟩
    have hb0 : (E1 != 0) = true := by rw [bne_iff_ne]; exact h1
    have hb1 : (E1 == 0) = false := by rw [zY]; exact h1
    have hc : valE p ats = E1 := by
     rw [HCE.out, HPr.out, xAK HX.out, valGo]
     simp only
     rw [← HPW.out, if_neg (by rw [← HE1.out]; exact h1), ← HE1.out]
    have HC : Hid (valE p ats = E1 ∧ valL p ats = []) := ⟨hc, by unfold valL; rw [hc, if_neg h1]⟩
    clear hc
    go_wp2
    go_ret2
    exact ⟨_, ret2i HC.out.1.symm, by rw [HC.out.2]; exact Ow.nil _ _, HB4.out⟩
   have hke : k = p.length := by omega
   subst hke
   have hfin : valGo ats [] p = (t, 0) := by rw [HPr.out, zP (Nat.le_refl _)]; rfl
   have hc : valE p ats = 0 := by rw [HCE.out, hfin]
   have HO6 : Hid (Ow wr w.heap.size u9 (valL p ats)) := by
    show Ow _ _ _ _
    unfold valL
    rw [if_pos hc, hfin]
    exact HSt.out
   have HC : Hid (valE p ats = 0) := hc
   clear hfin hc
   go_wp2
   go_ret2
   exact ⟨_, ret2i HC.out.symm, HO6.out, HBl.out⟩
def constL (p : List Mn) : List Nat := match p with | [] => [] | m :: _ => if m.2.length = 0 then m.1 else []
theorem constant_any (v : Value) (p : List Mn) (w : World) (h : Ms w v p) :
  Calls Tryz.prog 104 #[v] w fun e w' => ∃ v', e = .returned v' ∧ Sl w' v' (constL p) ∧ w' = w := by
 obtain ⟨ao, cap, rfl, hao, hca, q0⟩ := Row.flat h
 unfold maxLen at hca
 have HM : Hid (Ms w (.slice ao p.length cap) p) := h
 clear h q0
 by_cases h0 : p.length = 0
 ·obtain rfl : p = [] := zE h0
  rw [List.length_nil]
  clear h0
  go_enter Tryz.func104, Tryz.ntmps104
  go_wp2
  go_ret
  exact ⟨_, rfl, Sl.nil _, rfl⟩
 obtain ⟨g, off, c, es, a1, c1, a2, c2, rfl, hm1, hc0, hc1, hmo, hl1, hl2, hl3, hl4⟩ := HM.out.at (k := 0) (by omega)
 have hb0 : ((p.length : Int) == 0) = false := by rw [zY]; omega
 have hpos : 0 < p.length := by omega
 have HS : Hid (Sl w (.slice a1 c.length c1) c) := hmo.1
 have HC : Hid (constL p = if es.length = 0 then c else []) := by
  show _ = _
  cases p with
  | nil => simp at hpos
  | cons m r => simp at hm1; subst hm1; rfl
 rw [Nat.zero_mul, Nat.add_zero] at hc0 hc1
 clear hm1 hmo
 by_cases he : es.length = 0
 ·have HC' : Hid (constL p = c) := HC.out.trans (if_pos he)
  have hge : decide (0 < es.length) = false := decide_eq_false (by omega)
  have hge2 : ¬ (0 < es.length) := by omega
  clear he
  go_enter Tryz.func104, Tryz.ntmps104
  go_wp2
  go_ret
  exact ⟨_, rfl, by rw [HC'.out]; exact HS.out, rfl⟩
 have HC' : Hid (constL p = []) := HC.out.trans (if_neg he)
 have hge : 0 < es.length := by omega
 go_enter Tryz.func104, Tryz.ntmps104
 go_wp2
 go_ret
 exact ⟨_, rfl, by rw [HC'.out]; exact Sl.nil _, rfl⟩
def leftP (m : Mn) : List Mn → List Mn
 | [] => []
 | x :: r => if cmpX x.2 m.2 < 0 then leftP m r else x :: r
def atGo : List Mn → List Mn → Bool
 | _, [] => true
 | p, m :: q =>
  match leftP m p with
  | [] => false
  | x :: r => if x.2 = m.2 then if 0 < cmpV m.1 x.1 then false else atGo (x :: r) q else false
def atLeastB (p q : List Mn) : Bool := if checkAllE [p, q] = 0 then atGo p q else false
def greaterB (p q : List Mn) : Bool := atLeastB p q && decide (0 < cmpV (constL p) (constL q))
theorem Ms.tail {w : World} {g off n cap : Nat} {m : Mn} {r : List Mn} (h : Ms w (.slice (some ⟨g, off, none⟩) n cap) (m :: r)) : Ms w (.slice (some ⟨g, off + 2, none⟩) r.length (cap - 1)) r := by
 obtain ⟨ao, cap', hv, hc, hm, hx⟩ := h
 simp only [zZ] at hv
 obtain ⟨hao, hn, rfl⟩ := hv
 simp only [zG] at hc
 refine ⟨_, _, rfl, by omega, by omega, fun h0 => ⟨g, off + 2, rfl, ?_, ?_⟩⟩
 ·obtain ⟨g', off', e, hg, _⟩ := hx (by simp)
  rw [← hao] at e
  cases e
  exact hg
 obtain ⟨g', off', e, hg, hk⟩ := hx (by simp)
 rw [← hao] at e
 cases e
 intro k x hxk
 have := hk (k + 1) x hxk
 rwa [show off + (k + 1) * 2 = off + 2 + k * 2 by omega] at this
theorem atLeast_any (v u : Value) (p q : List Mn) (w : World) (h : Ms w v p) (h' : Ms w u q) :
  Calls Tryz.prog 52 #[v, u] w fun e w' => e = .returned (.bool (atLeastB p q)) ∧ Below w.heap.size w w' := by
 obtain ⟨ao, cap, rfl, hao, hca, q0⟩ := Row.flat h
 obtain ⟨bo, cap', rfl, hbo, hcb, q0'⟩ := Row.flat h'
 unfold maxLen at hca hcb
 have HA : Hid (Ms w (.slice ao p.length cap) p) := h
 have HQ : Hid (Ms w (.slice bo q.length cap') q) := h'
 have HP : Hid _ := ps2 h h'
 clear h h' q0 q0'
 go_enter Tryz.func52, Tryz.ntmps52
 go_wp2_with fail
 refine (xDR _ [p, q] _ HP.out).mono ?_
 rintro e w1 ⟨rfl, hb1⟩
 have HB1 : Hid (Below w.heap.size w w1) := zS (zA _) hb1
 obtain ⟨E, hE⟩ : ∃ E, E = checkAllE [p, q] := ⟨_, rfl⟩
 have HE : Hid (E = checkAllE [p, q]) := hE
 rw [← hE]
 clear hE hb1 HP
 by_cases hE0 : E = 0
 case neg =>
  have hb0 : (E != 0) = true := by rw [bne_iff_ne]; exact hE0
  have HC : Hid (atLeastB p q = false) := by
   show _ = _
   unfold atLeastB
   rw [if_neg (by rw [← HE.out]; exact hE0)]
  go_wp2
  go_ret
  exact ⟨ret1b HC.out.symm, HB1.out⟩
 subst hE0
 have HC : Hid (atLeastB p q = atGo p q) := by
  show _ = _
  unfold atLeastB
  rw [if_pos HE.out.symm]
 go_wp2
 go_loopw [0, 14] (fun x i wr => ∃ (l : Nat) (pc : List Mn), l ≤ q.length ∧ i = .int .i64 l ∧ Ms wr x pc ∧ atGo p q = atGo pc (q.drop l) ∧ Below w.heap.size w wr) (fun _ i _ => q.length - (intOf i).toNat)
 case atStart => exact ⟨0, p, by omega, rfl, HA.out.kp (zK HB1.out), rfl, HB1.out⟩
 case round =>
  obtain ⟨l, pc, hl, rfl, hms, hat, hbl⟩ := hrel
  have HMs : Hid (Ms wr u0 pc) := hms
  have HAt : Hid (atGo p q = atGo pc (q.drop l)) := hat
  have HBl : Hid (Below w.heap.size w wr) := hbl
  clear hms hat hbl
  by_cases hll : l < q.length
  ·obtain ⟨g', off', d, fs, b1, d1, b2, d2, rfl, hn1, he0, he1, hmn, hj1, hj2, hj3, hj4⟩ := (HQ.out.kp (zK HBl.out)).at hll
   have HY : Hid (q[l]? = some (d, fs)) := hn1
   have hba := zA (w := wr) (.cells #[.slice b1 d.length d1, .slice b2 fs.length d2] 37)
   obtain ⟨wb, hwb⟩ : ∃ wb, wb = wr.alloc (.cells #[.slice b1 d.length d1, .slice b2 fs.length d2] 37) := ⟨_, rfl⟩
   have hd0 : wb.cell? ⟨wr.heap.size, 0, none⟩ = some (.slice b1 d.length d1) := by rw [hwb]; simp
   have hd1 : wb.cell? ⟨wr.heap.size, 1, none⟩ = some (.slice b2 fs.length d2) := by rw [hwb]; simp
   have HMn : Hid (Mo wb (.slice b1 d.length d1) (.slice b2 fs.length d2) (d, fs)) := by rw [hwb]; exact hmn.kp (zK hba)
   have HMb : Hid (Ms wb u0 pc) := by rw [hwb]; exact HMs.out.kp (zK hba)
   have HBb : Hid (Below w.heap.size w wb) := by rw [hwb]; exact zS HBl.out hba
   have HWb : Hid (wb = wr.alloc (.cells #[.slice b1 d.length d1, .slice b2 fs.length d2] 37)) := hwb
   obtain ⟨G6, hG6⟩ : ∃ G6, G6 = wr.heap.size := ⟨_, rfl⟩
   clear hn1 hmn hba hwb
   go_wp2
   rw [← HWb.out, ← hG6]
   rw [← hG6] at hd0 hd1
   clear hG6 HWb
   go_loopw [0] (fun x ws => ∃ pd : List Mn, Ms ws x pd ∧ leftP (d, fs) pc = leftP (d, fs) pd ∧ ∃ n, ws = wb.drewN n) (fun x _ => lenOfV x)
   case atStart => exact ⟨pc, HMb.out, rfl, 0, rfl⟩
   case round =>
    obtain ⟨pd, hmd, hlp, n, hws⟩ := hrel
    have HLp : Hid (leftP (d, fs) pc = leftP (d, fs) pd) := hlp
    have HWs : Hid (∃ n, wr = wb.drewN n) := ⟨n, hws⟩
    have hw0 : wr.cell? ⟨G6, 0, none⟩ = some (.slice b1 d.length d1) := by rw [hws]; exact hd0
    have hw1 : wr.cell? ⟨G6, 1, none⟩ = some (.slice b2 fs.length d2) := by rw [hws]; exact hd1
    have HBw : Hid (Below w.heap.size w wr) := by rw [hws]; exact below_drewN HBb.out n
    have HIf : Hid (Is wr (.slice b2 fs.length d2) fs) := by rw [hws]; exact HMn.out.2
    have HSd : Hid (Sl wr (.slice b1 d.length d1) d) := by rw [hws]; exact HMn.out.1
    clear hlp hws hd0 hd1
    cases pd with
    | nil =>
     obtain ⟨ao1, cap1, rfl, hc1, hc2, _⟩ := Row.flat hmd
     simp only [List.length_nil]
     have HF : Hid (atLeastB p q = false) := by
      show _ = _
      rw [HC.out, HAt.out, xAK HY.out, atGo, HLp.out]
      rfl
     clear hmd
     go_wp2
     go_quiet (fail)
     go_wp2
     go_quiet (fail)
     go_wp2
     go_ret
     exact ⟨ret1b HF.out.symm, below_drewN (below_drewN HBw.out _) _⟩
    | cons x r =>
     obtain ⟨ao1, cap1, rfl, hc1, hc2, q1⟩ := Row.flat hmd
     clear q1
     obtain ⟨c, es⟩ := x
     obtain ⟨g, off, c', es', a1, c3, a2, c2, rfl, hm1, hx0, hx1, hmo, hl1, hl2, hl3, hl4⟩ := hmd.at (k := 0) (by simp)
     simp only [yQ, zX, Prod.mk.injEq] at hm1
     obtain ⟨rfl, rfl⟩ := hm1
     rw [Nat.zero_mul, Nat.add_zero] at hx0 hx1
     unfold maxLen at hc2
     have HTl : Hid (Ms wr (.slice (some ⟨g, off + 2, none⟩) r.length (cap1 - 1)) r) := hmd.tail
     have HMd : Hid (Ms wr (.slice (some ⟨g, off, none⟩) (r.length + 1) cap1) ((c, es) :: r)) := hmd
     have HIs : Hid (Is wr (.slice a2 es.length c2) es) := hmo.2
     have HSc : Hid (Sl wr (.slice a1 c.length c3) c) := hmo.1
     simp only [zG] at hc1 ⊢
     have hrl : (0 : Int) < (r.length : Int) + 1 := by omega
     have hrb : ((r.length : Int) + 1 == 0) = false := by rw [zY]; omega
     clear hmd hmo
     cases hcf : decide (cmpX es fs < 0)
     ·have HCf : Hid (decide (cmpX es fs < 0) = false) := hcf
      have hne := of_decide_eq_false hcf
      have HLe : Hid (leftP (d, fs) pc = (c, es) :: r) := by
       show _ = _
       rw [HLp.out, leftP, if_neg hne]
      clear hcf hne
      go_wp2
      go_quiet ((go_at_call 105; exact Calls.quiet_of_same (HCf.out ▸ xCO _ _ es fs _ (HIs.out.kp (Kp.drewN _ _)) (HIf.out.kp (Kp.drewN _ _)))))
      go_wp2
      obtain ⟨wq, hwq⟩ : ∃ wq, wq = wr.drewN nq := ⟨_, rfl⟩
      have hq0 : wq.cell? ⟨g, off, none⟩ = some (.slice a1 c.length c3) := by rw [hwq]; exact hx0
      have hq1 : wq.cell? ⟨g, off + 1, none⟩ = some (.slice a2 es.length c2) := by rw [hwq]; exact hx1
      have hq2 : wq.cell? ⟨G6, 0, none⟩ = some (.slice b1 d.length d1) := by rw [hwq]; exact hw0
      have hq3 : wq.cell? ⟨G6, 1, none⟩ = some (.slice b2 fs.length d2) := by rw [hwq]; exact hw1
      have HIsq : Hid (Is wq (.slice a2 es.length c2) es) := by rw [hwq]; exact HIs.out
      have HIfq : Hid (Is wq (.slice b2 fs.length d2) fs) := by rw [hwq]; exact HIf.out
      have HScq : Hid (Sl wq (.slice a1 c.length c3) c) := by rw [hwq]; exact HSc.out
      have HSdq : Hid (Sl wq (.slice b1 d.length d1) d) := by rw [hwq]; exact HSd.out
      have HMdq : Hid (Ms wq (.slice (some ⟨g, off, none⟩) (r.length + 1) cap1) ((c, es) :: r)) := by rw [hwq]; exact HMd.out
      have HBq : Hid (Below w.heap.size w wq) := by rw [hwq]; exact below_drewN HBw.out _
      rw [← hwq]
      clear hwq hx0 hx1 hw0 hw1
      by_cases heq : es = fs
      ·have HEq : Hid (decide (es = fs) = true) := decide_eq_true heq
       have HEq0 : Hid (es = fs) := heq
       clear heq
       cases hab : decide (0 < cmpV d c)
       ·have HAb : Hid (decide (0 < cmpV d c) = false) := hab
        have hna := of_decide_eq_false hab
        have HNx : Hid (atGo p q = atGo ((c, es) :: r) (q.drop (l + 1))) := by
         show _ = _
         rw [HAt.out, xAK HY.out, atGo, HLe.out]
         simp only
         rw [if_pos HEq0.out, if_neg hna]
        clear hab hna
        go_quiet (first
         | (go_at_call 106; exact Calls.quiet_of (HEq.out ▸ xDD _ _ es fs _ (HIsq.out.kp (Kp.drewN _ _)) (HIfq.out.kp (Kp.drewN _ _))))
         | (go_at_call 103; exact Calls.quiet_of (HAb.out ▸ xGI _ _ d c _ (HSdq.out.kp (Kp.drewN _ _)) (HScq.out.kp (Kp.drewN _ _)))))
        go_wp2
        go_roundw
        case rel => exact ⟨l + 1, (c, es) :: r, by omega, by go_num, HMdq.out.kp (Kp.drewN _ _), HNx.out, below_drewN HBq.out _⟩
        case measure => simp [intOf]; omega
       have HAb : Hid (decide (0 < cmpV d c) = true) := hab
       have hna := of_decide_eq_true hab
       have HF : Hid (atLeastB p q = false) := by
        show _ = _
        rw [HC.out, HAt.out, xAK HY.out, atGo, HLe.out]
        simp only
        rw [if_pos HEq0.out, if_pos hna]
       clear hab hna
       go_quiet (first
        | (go_at_call 106; exact Calls.quiet_of (HEq.out ▸ xDD _ _ es fs _ (HIsq.out.kp (Kp.drewN _ _)) (HIfq.out.kp (Kp.drewN _ _))))
        | (go_at_call 103; exact Calls.quiet_of (HAb.out ▸ xGI _ _ d c _ (HSdq.out.kp (Kp.drewN _ _)) (HScq.out.kp (Kp.drewN _ _)))))
       go_wp2
       go_ret
       exact ⟨ret1b HF.out.symm, below_drewN HBq.out _⟩
      have HEq : Hid (decide (es = fs) = false) := decide_eq_false heq
      have HF : Hid (atLeastB p q = false) := by
       show _ = _
       rw [HC.out, HAt.out, xAK HY.out, atGo, HLe.out]
       simp only
       rw [if_neg heq]
      clear heq
      go_quiet ((go_at_call 106; exact Calls.quiet_of (HEq.out ▸ xDD _ _ es fs _ (HIsq.out.kp (Kp.drewN _ _)) (HIfq.out.kp (Kp.drewN _ _)))))
      go_wp2
      go_ret
      exact ⟨ret1b HF.out.symm, below_drewN HBq.out _⟩
     have HCf : Hid (decide (cmpX es fs < 0) = true) := hcf
     have hlt := of_decide_eq_true hcf
     have HLp2 : Hid (leftP (d, fs) pc = leftP (d, fs) r) := by
      show _ = _
      rw [HLp.out, leftP, if_pos hlt]
     clear hcf hlt
     go_wp2
     go_quiet ((go_at_call 105; exact Calls.quiet_of_same (HCf.out ▸ xCO _ _ es fs _ (HIs.out.kp (Kp.drewN _ _)) (HIf.out.kp (Kp.drewN _ _)))))
     go_wp2
     refine ⟨⟨r, ?_, HLp2.out, ?_⟩, by simp [lenOfV]⟩
     ·by_cases hcp : cap1 = 1
      ·rw [if_pos hcp]
       obtain rfl : r = [] := zE (by omega)
       exact Row.nil (by unfold maxLen; omega)
      rw [if_neg hcp]
      exact HTl.out.kp (Kp.drewN _ _)
     obtain ⟨m, hm⟩ := HWs.out
     exact ⟨_, by rw [hm]; exact World.drewN_drewN _ _ _⟩
  have hle : l = q.length := by omega
  subst hle
  have HF : Hid (atLeastB p q = true) := by
   show _ = _
   rw [HC.out, HAt.out, zP (Nat.le_refl _)]
   simp [atGo]
  go_wp2
  go_ret
  exact ⟨ret1b HF.out.symm, HBl.out⟩
theorem greater_any (v u : Value) (p q : List Mn) (w : World) (h : Ms w v p) (h' : Ms w u q) :
  Calls Tryz.prog 51 #[v, u] w fun e w' => e = .returned (.bool (greaterB p q)) ∧ Below w.heap.size w w' := by
 have HA : Hid (Ms w v p) := h
 have HB : Hid (Ms w u q) := h'
 go_enter Tryz.func51, Tryz.ntmps51
 go_wp2_with fail
 refine (atLeast_any _ _ p q _ h h').mono ?_
 rintro e w1 ⟨rfl, hb1⟩
 have HB1 : Hid (Below w.heap.size w w1) := hb1
 clear hb1 h h'
 cases ha : atLeastB p q
 ·have HG : Hid (greaterB p q = false) := by
   show _ = _
   unfold greaterB
   rw [ha]
   rfl
  clear ha
  go_wp2
  go_ret
  exact ⟨ret1b HG.out.symm, HB1.out⟩
 have HG : Hid (greaterB p q = decide (0 < cmpV (constL p) (constL q))) := by
  show _ = _
  unfold greaterB
  rw [ha, Bool.true_and]
 clear ha
 go_wp2_with fail
 refine (constant_any _ p _ (HA.out.kp (zK HB1.out))).mono ?_
 rintro e w9 ⟨v3, rfl, hs3, hw9⟩
 have hw8 := hw9.symm
 subst hw8
 have HS3 : Hid (Sl w1 v3 (constL p)) := hs3
 clear hw9 hs3
 go_wp2_with fail
 refine (constant_any _ q _ (HB.out.kp (zK HB1.out))).mono ?_
 rintro e w9 ⟨v4, rfl, hs4, hw9⟩
 have hw8 := hw9.symm
 subst hw8
 have HS4 : Hid (Sl w1 v4 (constL q)) := hs4
 clear hw9 hs4
 go_wp2_with fail
 refine (xGI _ _ (constL p) (constL q) _ HS3.out HS4.out).mono ?_
 rintro e w9 ⟨rfl, n, rfl⟩
 obtain ⟨B, hB⟩ : ∃ B, B = decide (0 < cmpV (constL p) (constL q)) := ⟨_, rfl⟩
 have HBB : Hid (B = decide (0 < cmpV (constL p) (constL q))) := hB
 rw [← hB]
 clear hB
 go_wp2
 go_ret
 exact ⟨ret1b (HBB.out.trans HG.out.symm), below_drewN HB1.out _⟩
def expI (es : List Int) (k : Nat) : Int := (es[k]?).getD 0
theorem xCI (v : Value) (es : List Int) (k : Nat) (w : World) (h : Is w v es) (_hk : k ≤ 9223372036854775807) :
  Calls Tryz.prog 148 #[v, .int .i64 (k : Int)] w fun e w' => e = .returned (.int .i64 (expI es k)) ∧ w' = w := by
 obtain ⟨ao, cap, rfl, hao, hca, q0⟩ := Row.flat h
 unfold maxLen at hca
 have HI : Hid (Is w (.slice ao es.length cap) es) := h
 clear h q0
 by_cases hlt : k < es.length
 ·obtain ⟨g, off, x, rfl, hx1, hx2, hx3, hx4⟩ := HI.out.at hlt
  have HX : Hid (expI es k = x) := by
   show _ = _
   unfold expI
   rw [hx1]
   rfl
  clear hx1
  go_enter Tryz.func148, Tryz.ntmps148
  go_wp2
  go_ret
  exact ⟨ret1i HX.out.symm, rfl⟩
 have HX : Hid (expI es k = 0) := by
  show _ = _
  unfold expI
  rw [yO (by omega)]
  rfl
 go_enter Tryz.func148, Tryz.ntmps148
 go_wp2
 go_ret
 exact ⟨ret1i HX.out.symm, rfl⟩
theorem xDF (cv ev : Value) (m : Mn) (w : World) (h : Mo w cv ev m) :
  Calls Tryz.prog 91 #[.agg #[cv, ev]] w fun e w' => e = .returned (.bool (monB m)) ∧ Below w.heap.size w w' := by
 obtain ⟨c, es⟩ := m
 obtain ⟨hs, hi⟩ := h
 simp only at hs hi
 have hB := zA (w := w) (.cells #[cv, ev] 37)
 have HB : Hid (Below w.heap.size w (w.alloc (.cells #[cv, ev] 37))) := hB
 have HS : Hid (Sl (w.alloc (.cells #[cv, ev] 37)) cv c) := hs.kp (zK hB)
 have hi2 := hi.kp (zK hB)
 obtain ⟨ao, cap, rfl, hao, hca, q0⟩ := hs.flat
 obtain ⟨bo, cap', rfl, hbo, hcb, hcl⟩ := hi2.flat
 unfold maxLen at hca hcb
 clear q0 hs hi hi2 hB
 go_enter Tryz.func91, Tryz.ntmps91
 go_wp2_with fail
 refine (refRight_anyY _ _ _ HS.out).mono ?_
 rintro e w9 ⟨rfl, hw9⟩
 have hw8 := hw9.symm
 subst hw8
 clear hw9
 cases hr : rightB c
 ·have HR : Hid (rightB c = false) := hr
  clear hr hcl
  go_wp2
  go_ret
  exact ⟨ret1b (monB_noR HR.out).symm, HB.out⟩
 have HR : Hid (rightB c = true) := hr
 clear hr
 obtain ⟨wb, hwb⟩ : ∃ wb, wb = w.alloc (.cells #[.slice ao c.length cap, .slice bo es.length cap'] 37) := ⟨_, rfl⟩
 have hc0 : wb.cell? ⟨w.heap.size, 0, none⟩ = some (.slice ao c.length cap) := by rw [hwb]; simp
 have hc1 : wb.cell? ⟨w.heap.size, 1, none⟩ = some (.slice bo es.length cap') := by rw [hwb]; simp
 rw [← hwb] at HB HS hcl ⊢
 clear hwb
 by_cases h0 : c.length = 0
 ·have H0 : Hid (c.length = 0) := h0
  have hb0 : ((c.length : Int) == 0) = true := by rw [beq_iff_eq]; omega
  clear hcl h0
  go_wp2
  go_ret
  exact ⟨ret1b (monB_no0 H0.out).symm, HB.out⟩
 have hb0 : ((c.length : Int) == 0) = false := by rw [zY]; omega
 go_wp2
 go_loopw [3] (fun i wr => ∃ k : Nat, k ≤ es.length ∧ i = .int .i64 k ∧ (∀ (j : Nat) (x : Int), j < k → es[j]? = some x → 0 ≤ x) ∧ wr = wb) (fun i _ => es.length - (intOf i).toNat)
 case atStart => exact ⟨0, by omega, rfl, fun j x hj => absurd hj (by omega), rfl⟩
 case round =>
  obtain ⟨k, hk, rfl, hp, hw⟩ := hrel
  subst hw
  have HP : Hid (∀ (j : Nat) (x : Int), j < k → es[j]? = some x → 0 ≤ x) := hp
  clear hp
  by_cases hlt : k < es.length
  ·obtain ⟨g, off, x, rfl, hx1, hx2, hx3, hx4⟩ := hcl k hlt
   have HX : Hid (es[k]? = some x) := hx1
   rw [Nat.mul_one] at hx4
   clear hx1 hcl
   by_cases hx : x < 0
   ·go_wp2
    go_ret
    exact ⟨ret1b (monB_neg HX.out hx).symm, HB.out⟩
   go_wp2
   go_roundw
   case rel =>
    refine ⟨k + 1, by omega, by go_num, fun j y hj hy => ?_, trivial⟩
    by_cases hjk : j = k
    ·subst hjk; rw [HX.out] at hy; cases hy; omega
    exact HP.out j y (by omega) hy
   case measure => simp [intOf]; omega
  have hke : k = es.length := by omega
  subst hke
  have HY : Hid (monB (c, es) = (es.length == 0 || !(es[es.length - 1]? == some 0))) := monB_yes h0 HR.out (fun j x hx => HP.out j x (zB.1 hx).1 hx)
  by_cases hz : es.length = 0
  ·have hb1 : ((es.length : Int) == 0) = true := by rw [beq_iff_eq]; omega
   clear hcl
   go_wp2
   go_ret
   exact ⟨ret1b (by rw [HY.out, hz]; rfl), HB.out⟩
  have hb1 : ((es.length : Int) == 0) = false := by rw [zY]; omega
  obtain ⟨g, off, x, rfl, hx1, hx2, hx3, hx4⟩ := hcl (es.length - 1) (by omega)
  rw [Nat.mul_one] at hx4
  have HX : Hid (es[es.length - 1]? = some x) := hx1
  have hpos : 0 < es.length := by omega
  clear hx1 hcl
  go_wp2
  go_ret
  refine ⟨ret1b ?_, HB.out⟩
  have hz' : (es.length == 0) = false := by simpa using hz
  rw [HY.out, HX.out, hz', Bool.false_or, bne, Option.some_beq_some]
def ordGo (es fs : List Int) : Nat → Nat → Int
 | 0, _ => 0
 | n + 1, k => if expI es k < expI fs k then -1 else if expI fs k < expI es k then 1 else ordGo es fs n (k + 1)
def ordX (es fs : List Int) : Int := ordGo es fs (max es.length fs.length) 0
theorem refOrder_any (v u : Value) (es fs : List Int) (w : World) (h : Is w v es) (h' : Is w u fs) :
  Calls Tryz.prog 92 #[v, u] w fun e w' => e = .returned (.int .i64 (ordX es fs)) ∧ w' = w := by
 obtain ⟨ao, cap, rfl, hao, hca, q0⟩ := Row.flat h
 obtain ⟨bo, cap', rfl, hbo, hcb, q0'⟩ := Row.flat h'
 unfold maxLen at hca hcb
 have HI : Hid (Is w (.slice ao es.length cap) es) := h
 have HJ : Hid (Is w (.slice bo fs.length cap') fs) := h'
 clear h h' q0 q0'
 go_enter Tryz.func92, Tryz.ntmps92
 go_wp2
 go_loopw [5] (fun i wr => ∃ k : Nat, k ≤ max es.length fs.length ∧ i = .int .i64 k ∧ ordX es fs = ordGo es fs (max es.length fs.length - k) k ∧ wr = w) (fun i _ => max es.length fs.length - (intOf i).toNat)
 case atStart => exact ⟨0, by omega, rfl, rfl, rfl⟩
 case round =>
  obtain ⟨k, hk, rfl, ho, hw⟩ := hrel
  have hw8 := hw.symm
  subst hw8
  clear hw
  have HO : Hid (ordX es fs = ordGo es fs (max es.length fs.length - k) k) := ho
  clear ho
  by_cases hend : k < max es.length fs.length
  ·have HS : Hid (ordX es fs = if expI es k < expI fs k then -1 else if expI fs k < expI es k then 1 else ordGo es fs (max es.length fs.length - (k + 1)) (k + 1)) := by
    show _ = _
    rw [HO.out, show max es.length fs.length - k = (max es.length fs.length - (k + 1)) + 1 by omega, ordGo]
   have hgo : (k < es.length) ∨ (decide (k < es.length) = false ∧ k < fs.length) := by
    by_cases h1 : k < es.length
    ·exact .inl h1
    exact .inr ⟨decide_eq_false h1, by omega⟩
   have hk6 : k ≤ 9223372036854775807 := by omega
   obtain ⟨X, hX⟩ : ∃ X, X = expI es k := ⟨_, rfl⟩
   obtain ⟨Y, hY⟩ : ∃ Y, Y = expI fs k := ⟨_, rfl⟩
   have HX : Hid (X = expI es k) := hX
   have HY : Hid (Y = expI fs k) := hY
   rw [← hX, ← hY] at HS
   clear hX hY
   have hcon1 := fun W (hh : Is W (.slice ao es.length cap) es) => xCI (.slice ao es.length cap) es k W hh hk6
   have hm : (k : Int) + 1 ≤ 9223372036854775807 := by omega
   by_cases h1 : X < Y
   ·rw [if_pos h1] at HS
    have HS2 : Hid (ordX es fs = -1) := HS
    rcases hgo with hgo | ⟨hgo, hgo2⟩
    all_goals
     clear hcon1
     go_wp2_with fail
     refine (xCI _ es k _ HI.out hk6).mono ?_
     rw [← HX.out]
     rintro e w9 ⟨rfl, hw9⟩
     have hw8 := hw9.symm
     subst hw8
     clear hw9
     go_wp2_with fail
     refine (xCI _ fs k _ HJ.out hk6).mono ?_
     rw [← HY.out]
     rintro e w9 ⟨rfl, hw9⟩
     have hw8 := hw9.symm
     subst hw8
     clear hw9
     go_wp2
     go_ret
     exact ⟨ret1i HS2.out.symm, rfl⟩
   by_cases h2 : Y < X
   ·rw [if_neg h1, if_pos h2] at HS
    have HS2 : Hid (ordX es fs = 1) := HS
    have hd1 : decide (X < Y) = false := decide_eq_false h1
    have hd2 : decide (Y < X) = true := decide_eq_true h2
    clear h1 h2 HS
    rcases hgo with hgo | ⟨hgo, hgo2⟩
    all_goals
     clear hcon1
     go_wp2_with fail
     refine (xCI _ es k _ HI.out hk6).mono ?_
     rw [← HX.out]
     rintro e w9 ⟨rfl, hw9⟩
     have hw8 := hw9.symm
     subst hw8
     clear hw9
     go_wp2_with fail
     refine (xCI _ fs k _ HJ.out hk6).mono ?_
     rw [← HY.out]
     rintro e w9 ⟨rfl, hw9⟩
     have hw8 := hw9.symm
     subst hw8
     clear hw9
     go_wp2
     go_ret
     exact ⟨ret1i HS2.out.symm, rfl⟩
   rw [if_neg h1, if_neg h2] at HS
   have HS2 : Hid (ordX es fs = ordGo es fs (max es.length fs.length - (k + 1)) (k + 1)) := HS
   obtain rfl : X = Y := by omega
   clear h1 h2 HS
   rcases hgo with hgo | ⟨hgo, hgo2⟩
   all_goals
    clear hcon1
    go_wp2_with fail
    refine (xCI _ es k _ HI.out hk6).mono ?_
    rw [← HX.out]
    rintro e w9 ⟨rfl, hw9⟩
    have hw8 := hw9.symm
    subst hw8
    clear hw9
    go_wp2_with fail
    refine (xCI _ fs k _ HJ.out hk6).mono ?_
    rw [← HY.out]
    rintro e w9 ⟨rfl, hw9⟩
    have hw8 := hw9.symm
    subst hw8
    clear hw9
    go_wp2
    go_roundw
    case rel => exact ⟨k + 1, by omega, by go_num, HS2.out, trivial⟩
    case measure => simp [intOf]; omega
  have hke : k = max es.length fs.length := by omega
  have HF : Hid (ordX es fs = 0) := by
   show _ = _
   rw [HO.out, hke, Nat.sub_self]
   rfl
  have hd1 : decide (k < es.length) = false := decide_eq_false (by omega)
  have hd2 : decide (k < fs.length) = false := decide_eq_false (by omega)
  clear hke
  go_wp2
  go_ret
  exact ⟨ret1i HF.out.symm, rfl⟩
def smallR (m : Mn) : Bool := m.2.all (fun n => decide (n ≤ 64)) && (decide (m.1.length ≤ 64) && decide (m.2.length ≤ 512))
theorem refSmall_any (cv ev : Value) (m : Mn) (w : World) (h : Mo w cv ev m) :
  Calls Tryz.prog 93 #[.agg #[cv, ev]] w fun e w' => e = .returned (.bool (smallR m)) ∧ Below w.heap.size w w' := by
 obtain ⟨c, es⟩ := m
 obtain ⟨hs, hi⟩ := h
 simp only at hs hi
 have hB := zA (w := w) (.cells #[cv, ev] 37)
 have HB : Hid (Below w.heap.size w (w.alloc (.cells #[cv, ev] 37))) := hB
 have hi2 := hi.kp (zK hB)
 obtain ⟨ao, cap, rfl, hao, hca, q0⟩ := hs.flat
 obtain ⟨bo, cap', rfl, hbo, hcb, hcl⟩ := hi2.flat
 unfold maxLen at hca hcb
 clear q0 hs hi hi2 hB
 go_enter Tryz.func93, Tryz.ntmps93
 go_wp2
 obtain ⟨wb, hwb⟩ : ∃ wb, wb = w.alloc (.cells #[.slice ao c.length cap, .slice bo es.length cap'] 37) := ⟨_, rfl⟩
 have hc0 : wb.cell? ⟨w.heap.size, 0, none⟩ = some (.slice ao c.length cap) := by rw [hwb]; simp
 have hc1 : wb.cell? ⟨w.heap.size, 1, none⟩ = some (.slice bo es.length cap') := by rw [hwb]; simp
 rw [← hwb] at HB hcl ⊢
 clear hwb
 go_loopw [3] (fun i wr => ∃ k : Nat, k ≤ es.length ∧ i = .int .i64 k ∧ (∀ (j : Nat) (x : Int), j < k → es[j]? = some x → x ≤ 64) ∧ wr = wb) (fun i _ => es.length - (intOf i).toNat)
 case atStart => exact ⟨0, by omega, rfl, fun j x hj => absurd hj (by omega), rfl⟩
 case round =>
  obtain ⟨k, hk, rfl, hp, hw⟩ := hrel
  subst hw
  have HP : Hid (∀ (j : Nat) (x : Int), j < k → es[j]? = some x → x ≤ 64) := hp
  clear hp
  by_cases hlt : k < es.length
  ·obtain ⟨g, off, x, rfl, hx1, hx2, hx3, hx4⟩ := hcl k hlt
   have HX : Hid (es[k]? = some x) := hx1
   rw [Nat.mul_one] at hx4
   clear hx1 hcl
   by_cases hx : x ≤ 64
   ·go_wp2
    go_roundw
    case rel =>
     refine ⟨k + 1, by omega, by go_num, fun j y hj hy => ?_, trivial⟩
     by_cases hjk : j = k
     ·subst hjk; rw [HX.out] at hy; cases hy; exact hx
     exact HP.out j y (by omega) hy
    case measure => simp [intOf]; omega
   have HF : Hid (smallR (c, es) = false) := by
    show _ = _
    have : es.all (fun n => decide (n ≤ 64)) = false := by rw [List.all_eq_false]; exact ⟨x, zD HX.out, by simp; omega⟩
    simp [smallR, this]
   go_wp2
   go_ret
   exact ⟨ret1b HF.out.symm, HB.out⟩
  have hke : k = es.length := by omega
  subst hke
  have HF : Hid (smallR (c, es) = (decide (c.length ≤ 64) && decide (es.length ≤ 512))) := by
   show _ = _
   have : es.all (fun n => decide (n ≤ 64)) = true := by
    rw [List.all_eq_true]
    intro x hx
    obtain ⟨j, hj⟩ := zW.1 hx
    simpa using HP.out j x (zB.1 hj).1 hj
   simp only [smallR, this, Bool.true_and]
  clear hcl
  by_cases h64 : c.length ≤ 64
  ·have HF2 : Hid (smallR (c, es) = decide (es.length ≤ 512)) := by
    show _ = _
    rw [HF.out, decide_eq_true h64, Bool.true_and]
   go_wp2
   go_ret
   exact ⟨ret1b ((decide_eq_decide.2 (by omega)).trans HF2.out.symm), HB.out⟩
  have hd : decide (c.length ≤ 64) = false := decide_eq_false h64
  have HF2 : Hid (smallR (c, es) = false) := by
   show _ = _
   rw [HF.out, hd, Bool.false_and]
  go_wp2
  go_ret
  exact ⟨ret1b HF2.out.symm, HB.out⟩
theorem is_two {w : World} {g : Nat} {a b : Int} (ha : -9223372036854775808 ≤ a ∧ a ≤ 9223372036854775807) (hb : -9223372036854775808 ≤ b ∧ b ≤ 9223372036854775807) (h : w.cell? ⟨g, 0, none⟩ = some (.int .i64 a)) (h' : w.cell? ⟨g, 1, none⟩ = some (.int .i64 b)) : Is w (.slice (some ⟨g, 0, none⟩) 2 2) [a, b] := by
 refine ⟨_, 2, rfl, by simp, by simp [maxLen], fun _ => ⟨g, 0, rfl, yJ w _ h, ?_⟩⟩
 intro k x hk
 have hlt := (zB.1 hk).1
 match k, hlt with
 | 0, _ =>
  simp only [yQ, zX] at hk
  subst hk
  exact ⟨ha.1, ha.2, h⟩
 | 1, _ =>
  simp only [yP, yQ, zX] at hk
  subst hk
  exact ⟨hb.1, hb.2, h'⟩
end Go.Proofs.YtdjmjhlbjcgoiaaGreatDoor
