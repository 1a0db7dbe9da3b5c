/- What Compose and Value answer: the walks. -/
import Derived.Test.YtfifgmcjilkigaaPComp
namespace Go.Proofs.Ytfifgmcjilkigaa
open Go.RowKit Go.Maps

theorem ms_one {w : World} {cv : Value} {c : List Nat} (h : Sl w cv c) : Ms (w.alloc (.cells #[cv, .slice none 0 0] 46)) (.slice (some ⟨w.heap.size, 0, none⟩) 1 1) [(c, [])] := by
  have hk := Kp.of_below (below_alloc (w := w) (.cells #[cv, .slice none 0 0] 46))
  refine ⟨_, 1, rfl, by simp, by simp [maxLen], fun _ => ⟨w.heap.size, 0, rfl, by simp, ?_⟩⟩
  intro k x hk2
  have hlt := (List.getElem?_eq_some_iff.1 hk2).1
  match k, hlt with
  | 0, _ =>
    simp only [List.getElem?_cons_zero, Option.some.injEq] at hk2
    subst hk2
    exact ⟨cv, .slice none 0 0, by simp, by simp, h.kp hk, Row.nil (by simp [maxLen])⟩

theorem domM_one (c : List Nat) : DomM [(c, [])] := by
  intro k m hk
  have hlt := (List.getElem?_eq_some_iff.1 hk).1
  match k, hlt with
  | 0, _ =>
    simp only [List.getElem?_cons_zero, Option.some.injEq] at hk
    subst hk
    exact ⟨by simp, fun j x hj => by simp at hj⟩

set_option maxRecDepth 100000 in
set_option maxHeartbeats 600000 in
theorem compose_any (v av : Value) (p : List Mn) (args : List (List Mn)) (w : World) (h : Ms w v p) (h' : Ps w av args) :
    Calls Try.prog 23 #[v, av] w fun e w' => ∃ v', e = .returned (.tuple #[v', .int .i64 (compE p args)]) ∧ OM w' w.heap.size v' (compL p args) ∧ Below w.heap.size w w' := by
  obtain ⟨ao, cap, rfl, hao, hca, q0⟩ := Row.flat h
  obtain ⟨bo, cap', rfl, hbo, hcb, q0'⟩ := Row.flat h'
  unfold maxLen at hca hcb
  have HP : Hid (Ms w (.slice ao p.length cap) p) := h
  have HQ : Hid (Ps w (.slice bo args.length cap') args) := h'
  have H1 : Hid _ := ps1 h
  have hmm := @run_makeMap Try.prog
  clear h h' q0 q0'
  go_enter Try.func23, Try.ntmps23
  go_wp2_with fail
  refine (checkAll_any _ [p] _ H1.out).mono ?_
  rintro e w1 ⟨rfl, hb1⟩
  have HB1 : Hid (Below w.heap.size w w1) := below_step (below_alloc _) hb1
  obtain ⟨E, hE⟩ : ∃ E, E = checkAllE [p] := ⟨_, rfl⟩
  have HE : Hid (E = checkAllE [p]) := hE
  rw [← hE]
  clear hE hb1 H1
  by_cases hE0 : E = 0
  case neg =>
    have hb0 : (E != 0) = true := by rw [bne_iff_ne]; exact hE0
    have hc : compE p args = E := by unfold compE; rw [if_neg (by rw [← HE.out]; exact hE0)]; exact HE.out.symm
    have HC : Hid (compE p args = E ∧ compL p args = []) := ⟨hc, by unfold compL; rw [hc, if_neg hE0]⟩
    clear hc
    go_wp2
    go_ret2
    exact ⟨_, ret2i HC.out.1.symm, by rw [HC.out.2]; exact OM.nil _ _, HB1.out⟩
  subst hE0
  have HSp : Hid (DomM p) := small_of_check (checkAll1 HE.out.symm)
  go_wp2_with fail
  refine (checkAll_any _ args _ (HQ.out.kp (Kp.of_below HB1.out))).mono ?_
  rintro e w2 ⟨rfl, hb2⟩
  have HB2 : Hid (Below w.heap.size w w2) := below_step HB1.out hb2
  obtain ⟨F, hF⟩ : ∃ F, F = checkAllE args := ⟨_, rfl⟩
  have HF : Hid (F = checkAllE args) := hF
  rw [← hF]
  clear hF hb2
  by_cases hF0 : F = 0
  case neg =>
    have hb0 : (F != 0) = true := by rw [bne_iff_ne]; exact hF0
    have hc : compE p args = F := by unfold compE; rw [if_pos HE.out.symm, if_neg (by rw [← HF.out]; exact hF0)]; exact HF.out.symm
    have HC : Hid (compE p args = F ∧ compL p args = []) := ⟨hc, by unfold compL; rw [hc, if_neg hF0]⟩
    clear hc
    go_wp2
    go_ret2
    exact ⟨_, ret2i HC.out.1.symm, by rw [HC.out.2]; exact OM.nil _ _, HB2.out⟩
  subst hF0
  have HSa : Hid (∀ q ∈ args, DomM q) := checkAll_mem HF.out.symm
  go_wp2_with fail
  refine (variables_any _ p _ (HP.out.kp (Kp.of_below HB2.out))).mono ?_
  rintro e w3 ⟨rfl, hb3⟩
  have HB3 : Hid (Below w.heap.size w w3) := below_step HB2.out hb3
  obtain ⟨N, hN⟩ : ∃ N, N = varsN p := ⟨_, rfl⟩
  have HN : Hid (N = varsN p) := hN
  rw [← hN]
  clear hN hb3
  by_cases hNa : N ≤ args.length
  case neg =>
    have hc : compE p args = 21 := by unfold compE; rw [if_pos HE.out.symm, if_pos HF.out.symm, if_neg (by rw [← HN.out]; exact hNa)]
    have HC : Hid (compE p args = 21 ∧ compL p args = []) := ⟨hc, by unfold compL; rw [hc]; rfl⟩
    clear hc
    go_wp2
    go_ret2
    exact ⟨_, ret2i HC.out.1.symm, by rw [HC.out.2]; exact OM.nil _ _, HB3.out⟩
  have HCE : Hid (compE p args = (compGo args [] p).2) := by
    show _ = _
    unfold compE
    rw [if_pos HE.out.symm, if_pos HF.out.symm, if_pos (by rw [← HN.out]; exact hNa)]
  have hdec : decide (args.length < N) = false := decide_eq_false (by omega)
  go_wp2
  clear hmm
  have H0 : Hid (MapOk (w3.alloc (.map #[] 0)) w.heap.size w3.heap.size []) := MapOk.made w3 _
  have HB4 : Hid (Below w.heap.size w (w3.alloc (.map #[] 0))) := below_step HB3.out (below_alloc _)
  obtain ⟨G, hG⟩ : ∃ G, G = w3.heap.size := ⟨_, rfl⟩
  have hGw : w.heap.size ≤ G := by rw [hG]; exact HB3.out.size
  rw [← hG] at H0 ⊢
  clear hG
  go_loopw [32] (fun i wr => ∃ (k : Nat) (M : Lk), k ≤ p.length ∧ i = .int .i64 k ∧ compGo args [] p = compGo args M (p.drop k) ∧ M.length ≤ 256 ∧ MapOk wr w.heap.size G M ∧ Below w.heap.size w wr) (fun i _ => p.length - (intOf i).toNat)
  case atStart => exact ⟨0, [], by omega, rfl, rfl, by simp, H0.out, HB4.out⟩
  case round =>
    obtain ⟨k, M, hk, rfl, hpu, hM6, hmo, hbl⟩ := hrel
    have HPr : Hid (compGo args [] p = compGo args M (p.drop k)) := hpu
    have HMo : Hid (MapOk wr w.heap.size G M) := hmo
    have HBl : Hid (Below w.heap.size w wr) := hbl
    clear hpu hmo hbl H0 HB4
    by_cases hlt : k < p.length
    · obtain ⟨g, off, c, es, a1, c1, a2, c2, rfl, hm1, hc0, hc1, hmm, hl1, hl2, hl3, hl4⟩ := (HP.out.kp (Kp.of_below HBl.out)).at hlt
      have HX : Hid (p[k]? = some (c, es)) := hm1
      have HSm : Hid (Small es) := HSp.out k _ hm1
      have hle : es.length ≤ args.length := Nat.le_trans (varsN_ge hm1) (by rw [← HN.out]; exact hNa)
      have hbx := below_alloc (w := wr) (.cells #[.slice a1 c.length c1, .slice a2 es.length c2] 46)
      have hmm2 := hmm.kp (Kp.of_below hbx)
      have hone := ms_one hmm2.1
      rw [show (wr.alloc (.cells #[.slice a1 c.length c1, .slice a2 es.length c2] 46)).heap.size = wr.heap.size + 1 by simp] at hone
      have HOne : Hid (Ms ((wr.alloc (.cells #[.slice a1 c.length c1, .slice a2 es.length c2] 46)).alloc (.cells #[.slice a1 c.length c1, .slice none 0 0] 46)) (.slice (some ⟨wr.heap.size + 1, 0, none⟩) 1 1) [(c, [])]) := hone
      clear hone
      have hbx2 := below_alloc (w := wr.alloc (.cells #[.slice a1 c.length c1, .slice a2 es.length c2] 46)) (.cells #[.slice a1 c.length c1, .slice none 0 0] 46)
      have HEs : Hid (Is ((wr.alloc (.cells #[.slice a1 c.length c1, .slice a2 es.length c2] 46)).alloc (.cells #[.slice a1 c.length c1, .slice none 0 0] 46)) (.slice a2 es.length c2) es) := hmm2.2.kp (Kp.of_below hbx2)
      have HBx : Hid (Below wr.heap.size wr ((wr.alloc (.cells #[.slice a1 c.length c1, .slice a2 es.length c2] 46)).alloc (.cells #[.slice a1 c.length c1, .slice none 0 0] 46))) := below_step hbx hbx2
      clear hm1 hmm hmm2 hbx hbx2
      go_wp2_with fail
      refine (worthM_any 45 _ _ _ [(c, [])] es args _ timesM domM_prod HOne.out HEs.out ((HQ.out.kp (Kp.of_below HBl.out)).kp (Kp.of_below HBx.out)) (domM_one c) HSa.out HSm.out hle enterM).mono ?_
      rintro e w4 ⟨v4, rfl, ho4, hb4⟩
      obtain ⟨PW, hPW⟩ : ∃ PW, PW = worthV prodL prodE es args [(c, [])] := ⟨_, rfl⟩
      have HPW : Hid (PW = worthV prodL prodE es args [(c, [])]) := hPW
      rw [← hPW] at ho4 ⊢
      have HO4 : Hid (Ms w4 v4 PW.1) := ho4
      have hb04 := below_step HBx.out hb4
      have HM4 : Hid (MapOk w4 w.heap.size G M) := HMo.out.later hb04
      have HB4 : Hid (Below w.heap.size w w4) := below_step HBl.out hb04
      obtain ⟨E1, hE1⟩ : ∃ E1, E1 = PW.2 := ⟨_, rfl⟩
      have HE1 : Hid (E1 = PW.2) := hE1
      rw [← hE1]
      clear hPW hE1 ho4 hb4 hb04
      by_cases h1 : E1 = 0
      · subst h1
        have HDp : Hid (DomM PW.1) := by
          show DomM PW.1
          rw [HPW.out]
          unfold worthV
          split
          · exact domM_nil
          · rename_i hno
            refine D_worth domM_prod es args _ HSa.out (domM_one c) ?_
            have := HE1.out.symm
            rw [HPW.out] at this
            unfold worthV at this
            rw [if_neg hno] at this
            exact this
        go_wp2_with fail
        refine (putAll_any G w.heap.size M PW.1 _ _ HM4.out HO4.out HDp.out hM6 HB4.out.size).mono ?_
        rintro e w5 ⟨rfl, hm5, hg5⟩
        have HM5 : Hid (MapOk w5 w.heap.size G (puts M PW.1).1) := hm5
        have HB5 : Hid (Below w.heap.size w w5) := HB4.out.grown hg5 HB4.out.size (fun k hk => by cases hk; exact hGw)
        obtain ⟨E2, hE2⟩ : ∃ E2, E2 = (puts M PW.1).2 := ⟨_, rfl⟩
        have HE2 : Hid (E2 = (puts M PW.1).2) := hE2
        rw [← hE2]
        clear hE2 hm5 hg5
        by_cases h2 : E2 = 0
        · subst h2
          go_wp2
          go_roundw
          case rel =>
            refine ⟨k + 1, (puts M PW.1).1, by omega, by go_num, ?_, len_puts HE2.out.symm hM6, HM5.out, HB5.out⟩
            rw [HPr.out, drop_get HX.out, compGo]
            simp only
            rw [← HPW.out, if_pos HE1.out.symm, if_pos HE2.out.symm]
          case measure => simp [intOf]; omega
        · have hb0 : (E2 != 0) = true := by rw [bne_iff_ne]; exact h2
          have hc : compE p args = E2 := by
            rw [HCE.out, HPr.out, drop_get HX.out, compGo]
            simp only
            rw [← HPW.out, if_pos HE1.out.symm, if_neg (by rw [← HE2.out]; exact h2), ← HE2.out]
          have HC : Hid (compE p args = E2 ∧ compL p args = []) := ⟨hc, by unfold compL; rw [hc, if_neg h2]⟩
          clear hc
          go_wp2
          go_ret2
          exact ⟨_, ret2i HC.out.1.symm, by rw [HC.out.2]; exact OM.nil _ _, HB5.out⟩
      · have hb0 : (E1 != 0) = true := by rw [bne_iff_ne]; exact h1
        have hb1 : (E1 == 0) = false := by rw [beq_eq_false_iff_ne]; exact h1
        have hc : compE p args = E1 := by
          rw [HCE.out, HPr.out, drop_get HX.out, compGo]
          simp only
          rw [← HPW.out, if_neg (by rw [← HE1.out]; exact h1), ← HE1.out]
        have HC : Hid (compE p args = E1 ∧ compL p args = []) := ⟨hc, by unfold compL; rw [hc, if_neg h1]⟩
        clear hc
        go_wp2
        go_ret2
        exact ⟨_, ret2i HC.out.1.symm, by rw [HC.out.2]; exact OM.nil _ _, HB4.out⟩
    · have hke : k = p.length := by omega
      subst hke
      have hfin : compGo args [] p = (M, 0) := by rw [HPr.out, List.drop_of_length_le (Nat.le_refl _)]; rfl
      have hc : compE p args = 0 := by rw [HCE.out, hfin]
      go_wp2_with fail
      refine (row_any G w.heap.size M _ HMo.out (by omega) HBl.out.size).mono ?_
      rintro e w6 ⟨v6, rfl, ho6, hb6⟩
      have HO6 : Hid (OM w6 w.heap.size v6 (compL p args)) := by
        show OM _ _ _ _
        unfold compL
        rw [if_pos hc, hfin]
        exact ho6
      have HC : Hid (compE p args = 0) := hc
      have HB6 : Hid (Below w.heap.size w w6) := below_step HBl.out hb6
      clear ho6 hb6 hfin hc
      go_wp2
      go_ret2
      exact ⟨_, ret2i HC.out.symm, HO6.out, HB6.out⟩

end Go.Proofs.Ytfifgmcjilkigaa
