/- GraphRenamed: with the nodes numbered otherwise they are the same nodes. -/
import Derived.Test.YtmokokhhheonoaaOwn6
namespace Go.Proofs.Ytmokokhhheonoaa
open Go.RowKit Go.Maps Go.BigFrame

set_option maxRecDepth 100000 in
set_option maxHeartbeats 32000000 in
theorem graphRenamed_any (v : Value) (G : List (List Int)) (by0 : Int) (w : World) (h : Rs w v G) (hb1 : -9223372036854775808 ≤ by0) (hb2 : by0 ≤ 9223372036854775807) (hsum : (G.map List.length).sum ≤ 1048576) :
    Calls Try.prog 6 #[v, .int .i64 by0] w fun e w' => e = .returned (.bool true) ∧ Below w.heap.size w w' := by
  obtain ⟨ao, cap, rfl, hao, hca, _⟩ := Row.flat h
  unfold maxLen at hca
  have HG := hid h
  have HSum := hid hsum
  clear h hsum
  go_enter Try.func6, Try.ntmps6
  go_wp2_with fail
  refine (shown14_any w).mono ?_
  rintro e w1 ⟨rfl, hb1⟩
  have B1 := hid hb1
  clear hb1
  by_cases hbig : 200 < G.length
  · have hd : decide (200 < G.length) = true := by simpa using hbig
    go_wp2
    go_ret
    exact ⟨rfl, B1.out⟩
  · have hd : decide (200 < G.length) = false := by simpa using hbig
    by_cases hzero : G.length = 0
    · have hz1 : ((G.length : Int) == 0) = true := by simp [hzero]
      have hz2 : (G.length == 0) = true := by simp [hzero]
      clear hzero
      go_wp2
      go_ret
      exact ⟨rfl, B1.out⟩
    · have hz1 : ((G.length : Int) == 0) = false := by simp; exact List.ne_nil_of_length_pos (by omega)
      have hz2 : (G.length == 0) = false := by simpa using hzero
      have hpos : 0 < G.length := by omega
      go_upto_if 30 with fail
      go_cut [1] from 31 to 33 (fun x wx => (∃ K : Nat, x = .int .i64 K ∧ K ≤ 9223372036854775807) ∧ wx = w1)
      case first =>
        by_cases hc0 : by0 < 0
        · have hdc : decide (by0 < 0) = true := by simpa using hc0
          obtain ⟨K, hK⟩ : ∃ K : Nat, (K : Int) = -(by0 + 1) := ⟨(-(by0 + 1)).toNat, by omega⟩
          have hw1 : IntKind.i64.wrap (by0 + 1) = by0 + 1 := IntWalk.i64_in _ ⟨by omega, by omega⟩
          have hw2 : IntKind.i64.wrap (-(by0 + 1)) = (K : Int) := by rw [← hK]; exact IntWalk.i64_in _ ⟨by omega, by omega⟩
          have hK2 : K ≤ 9223372036854775807 := by omega
          clear hK
          go_wp2
          go_meet
          case rel => exact ⟨⟨K, rfl, hK2⟩, rfl⟩
        · have hdc : decide (by0 < 0) = false := by simpa using hc0
          obtain ⟨K, rfl⟩ : ∃ K : Nat, by0 = (K : Int) := ⟨by0.toNat, by omega⟩
          go_wp2
          go_meet
          case rel => exact ⟨⟨K, rfl, by omega⟩, rfl⟩
      obtain ⟨⟨K, rfl, hK2⟩, hwx⟩ := hcut
      have hwx' := hwx.symm
      subst hwx'
      clear hwx
      obtain ⟨b, hb⟩ : ∃ b, b = K % G.length := ⟨_, rfl⟩
      have hmk : ((K : Int).tmod (G.length : Int)) = (b : Int) := by rw [hb]; rfl
      have hbl : b < G.length := by rw [hb]; exact Nat.mod_lt _ hpos
      have hwb : IntKind.i64.wrap (b : Int) = (b : Int) := IntWalk.i64_in _ ⟨by omega, by omega⟩
      have hnz : ¬ (G.length : Int) = 0 := by omega
      have hnz2 : ¬ G.length = 0 := hzero
      have hnz3 : G ≠ [] := fun e => hzero (by rw [e]; rfl)
      clear hb hK2 hzero hb1 hb2
      have hmk2 := run_makeR14 w1 G.length (by omega)
      have hnw := Bk14.new w1 G.length
      obtain ⟨W, hW⟩ : ∃ X, X = w1.alloc (.cells (List.replicate G.length (Value.slice none 0 0)).toArray 26) := ⟨_, rfl⟩
      rw [← hW] at hmk2 hnw
      have HN := hid hnw
      clear hnw hW
      generalize hg : w1.heap.size = g at hmk2 HN
      have HRs := hid (HG.out.kp (Kp.of_below B1.out))
      go_wp2
      go_loopw [8, 9, 10] (fun i _ _ wr => ∃ (k : Nat) (vals : List Value) (rws : List (List Int)), k ≤ G.length ∧ i = .int .i64 k ∧ Bk14 w1 wr g G.length vals rws ∧ Rn14 G b k 0 rws) (fun i _ _ _ => G.length - (intOf i).toNat)
      case atStart => exact ⟨0, _, _, Nat.zero_le _, rfl, HN.out, Rn14.start G b _⟩
      case round =>
        obtain ⟨i, vals, rws, hi, rfl, hbk, htn⟩ := hrel
        have HB := hid hbk
        have HT := hid htn
        clear hbk htn HN
        by_cases hlt : i < G.length
        · as_aux_lemma =>
            obtain ⟨g1, o1, xa, es, xc, rfl, hes, hx2, hx3, hx4⟩ := (HRs.out.kp (Kp.of_below HB.out.bel)).at hlt
            have HEs := hid hes
            clear hes hx2 hx3 hx4
            go_wp2
            go_loopw [9, 10] (fun j _ wr => ∃ (k : Nat) (vals : List Value) (rws : List (List Int)), k ≤ es.length ∧ j = .int .i64 k ∧ Bk14 w1 wr g G.length vals rws ∧ Rn14 G b i k rws) (fun j _ _ => es.length - (intOf j).toNat)
            case atStart => exact ⟨0, _, _, Nat.zero_le _, rfl, HB.out, HT.out⟩
            case round =>
              obtain ⟨k, vals, rws, hk, rfl, hbk, htn⟩ := hrel
              have HB2 := hid hbk
              have HT2 := hid htn
              clear hbk htn HB HT
              obtain ⟨_, _, xa, es', xc, e1, hes, hx2, hx3, hx4⟩ := (HRs.out.kp (Kp.of_below HB2.out.bel)).at hlt
              rw [HEs.out] at hes
              cases hes
              cases e1
              by_cases hkl : k < es.length
              · as_aux_lemma =>
                  obtain ⟨g2, o2, t, rfl, ht, ht2, ht3, ht4⟩ := hx3.at hkl
                  have HTt := hid ht
                  have hw1 : IntKind.i64.wrap ((k : Int) + 1) = ((k + 1 : Nat) : Int) := by rw [IntWalk.i64_in _ ⟨by omega, by omega⟩]; omega
                  clear ht hx3
                  by_cases hin : 0 ≤ t ∧ t < G.length
                  · as_aux_lemma =>
                      obtain ⟨t, rfl⟩ : ∃ x : Nat, t = (x : Int) := ⟨t.toNat, by omega⟩
                      have htl : t < G.length := by omega
                      have hd0 : decide (0 ≤ (t : Int)) = true := by simp
                      have hd1 : decide (t < G.length) = true := by simpa using htl
                      obtain ⟨X, hX⟩ : ∃ X, X = mvN G.length b i := ⟨_, rfl⟩
                      obtain ⟨Y, hY⟩ : ∃ Y, Y = mvN G.length b t := ⟨_, rfl⟩
                      obtain ⟨S1, hS1⟩ : ∃ S, S = i + b := ⟨_, rfl⟩
                      obtain ⟨S2, hS2⟩ : ∃ S, S = t + b := ⟨_, rfl⟩
                      have hxl : X < G.length := by rw [hX]; exact mvN_lt hpos
                      have hyl : Y < G.length := by rw [hY]; exact mvN_lt hpos
                      have hw3 : IntKind.i64.wrap ((i : Int) + (b : Int)) = (S1 : Int) := by rw [hS1, IntWalk.i64_in _ ⟨by omega, by omega⟩]; omega
                      have hw4 : IntKind.i64.wrap ((t : Int) + (b : Int)) = (S2 : Int) := by rw [hS2, IntWalk.i64_in _ ⟨by omega, by omega⟩]; omega
                      have hm1 : (S1 : Int).tmod (G.length : Int) = (X : Int) := by rw [hS1, hX]; rfl
                      have hm2 : (S2 : Int).tmod (G.length : Int) = (Y : Int) := by rw [hS2, hY]; rfl
                      have hm3 : S1 % G.length = X := by rw [hS1, hX]; rfl
                      have hm4 : S2 % G.length = Y := by rw [hS2, hY]; rfl
                      have hwX : IntKind.i64.wrap (X : Int) = (X : Int) := IntWalk.i64_in _ ⟨by omega, by omega⟩
                      have hwY : IntKind.i64.wrap (Y : Int) = (Y : Int) := IntWalk.i64_in _ ⟨by omega, by omega⟩
                      obtain ⟨v9, r9, hv9, hr9, hbo, hc9, hf9⟩ := HB2.out.one hxl
                      have hrl := (HT2.out X r9 hr9).1
                      have hcl := cnt_le14 HEs.out (Nat.le_of_lt hkl)
                      have hsm := HSum.out
                      have HT3 := hid (HT2.out.put HEs.out HTt.out htl (by rw [← hX]; exact hr9))
                      rw [← hX, ← hY] at HT3
                      obtain ⟨bo, bc, hvv, _, _⟩ := hbo.shape
                      subst hvv
                      have HBo : Hid ((r9.length + 1) * 8 ≤ 140737488355328) := by show _ ≤ _; omega
                      have HHv := hid hv9
                      have HHr := hid hr9
                      have HHc := hid hc9
                      clear hrl hcl hsm hin hv9 hr9 hbo hc9 hf9 hX hY hS1 hS2 hx4 HTt HT2
                      go_upto_region 19 with fail
                      have hc9 := HHc.out
                      have hv9 := HHv.out
                      have hr9 := HHr.out
                      have hbd := HB2.out.later (w' := wr.drew) (Below.refl _ _).drew
                      have hc9a : wr.drew.cell? ⟨g, X, none⟩ = some (.slice bo r9.length bc) := hc9
                      obtain ⟨x0, hx0⟩ : ∃ Z, Z = wr.drew := ⟨_, rfl⟩
                      rw [← hx0] at hbd hc9a
                      obtain ⟨v', w', hrun, ⟨a9, m9, c8, rfl⟩, hc8, hf8, hbw, hbk⟩ := hbd.pushB 26 (c := (Y : Int)) hxl hv9 hr9 (by omega) (by omega) HBo.out
                      obtain ⟨xa, hxa⟩ : ∃ Z, Z = x0.alloc (.cells #[.int .i64 (Y : Int)] 3) := ⟨_, rfl⟩
                      have hca : xa.cell? ⟨g, X, none⟩ = some (.slice bo r9.length bc) := by rw [hxa]; exact (Kp.of_below (below_alloc _)).cell _ _ hc9a
                      obtain ⟨W3, hW3⟩ : ∃ Z, Z = w'.setCell ⟨g, X, none⟩ (.slice a9 m9 c8) := ⟨_, rfl⟩
                      rw [← hW3] at hbk
                      rw [← hxa] at hrun
                      have HB3 := hid hbk
                      clear hbk hv9 hr9 hbd hbw hc9 hx2 ht2 HHv HHr HHc HB2 HBo
                      refine wp_region_held_drew (S := fun _ => True) (by kernel_rfl) trivial (fun _ => ?_)
                      rw [← hx0]
                      clear hx0
                      refine wpAnyH_take (i := 0) (v := .slice (some ⟨g, 0, none⟩) G.length G.length) rfl (by kernel_rfl) (by kernel_rfl) (by kernel_rfl) (fun _ _ _ h => h) (Or.inl ⟨by kernel_rfl, fun w' h => by go_simp⟩) trivial ?_
                      (try simp only [List.getElem_toArray]); (try simp only [List.getElem_cons_succ]); (try simp only [List.getElem_cons_zero]); (try simp only [Act.put]); (try simp only [List.setIfInBounds_toArray]); (try simp only [List.set_cons_zero, List.set_cons_succ])
                      refine wpAnyH_take (i := 1) (v := .int .i64 (i : Int)) rfl (by kernel_rfl) (by kernel_rfl) (by kernel_rfl) (fun _ _ _ h => h) (Or.inl ⟨by kernel_rfl, fun w' h => by go_simp⟩) trivial ?_
                      (try simp only [List.getElem_toArray]); (try simp only [List.getElem_cons_succ]); (try simp only [List.getElem_cons_zero]); (try simp only [Act.put]); (try simp only [List.setIfInBounds_toArray]); (try simp only [List.set_cons_zero, List.set_cons_succ])
                      refine wpAnyH_take (i := 2) (v := .int .i64 (b : Int)) rfl (by kernel_rfl) (by kernel_rfl) (by kernel_rfl) (fun _ _ _ h => h) (Or.inl ⟨by kernel_rfl, fun w' h => by go_simp⟩) trivial ?_
                      (try simp only [List.getElem_toArray]); (try simp only [List.getElem_cons_succ]); (try simp only [List.getElem_cons_zero]); (try simp only [Act.put]); (try simp only [List.setIfInBounds_toArray]); (try simp only [List.set_cons_zero, List.set_cons_succ])
                      refine wpAnyH_take (i := 3) (v := .int .i64 (S1 : Int)) rfl (by kernel_rfl) (by kernel_rfl) (by kernel_rfl) (fun _ _ _ h => h) (Or.inl ⟨by kernel_rfl, fun w' h => by go_simp⟩) trivial ?_
                      (try simp only [List.getElem_toArray]); (try simp only [List.getElem_cons_succ]); (try simp only [List.getElem_cons_zero]); (try simp only [Act.put]); (try simp only [List.setIfInBounds_toArray]); (try simp only [List.set_cons_zero, List.set_cons_succ])
                      refine wpAnyH_take (i := 4) (v := .int .i64 (G.length : Int)) rfl (by kernel_rfl) (by kernel_rfl) (by kernel_rfl) (fun _ _ _ h => h) (Or.inl ⟨by kernel_rfl, fun w' h => by go_simp⟩) trivial ?_
                      (try simp only [List.getElem_toArray]); (try simp only [List.getElem_cons_succ]); (try simp only [List.getElem_cons_zero]); (try simp only [Act.put]); (try simp only [List.setIfInBounds_toArray]); (try simp only [List.set_cons_zero, List.set_cons_succ])
                      refine wpAnyH_take (i := 5) (v := .int .i64 (X : Int)) rfl (by kernel_rfl) (by kernel_rfl) (by kernel_rfl) (fun _ _ _ h => h) (Or.inl ⟨by kernel_rfl, fun w' h => by go_simp⟩) trivial ?_
                      (try simp only [List.getElem_toArray]); (try simp only [List.getElem_cons_succ]); (try simp only [List.getElem_cons_zero]); (try simp only [Act.put]); (try simp only [List.setIfInBounds_toArray]); (try simp only [List.set_cons_zero, List.set_cons_succ])
                      refine wpAnyH_take (i := 6) (v := .slice (some ⟨g, 0, none⟩) G.length G.length) rfl (by kernel_rfl) (by kernel_rfl) (by kernel_rfl) (fun _ _ _ h => h) (Or.inl ⟨by kernel_rfl, fun w' h => by go_simp⟩) trivial ?_
                      (try simp only [List.getElem_toArray]); (try simp only [List.getElem_cons_succ]); (try simp only [List.getElem_cons_zero]); (try simp only [Act.put]); (try simp only [List.setIfInBounds_toArray]); (try simp only [List.set_cons_zero, List.set_cons_succ])
                      refine wpAnyH_take (i := 7) (v := .int .i64 (i : Int)) rfl (by kernel_rfl) (by kernel_rfl) (by kernel_rfl) (fun _ _ _ h => h) (Or.inl ⟨by kernel_rfl, fun w' h => by go_simp⟩) trivial ?_
                      (try simp only [List.getElem_toArray]); (try simp only [List.getElem_cons_succ]); (try simp only [List.getElem_cons_zero]); (try simp only [Act.put]); (try simp only [List.setIfInBounds_toArray]); (try simp only [List.set_cons_zero, List.set_cons_succ])
                      refine wpAnyH_take (i := 8) (v := .int .i64 (b : Int)) rfl (by kernel_rfl) (by kernel_rfl) (by kernel_rfl) (fun _ _ _ h => h) (Or.inl ⟨by kernel_rfl, fun w' h => by go_simp⟩) trivial ?_
                      (try simp only [List.getElem_toArray]); (try simp only [List.getElem_cons_succ]); (try simp only [List.getElem_cons_zero]); (try simp only [Act.put]); (try simp only [List.setIfInBounds_toArray]); (try simp only [List.set_cons_zero, List.set_cons_succ])
                      refine wpAnyH_take (i := 9) (v := .int .i64 (S1 : Int)) rfl (by kernel_rfl) (by kernel_rfl) (by kernel_rfl) (fun _ _ _ h => h) (Or.inl ⟨by kernel_rfl, fun w' h => by go_simp⟩) trivial ?_
                      (try simp only [List.getElem_toArray]); (try simp only [List.getElem_cons_succ]); (try simp only [List.getElem_cons_zero]); (try simp only [Act.put]); (try simp only [List.setIfInBounds_toArray]); (try simp only [List.set_cons_zero, List.set_cons_succ])
                      refine wpAnyH_take (i := 10) (v := .int .i64 (G.length : Int)) rfl (by kernel_rfl) (by kernel_rfl) (by kernel_rfl) (fun _ _ _ h => h) (Or.inl ⟨by kernel_rfl, fun w' h => by go_simp⟩) trivial ?_
                      (try simp only [List.getElem_toArray]); (try simp only [List.getElem_cons_succ]); (try simp only [List.getElem_cons_zero]); (try simp only [Act.put]); (try simp only [List.setIfInBounds_toArray]); (try simp only [List.set_cons_zero, List.set_cons_succ])
                      refine wpAnyH_take (i := 11) (v := .int .i64 (X : Int)) rfl (by kernel_rfl) (by kernel_rfl) (by kernel_rfl) (fun _ _ _ h => h) (Or.inl ⟨by kernel_rfl, fun w' h => by go_simp⟩) trivial ?_
                      (try simp only [List.getElem_toArray]); (try simp only [List.getElem_cons_succ]); (try simp only [List.getElem_cons_zero]); (try simp only [Act.put]); (try simp only [List.setIfInBounds_toArray]); (try simp only [List.set_cons_zero, List.set_cons_succ])
                      refine wpAnyH_take (i := 12) (v := .pointer (some ⟨g, X, none⟩)) rfl (by kernel_rfl) (by kernel_rfl) (by kernel_rfl) (fun _ _ _ h => h) (Or.inl ⟨by kernel_rfl, fun w' h => by go_simp⟩) trivial ?_
                      (try simp only [List.getElem_toArray]); (try simp only [List.getElem_cons_succ]); (try simp only [List.getElem_cons_zero]); (try simp only [Act.put]); (try simp only [List.setIfInBounds_toArray]); (try simp only [List.set_cons_zero, List.set_cons_succ])
                      refine wpAnyH_take (i := 14) (v := .int .i64 (t : Int)) rfl (by kernel_rfl) (by kernel_rfl) (by kernel_rfl) (fun _ _ _ h => h) (Or.inl ⟨by kernel_rfl, fun w' h => by go_simp⟩) trivial ?_
                      (try simp only [List.getElem_toArray]); (try simp only [List.getElem_cons_succ]); (try simp only [List.getElem_cons_zero]); (try simp only [Act.put]); (try simp only [List.setIfInBounds_toArray]); (try simp only [List.set_cons_zero, List.set_cons_succ])
                      refine wpAnyH_take (i := 15) (v := .int .i64 (b : Int)) rfl (by kernel_rfl) (by kernel_rfl) (by kernel_rfl) (fun _ _ _ h => h) (Or.inl ⟨by kernel_rfl, fun w' h => by go_simp⟩) trivial ?_
                      (try simp only [List.getElem_toArray]); (try simp only [List.getElem_cons_succ]); (try simp only [List.getElem_cons_zero]); (try simp only [Act.put]); (try simp only [List.setIfInBounds_toArray]); (try simp only [List.set_cons_zero, List.set_cons_succ])
                      refine wpAnyH_take (i := 16) (v := .int .i64 (S2 : Int)) rfl (by kernel_rfl) (by kernel_rfl) (by kernel_rfl) (fun _ _ _ h => h) (Or.inl ⟨by kernel_rfl, fun w' h => by go_simp⟩) trivial ?_
                      (try simp only [List.getElem_toArray]); (try simp only [List.getElem_cons_succ]); (try simp only [List.getElem_cons_zero]); (try simp only [Act.put]); (try simp only [List.setIfInBounds_toArray]); (try simp only [List.set_cons_zero, List.set_cons_succ])
                      refine wpAnyH_take (i := 17) (v := .int .i64 (G.length : Int)) rfl (by kernel_rfl) (by kernel_rfl) (by kernel_rfl) (fun _ _ _ h => h) (Or.inl ⟨by kernel_rfl, fun w' h => by go_simp⟩) trivial ?_
                      (try simp only [List.getElem_toArray]); (try simp only [List.getElem_cons_succ]); (try simp only [List.getElem_cons_zero]); (try simp only [Act.put]); (try simp only [List.setIfInBounds_toArray]); (try simp only [List.set_cons_zero, List.set_cons_succ])
                      refine wpAnyH_take (i := 18) (v := .int .i64 (Y : Int)) rfl (by kernel_rfl) (by kernel_rfl) (by kernel_rfl) (fun _ _ _ h => h) (Or.inl ⟨by kernel_rfl, fun w' h => by go_simp⟩) trivial ?_
                      (try simp only [List.getElem_toArray]); (try simp only [List.getElem_cons_succ]); (try simp only [List.getElem_cons_zero]); (try simp only [Act.put]); (try simp only [List.setIfInBounds_toArray]); (try simp only [List.set_cons_zero, List.set_cons_succ])
                      refine wpAnyH_ready (rs := [13, 19]) (by kernel_rfl) (by simp) (AllReadyH.cons rfl (fun K hK => ?_) (AllReadyH.cons rfl (fun K hK => ?_) AllReadyH.nil))
                      · as_aux_lemma =>
                          go_simp
                          refine hK.out _ _ trivial (fun _ => ?_)
                          clear hK K
                          (try simp only [List.getElem_toArray]); (try simp only [List.getElem_cons_succ]); (try simp only [List.getElem_cons_zero]); (try simp only [Act.put]); (try simp only [List.setIfInBounds_toArray]); (try simp only [List.set_cons_zero, List.set_cons_succ])
                          refine wpAnyH_ready (rs := [19]) (by kernel_rfl) (by simp) (AllReadyH.cons rfl (fun K hK => ?_) AllReadyH.nil)
                          go_simp
                          rw [← hxa]
                          clear hxa
                          refine hK.out _ _ trivial (fun _ => ?_)
                          clear hK K
                          (try simp only [List.getElem_toArray]); (try simp only [List.getElem_cons_succ]); (try simp only [List.getElem_cons_zero]); (try simp only [Act.put]); (try simp only [List.setIfInBounds_toArray]); (try simp only [List.set_cons_zero, List.set_cons_succ])
                          refine wpAnyH_ready (rs := [20]) (by kernel_rfl) (by simp) (AllReadyH.cons rfl (fun K hK => ?_) AllReadyH.nil)
                          refine step_append_run rfl _ _ 26 rfl _ _ rfl rfl hrun ?_
                          refine hK.out _ _ trivial (fun _ => ?_)
                          clear hK K
                          (try simp only [List.getElem_toArray]); (try simp only [List.getElem_cons_succ]); (try simp only [List.getElem_cons_zero]); (try simp only [Act.put]); (try simp only [List.setIfInBounds_toArray]); (try simp only [List.set_cons_zero, List.set_cons_succ])
                          refine wpAnyH_take (i := 21) (v := .pointer (some ⟨g, X, none⟩)) rfl (by kernel_rfl) (by kernel_rfl) (by kernel_rfl) (fun _ _ _ h => h) (Or.inl ⟨by kernel_rfl, fun w' h => by go_simp⟩) trivial ?_
                          (try simp only [List.getElem_toArray]); (try simp only [List.getElem_cons_succ]); (try simp only [List.getElem_cons_zero]); (try simp only [Act.put]); (try simp only [List.setIfInBounds_toArray]); (try simp only [List.set_cons_zero, List.set_cons_succ])
                          refine wpAnyH_ready (rs := [22]) (by kernel_rfl) (by simp) (AllReadyH.cons rfl (fun K hK => ?_) AllReadyH.nil)
                          go_simp
                          rw [← hW3]
                          refine hK.out _ _ trivial (fun _ => ?_)
                          clear hK K
                          (try simp only [List.getElem_toArray]); (try simp only [List.getElem_cons_succ]); (try simp only [List.getElem_cons_zero]); (try simp only [Act.put]); (try simp only [List.setIfInBounds_toArray]); (try simp only [List.set_cons_zero, List.set_cons_succ])
                          refine wpAnyH_done (by kernel_rfl) ?_ _
                          (try simp only [Act.put]); (try simp only [List.getElem_toArray]); (try simp only [List.getElem_cons_succ, List.getElem_cons_zero]); (try simp only [List.setIfInBounds_toArray]); (try simp only [List.set_cons_succ, List.set_cons_zero])
                          clear hrun hW3 hc9a hc8 hf8 hca hw3 hw4 hm1 hm2 hm3 hm4 hwX hwY hnz hnz2 hnz3
                          go_wp2
                          go_roundw
                          case rel => exact ⟨k + 1, _, _, hkl, by go_num, HB3.out, HT3.out⟩
                          case measure => simp only [intOf]; omega
                      · as_aux_lemma =>
                          go_simp
                          rw [← hxa]
                          clear hxa
                          refine hK.out _ _ trivial (fun _ => ?_)
                          clear hK K
                          (try simp only [List.getElem_toArray]); (try simp only [List.getElem_cons_succ]); (try simp only [List.getElem_cons_zero]); (try simp only [Act.put]); (try simp only [List.setIfInBounds_toArray]); (try simp only [List.set_cons_zero, List.set_cons_succ])
                          refine wpAnyH_ready (rs := [13]) (by kernel_rfl) (by simp) (AllReadyH.cons rfl (fun K hK => ?_) AllReadyH.nil)
                          go_simp
                          refine hK.out _ _ trivial (fun _ => ?_)
                          clear hK K
                          (try simp only [List.getElem_toArray]); (try simp only [List.getElem_cons_succ]); (try simp only [List.getElem_cons_zero]); (try simp only [Act.put]); (try simp only [List.setIfInBounds_toArray]); (try simp only [List.set_cons_zero, List.set_cons_succ])
                          refine wpAnyH_ready (rs := [20]) (by kernel_rfl) (by simp) (AllReadyH.cons rfl (fun K hK => ?_) AllReadyH.nil)
                          refine step_append_run rfl _ _ 26 rfl _ _ rfl rfl hrun ?_
                          refine hK.out _ _ trivial (fun _ => ?_)
                          clear hK K
                          (try simp only [List.getElem_toArray]); (try simp only [List.getElem_cons_succ]); (try simp only [List.getElem_cons_zero]); (try simp only [Act.put]); (try simp only [List.setIfInBounds_toArray]); (try simp only [List.set_cons_zero, List.set_cons_succ])
                          refine wpAnyH_take (i := 21) (v := .pointer (some ⟨g, X, none⟩)) rfl (by kernel_rfl) (by kernel_rfl) (by kernel_rfl) (fun _ _ _ h => h) (Or.inl ⟨by kernel_rfl, fun w' h => by go_simp⟩) trivial ?_
                          (try simp only [List.getElem_toArray]); (try simp only [List.getElem_cons_succ]); (try simp only [List.getElem_cons_zero]); (try simp only [Act.put]); (try simp only [List.setIfInBounds_toArray]); (try simp only [List.set_cons_zero, List.set_cons_succ])
                          refine wpAnyH_ready (rs := [22]) (by kernel_rfl) (by simp) (AllReadyH.cons rfl (fun K hK => ?_) AllReadyH.nil)
                          go_simp
                          rw [← hW3]
                          refine hK.out _ _ trivial (fun _ => ?_)
                          clear hK K
                          (try simp only [List.getElem_toArray]); (try simp only [List.getElem_cons_succ]); (try simp only [List.getElem_cons_zero]); (try simp only [Act.put]); (try simp only [List.setIfInBounds_toArray]); (try simp only [List.set_cons_zero, List.set_cons_succ])
                          refine wpAnyH_done (by kernel_rfl) ?_ _
                          (try simp only [Act.put]); (try simp only [List.getElem_toArray]); (try simp only [List.getElem_cons_succ, List.getElem_cons_zero]); (try simp only [List.setIfInBounds_toArray]); (try simp only [List.set_cons_succ, List.set_cons_zero])
                          clear hrun hW3 hc9a hc8 hf8 hca hw3 hw4 hm1 hm2 hm3 hm4 hwX hwY hnz hnz2 hnz3
                          go_wp2
                          go_roundw
                          case rel => exact ⟨k + 1, _, _, hkl, by go_num, HB3.out, HT3.out⟩
                          case measure => simp only [intOf]; omega
                  · as_aux_lemma =>
                      have HT3 := hid (HT2.out.skip HEs.out HTt.out (fun x hx e => hin ⟨by omega, by omega⟩))
                      by_cases hneg : 0 ≤ t
                      · have hge : ¬ t < G.length := fun h => hin ⟨hneg, h⟩
                        have hd0 : decide (0 ≤ t) = true := by simpa using hneg
                        have hd1 : decide (t < G.length) = false := by simpa using hge
                        clear hin
                        go_wp2
                        go_roundw
                        case rel => exact ⟨k + 1, _, _, hkl, by go_num, HB2.out, HT3.out⟩
                        case measure => simp only [intOf]; omega
                      · have hd0 : decide (0 ≤ t) = false := by simpa using hneg
                        clear hin
                        go_wp2
                        go_roundw
                        case rel => exact ⟨k + 1, _, _, hkl, by go_num, HB2.out, HT3.out⟩
                        case measure => simp only [intOf]; omega
              · as_aux_lemma =>
                  have hke : k = es.length := by omega
                  have HT3 : Hid (Rn14 G b (i + 1) 0 rws) := by
                    have h9 := HT2.out
                    rw [hke] at h9
                    exact h9.row HEs.out
                  clear hke
                  go_wp2
                  go_roundw
                  case rel => exact ⟨i + 1, _, _, hlt, by go_num, HB2.out, HT3.out⟩
                  case measure => simp only [intOf]; omega
        · as_aux_lemma =>
          have hie : i = G.length := by omega
          have HT3 : Hid (Rn14 G b G.length 0 rws) := by have h9 := HT.out; rw [hie] at h9; exact h9
          clear hie
          have HRb := hid (HB.out.rs (by omega) (fun r hr => by
            obtain ⟨x, hx⟩ := List.getElem?_of_mem hr
            have h1 := (HT3.out x r hx).1
            have h2 := sum_le14 G G.length
            have h3 := HSum.out
            unfold cnt14 at h1
            omega))
          have HRg := hid (HRs.out.kp (Kp.of_below HB.out.bel))
          have HLr := hid HB.out.rlen
          have HEq := hid (rn_parts HT3.out HB.out.rlen hbl)
          have HHm : Hid (∀ i k, i < G.length → k < G.length → (decide (0 ≤ homeI ((partsG rws).map natL) ((mvN G.length b i : Nat) : Int)) && (homeI ((partsG rws).map natL) ((mvN G.length b i : Nat) : Int) == homeI ((partsG rws).map natL) ((mvN G.length b k : Nat) : Int))) = (decide (0 ≤ homeI ((partsG G).map natL) (i : Int)) && (homeI ((partsG G).map natL) (i : Int) == homeI ((partsG G).map natL) (k : Int)))) := fun i k hi hk => rn_home HT3.out HLr.out hbl hi hk
          have BW := hid (below_step B1.out HB.out.bel)
          clear HB HT HT3 HRs hmk hmk2 hwb
          go_wp2_with fail
          refine (parts_any14 HRg.out (by omega)).mono ?_
          rintro e w3 ⟨va, _, _, rfl, ha⟩
          have HA := hid (ha.rs (by omega))
          have C3 := hid ha.2.2.2.1
          clear ha
          go_wp2_with fail
          refine (parts_any14 (HRb.out.kp (Kp.of_below C3.out)) (by rw [HLr.out]; omega)).mono ?_
          rintro e w4 ⟨vb, _, _, rfl, hb⟩
          have HBb := hid (hb.rs (by rw [HLr.out]; omega))
          have C4 := hid hb.2.2.2.1
          clear hb HRb HRg
          obtain ⟨ea, ca, hva, _, _, _⟩ := Row.flat HA.out
          obtain ⟨eb, cb, hvb, _, _, _⟩ := Row.flat HBb.out
          rw [List.length_map] at hva hvb
          rw [HEq.out] at hvb
          obtain ⟨N, hN⟩ : ∃ N, N = (partsG G).length := ⟨_, rfl⟩
          rw [← hN] at hva hvb
          subst hva hvb
          have hNN : ((N : Int) != (N : Int)) = false := by simp
          have HA4 := hid (HA.out.kp (Kp.of_below C4.out))
          have B4 := hid (below_step BW.out (below_step C3.out C4.out))
          obtain ⟨A, hA⟩ : ∃ A, A = homeI ((partsG G).map natL) := ⟨_, rfl⟩
          obtain ⟨D, hD⟩ : ∃ D, D = homeI ((partsG rws).map natL) := ⟨_, rfl⟩
          rw [← hA, ← hD] at HHm
          have HHa : Hid (∀ (x : Int) (W' : World), Below w4.heap.size w4 W' → Calls Try.prog 14 #[.slice ea N ca, .int .i64 x] W' fun e w' => e = .returned (.int .i64 (A x)) ∧ w' = W') := fun x W' hb => by
            rw [hA]
            exact home14_any _ _ x W' (HA4.out.kp (Kp.of_below hb))
          have HHb : Hid (∀ (x : Int) (W' : World), Below w4.heap.size w4 W' → Calls Try.prog 14 #[.slice eb N cb, .int .i64 x] W' fun e w' => e = .returned (.int .i64 (D x)) ∧ w' = W') := fun x W' hb => by
            rw [hD]
            exact home14_any _ _ x W' (HBb.out.kp (Kp.of_below hb))
          clear hN hA hD HA HA4 HBb C3 C4 BW HEq HLr
          go_wp2
          go_loopw [13, 14, 15, 16] (fun i _ _ _ wr => ∃ k : Nat, k ≤ G.length ∧ i = .int .i64 k ∧ Below w4.heap.size w4 wr) (fun i _ _ _ _ => G.length - (intOf i).toNat)
          case atStart => exact ⟨0, Nat.zero_le _, rfl, Below.refl _ _⟩
          case round =>
            obtain ⟨i, hi, rfl, hbw⟩ := hrel
            have HBw0 := hid hbw
            clear hbw
            by_cases hlt : i < G.length
            · as_aux_lemma =>
                have hwi : IntKind.i64.wrap ((i : Int) + 1) = ((i + 1 : Nat) : Int) := by rw [IntWalk.i64_in _ ⟨by omega, by omega⟩]; omega
                go_wp2
                go_loopw [14, 15, 16] (fun j _ _ wr => ∃ k : Nat, k ≤ G.length ∧ j = .int .i64 k ∧ Below w4.heap.size w4 wr) (fun j _ _ _ => G.length - (intOf j).toNat)
                case atStart => exact ⟨0, Nat.zero_le _, rfl, HBw0.out⟩
                case round =>
                  obtain ⟨k, hk, rfl, hbw⟩ := hrel
                  have HBw := hid hbw
                  clear hbw HBw0
                  by_cases hkl : k < G.length
                  · as_aux_lemma =>
                      have hdk : decide ((k : Int) < (G.length : Int)) = true := by simpa using hkl
                      have hw1 : IntKind.i64.wrap ((k : Int) + 1) = ((k + 1 : Nat) : Int) := by rw [IntWalk.i64_in _ ⟨by omega, by omega⟩]; omega
                      have he := HHm.out i k hlt hkl
                      have hAi := fun W' hb => HHa.out (i : Int) W' hb
                      have hAk := fun W' hb => HHa.out (k : Int) W' hb
                      have hBi := fun W' hb => HHb.out ((mvN G.length b i : Nat) : Int) W' hb
                      have hBk := fun W' hb => HHb.out ((mvN G.length b k : Nat) : Int) W' hb
                      obtain ⟨X, hX⟩ : ∃ X, X = mvN G.length b i := ⟨_, rfl⟩
                      obtain ⟨Y, hY⟩ : ∃ Y, Y = mvN G.length b k := ⟨_, rfl⟩
                      obtain ⟨S1, hS1⟩ : ∃ S, S = i + b := ⟨_, rfl⟩
                      obtain ⟨S2, hS2⟩ : ∃ S, S = k + b := ⟨_, rfl⟩
                      have hw3 : IntKind.i64.wrap ((i : Int) + (b : Int)) = (S1 : Int) := by rw [hS1, IntWalk.i64_in _ ⟨by omega, by omega⟩]; omega
                      have hw4 : IntKind.i64.wrap ((k : Int) + (b : Int)) = (S2 : Int) := by rw [hS2, IntWalk.i64_in _ ⟨by omega, by omega⟩]; omega
                      have hm1 : (S1 : Int).tmod (G.length : Int) = (X : Int) := by rw [hS1, hX]; rfl
                      have hm2 : (S2 : Int).tmod (G.length : Int) = (Y : Int) := by rw [hS2, hY]; rfl
                      have hm3 : S1 % G.length = X := by rw [hS1, hX]; rfl
                      have hm4 : S2 % G.length = Y := by rw [hS2, hY]; rfl
                      have hxl : X < G.length := by rw [hX]; exact mvN_lt hpos
                      have hyl : Y < G.length := by rw [hY]; exact mvN_lt hpos
                      have hwX : IntKind.i64.wrap (X : Int) = (X : Int) := IntWalk.i64_in _ ⟨by omega, by omega⟩
                      have hwY : IntKind.i64.wrap (Y : Int) = (Y : Int) := IntWalk.i64_in _ ⟨by omega, by omega⟩
                      rw [← hX, ← hY] at he
                      rw [← hX] at hBi
                      rw [← hY] at hBk
                      obtain ⟨AX, hAX⟩ : ∃ x, x = A (i : Int) := ⟨_, rfl⟩
                      obtain ⟨AY, hAY⟩ : ∃ x, x = A (k : Int) := ⟨_, rfl⟩
                      obtain ⟨BX, hBX⟩ : ∃ x, x = D (X : Int) := ⟨_, rfl⟩
                      obtain ⟨BY, hBY⟩ : ∃ x, x = D (Y : Int) := ⟨_, rfl⟩
                      rw [← hAX, ← hAY, ← hBX, ← hBY] at he
                      rw [← hAX] at hAi
                      rw [← hAY] at hAk
                      rw [← hBX] at hBi
                      rw [← hBY] at hBk
                      have HAi := hid hAi
                      have HAk := hid hAk
                      have HBi := hid hBi
                      have HBk := hid hBk
                      have HE := hid he
                      clear he hAi hAk hBi hBk hX hY hS1 hS2 hAX hAY hBX hBY HHm HHa HHb
                      go_upto_region 30 with fail
                      obtain ⟨C1, hC1⟩ : ∃ c, c = (decide (0 ≤ AX) && (AX == AY)) := ⟨_, rfl⟩
                      have HC1 := hid hC1
                      have HEB : Hid (C1 = (decide (0 ≤ BX) && (BX == BY))) := by show _ = _; rw [hC1, ← HE.out]
                      clear hC1 HE
                      go_cut [15] from 108 to 120 (fun x wx => x = .bool C1 ∧ wx = wr)
                      case first =>
                        clear HEB HBi HBk
                        by_cases ha0 : 0 ≤ AX
                        · have hda : decide (0 ≤ AX) = true := by simpa using ha0
                          have hae : (AX == AY) = C1 := by rw [HC1.out, hda]; rfl
                          clear HC1 ha0
                          go_wp2_with fail
                          refine (HAi.out _ HBw.out).mono ?_
                          rintro e w9 ⟨rfl, hw9⟩
                          have hw8 := hw9.symm
                          subst hw8
                          clear hw9
                          go_wp2_with fail
                          refine (HAi.out _ HBw.out).mono ?_
                          rintro e w9 ⟨rfl, hw9⟩
                          have hw8 := hw9.symm
                          subst hw8
                          clear hw9
                          go_wp2_with fail
                          refine (HAk.out _ HBw.out).mono ?_
                          rintro e w9 ⟨rfl, hw9⟩
                          have hw8 := hw9.symm
                          subst hw8
                          clear hw9
                          go_wp2
                          go_meet
                          case rel => exact ⟨rfl, by trivial⟩
                        · have hda : decide (0 ≤ AX) = false := by simpa using ha0
                          obtain rfl : C1 = false := by rw [HC1.out, hda]; rfl
                          clear HC1 ha0
                          go_wp2_with fail
                          refine (HAi.out _ HBw.out).mono ?_
                          rintro e w9 ⟨rfl, hw9⟩
                          have hw8 := hw9.symm
                          subst hw8
                          clear hw9
                          go_wp2
                          go_meet
                          case rel => exact ⟨rfl, by trivial⟩
                      obtain ⟨rfl, hwx9⟩ := hcut
                      have hwx8 := hwx9.symm
                      subst hwx8
                      clear hwx9 HAi HAk HC1
                      go_upto_region 31 with fail
                      go_cut [16] from 121 to 145 (fun y wx => y = .bool C1 ∧ Below w4.heap.size w4 wx)
                      case first =>
                        have HM : ∀ (W9 : World), Below wr.heap.size wr W9 → Below w4.heap.size w4 W9 := fun W9 h => below_step HBw.out h
                        have HMm := hid HM
                        clear HM
                        by_cases hb0 : 0 ≤ BX
                        · have hdb : decide (0 ≤ BX) = true := by simpa using hb0
                          have hde : (BX == BY) = C1 := by rw [HEB.out, hdb]; rfl
                          clear HEB hb0
                          refine region_below (by kernel_rfl) (by kernel_rfl) ?_
                          (go_big_quiet_want; go_big_quiet_op; go_big_quiet_on)
                          (go_big_quiet_want; go_big_quiet_op; go_big_quiet_on)
                          (go_big_quiet_want; go_big_quiet_op; go_big_quiet_on)
                          go_big_quiet_want
                          refine ⟨.int .i64 (S1 : Int), fun w' hw' => ?_, ?_⟩
                          · unfold Oper.quietAt; go_simp
                          simp only [Act.put, List.setIfInBounds_toArray, List.set_cons_zero, List.set_cons_succ]
                          go_big_quiet_on
                          (go_big_quiet_want; go_big_quiet_op; go_big_quiet_on)
                          go_big_quiet_want
                          refine ⟨.int .i64 (X : Int), fun w' hw' => ?_, ?_⟩
                          · unfold Oper.quietAt; go_simp
                          simp only [Act.put, List.setIfInBounds_toArray, List.set_cons_zero, List.set_cons_succ]
                          go_big_quiet_on
                          go_big_quiet_want
                          refine ⟨.int .i64 BX, fun w' hw' => ?_, ?_⟩
                          · unfold Oper.quietAt; go_simp; exact (HBi.out w' (below_step HBw.out hw')).mono (fun e w2 ⟨he, hb⟩ => ⟨he, by rw [hb]; exact hw'⟩)
                          simp only [Act.put, List.setIfInBounds_toArray, List.set_cons_zero, List.set_cons_succ]
                          go_big_quiet_on
                          go_big_quiet_want
                          refine ⟨.bool true, fun w' hw' => ?_, ?_⟩
                          · unfold Oper.quietAt; go_simp
                          simp only [Act.put, List.setIfInBounds_toArray, List.set_cons_zero, List.set_cons_succ]
                          go_big_quiet_on
                          (go_big_quiet_want; go_big_quiet_op; go_big_quiet_on)
                          (go_big_quiet_want; go_big_quiet_op; go_big_quiet_on)
                          (go_big_quiet_want; go_big_quiet_op; go_big_quiet_on)
                          (go_big_quiet_want; go_big_quiet_op; go_big_quiet_on)
                          go_big_quiet_want
                          refine ⟨.int .i64 (S1 : Int), fun w' hw' => ?_, ?_⟩
                          · unfold Oper.quietAt; go_simp
                          simp only [Act.put, List.setIfInBounds_toArray, List.set_cons_zero, List.set_cons_succ]
                          go_big_quiet_on
                          (go_big_quiet_want; go_big_quiet_op; go_big_quiet_on)
                          go_big_quiet_want
                          refine ⟨.int .i64 (X : Int), fun w' hw' => ?_, ?_⟩
                          · unfold Oper.quietAt; go_simp
                          simp only [Act.put, List.setIfInBounds_toArray, List.set_cons_zero, List.set_cons_succ]
                          go_big_quiet_on
                          go_big_quiet_want
                          refine ⟨.int .i64 BX, fun w' hw' => ?_, ?_⟩
                          · unfold Oper.quietAt; go_simp; exact (HBi.out w' (below_step HBw.out hw')).mono (fun e w2 ⟨he, hb⟩ => ⟨he, by rw [hb]; exact hw'⟩)
                          simp only [Act.put, List.setIfInBounds_toArray, List.set_cons_zero, List.set_cons_succ]
                          go_big_quiet_on
                          (go_big_quiet_want; go_big_quiet_op; go_big_quiet_on)
                          (go_big_quiet_want; go_big_quiet_op; go_big_quiet_on)
                          (go_big_quiet_want; go_big_quiet_op; go_big_quiet_on)
                          go_big_quiet_want
                          refine ⟨.int .i64 (S2 : Int), fun w' hw' => ?_, ?_⟩
                          · unfold Oper.quietAt; go_simp
                          simp only [Act.put, List.setIfInBounds_toArray, List.set_cons_zero, List.set_cons_succ]
                          go_big_quiet_on
                          (go_big_quiet_want; go_big_quiet_op; go_big_quiet_on)
                          go_big_quiet_want
                          refine ⟨.int .i64 (Y : Int), fun w' hw' => ?_, ?_⟩
                          · unfold Oper.quietAt; go_simp
                          simp only [Act.put, List.setIfInBounds_toArray, List.set_cons_zero, List.set_cons_succ]
                          go_big_quiet_on
                          go_big_quiet_want
                          refine ⟨.int .i64 BY, fun w' hw' => ?_, ?_⟩
                          · unfold Oper.quietAt; go_simp; exact (HBk.out w' (below_step HBw.out hw')).mono (fun e w2 ⟨he, hb⟩ => ⟨he, by rw [hb]; exact hw'⟩)
                          simp only [Act.put, List.setIfInBounds_toArray, List.set_cons_zero, List.set_cons_succ]
                          go_big_quiet_on
                          go_big_quiet_want
                          refine ⟨.bool C1, fun w' hw' => ?_, ?_⟩
                          · unfold Oper.quietAt; go_simp
                          simp only [Act.put, List.setIfInBounds_toArray, List.set_cons_zero, List.set_cons_succ]
                          go_big_quiet_on
                          go_big_quiet_want
                          refine ⟨.bool C1, fun w' hw' => ?_, ?_⟩
                          · unfold Oper.quietAt; go_simp
                          simp only [Act.put, List.setIfInBounds_toArray, List.set_cons_zero, List.set_cons_succ]
                          go_big_quiet_on
                          go_big_quiet_want
                          refine ⟨.bool C1, fun w' hw' => ?_, ?_⟩
                          · unfold Oper.quietAt; go_simp
                          simp only [Act.put, List.setIfInBounds_toArray, List.set_cons_zero, List.set_cons_succ]
                          go_big_quiet_on
                          refine wpQuiet_nil ?_
                          intro w10 hb10
                          have HB10 := hid (HMm.out _ hb10)
                          clear hb10
                          go_wp2
                          go_meet
                          case rel => exact ⟨rfl, HB10.out⟩
                        · have hdb : decide (0 ≤ BX) = false := by simpa using hb0
                          obtain rfl : C1 = false := by rw [HEB.out, hdb]; rfl
                          clear HEB hb0
                          refine region_below (by kernel_rfl) (by kernel_rfl) ?_
                          (go_big_quiet_want; go_big_quiet_op; go_big_quiet_on)
                          (go_big_quiet_want; go_big_quiet_op; go_big_quiet_on)
                          (go_big_quiet_want; go_big_quiet_op; go_big_quiet_on)
                          go_big_quiet_want
                          refine ⟨.int .i64 (S1 : Int), fun w' hw' => ?_, ?_⟩
                          · unfold Oper.quietAt; go_simp
                          simp only [Act.put, List.setIfInBounds_toArray, List.set_cons_zero, List.set_cons_succ]
                          go_big_quiet_on
                          (go_big_quiet_want; go_big_quiet_op; go_big_quiet_on)
                          go_big_quiet_want
                          refine ⟨.int .i64 (X : Int), fun w' hw' => ?_, ?_⟩
                          · unfold Oper.quietAt; go_simp
                          simp only [Act.put, List.setIfInBounds_toArray, List.set_cons_zero, List.set_cons_succ]
                          go_big_quiet_on
                          go_big_quiet_want
                          refine ⟨.int .i64 BX, fun w' hw' => ?_, ?_⟩
                          · unfold Oper.quietAt; go_simp; exact (HBi.out w' (below_step HBw.out hw')).mono (fun e w2 ⟨he, hb⟩ => ⟨he, by rw [hb]; exact hw'⟩)
                          simp only [Act.put, List.setIfInBounds_toArray, List.set_cons_zero, List.set_cons_succ]
                          go_big_quiet_on
                          go_big_quiet_want
                          refine ⟨.bool false, fun w' hw' => ?_, ?_⟩
                          · unfold Oper.quietAt; go_simp
                          simp only [Act.put, List.setIfInBounds_toArray, List.set_cons_zero, List.set_cons_succ]
                          go_big_quiet_on
                          (go_big_quiet_want; go_big_quiet_op; go_big_quiet_on)
                          go_big_quiet_skip
                          go_big_quiet_skip
                          go_big_quiet_skip
                          go_big_quiet_skip
                          go_big_quiet_skip
                          go_big_quiet_skip
                          go_big_quiet_skip
                          go_big_quiet_skip
                          go_big_quiet_skip
                          go_big_quiet_skip
                          go_big_quiet_skip
                          go_big_quiet_skip
                          go_big_quiet_skip
                          go_big_quiet_skip
                          go_big_quiet_skip
                          go_big_quiet_want
                          refine ⟨.bool false, fun w' hw' => ?_, ?_⟩
                          · unfold Oper.quietAt; go_simp
                          simp only [Act.put, List.setIfInBounds_toArray, List.set_cons_zero, List.set_cons_succ]
                          go_big_quiet_on
                          go_big_quiet_want
                          refine ⟨.bool false, fun w' hw' => ?_, ?_⟩
                          · unfold Oper.quietAt; go_simp
                          simp only [Act.put, List.setIfInBounds_toArray, List.set_cons_zero, List.set_cons_succ]
                          go_big_quiet_on
                          refine wpQuiet_nil ?_
                          intro w10 hb10
                          have HB10 := hid (HMm.out _ hb10)
                          clear hb10
                          go_wp2
                          go_meet
                          case rel => exact ⟨rfl, HB10.out⟩
                      obtain ⟨rfl, hbw9⟩ := hcut
                      have HBw9 := hid hbw9
                      clear hbw9 HBi HBk HEB hw3 hw4 hm1 hm2 hm3 hm4 hwX hwY
                      have hcc : (C1 != C1) = false := by simp
                      go_wp2
                      go_roundw
                      case rel => exact ⟨k + 1, hkl, by go_num, HBw9.out⟩
                      case measure => simp only [intOf]; omega
                  · as_aux_lemma =>
                      have hdk : decide ((k : Int) < (G.length : Int)) = false := by simpa using hkl
                      have B9 := hid (below_step B4.out HBw.out)
                      by_cases h40 : 40 < G.length
                      · have hd40 : decide (40 < G.length) = true := by simpa using h40
                        by_cases h3 : 3 < i
                        · have hd3 : decide (3 < i) = true := by simpa using h3
                          go_wp2
                          go_ret
                          exact ⟨rfl, B9.out⟩
                        · have hd3 : decide (3 < i) = false := by simpa using h3
                          go_wp2
                          go_roundw
                          case rel => exact ⟨i + 1, hlt, by go_num, HBw.out⟩
                          case measure => simp only [intOf]; omega
                      · have hd40 : decide (40 < G.length) = false := by simpa using h40
                        go_wp2
                        go_roundw
                        case rel => exact ⟨i + 1, hlt, by go_num, HBw.out⟩
                        case measure => simp only [intOf]; omega
            · as_aux_lemma =>
                have hdi : decide ((i : Int) < (G.length : Int)) = false := by simpa using hlt
                have B9 := hid (below_step B4.out HBw0.out)
                go_wp2
                go_ret
                exact ⟨rfl, B9.out⟩

end Go.Proofs.Ytmokokhhheonoaa
