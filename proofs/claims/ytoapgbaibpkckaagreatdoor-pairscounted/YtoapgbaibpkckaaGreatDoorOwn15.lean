/- Texts of the proof, one behind the other. -/
import Derived.Test.YtoapgbaibpkckaaGreatDoorOwn14
import Derived.Test.YtoapgbaibpkckaaGreatDoorOwn5
import Derived.Test.YtoapgbaibpkckaaGreatDoorOwn4
/- Of of package pairs walked. -/
namespace Go.Proofs.YtoapgbaibpkckaaGreatDoor
open Go.RowKit Go.Maps Go.BigFrame

theorem step_append13 {P : Program} {ops : Array Oper} {o : Oper} {a : Act} {w w' : World} {v' : Value} {K : Act → World → Prop} {E : Prop} {Q : Exit → Act → World → Prop} (hgd : Region.wanted o (yielded ops a.tmps) = true) (s x : Operand) (t : TypeId)
    (ho : o.op = .call { callee := .builtin .append, args := #[s, x], argTypes := #[t, t] }) (v u : Value) (hs : a.eval s = v) (hx : a.eval x = u)
    (hr : (Builtin.append_ #[t, t] o.type #[v, u]).run P w = .ok v' w') (hK : K (a.put o.dst v') w') :
    if Region.wanted o (yielded ops a.tmps) = true then Oper.wp P o a w K Q else E := by
  rw [if_pos hgd]
  unfold Oper.wp execOp
  simp only [ho, resolve, invoke, builtin, Sem.run_bind, Sem.run_pure, Result.andThen_ok, List.map_toArray, List.map_cons, List.map_nil, hs, hx, hr]
  exact hK

theorem Pa13.mono {w0 w2 w : World} {v : Value} {vs : List (Value × Value)} {l : List Rl} (h : Pa13 w2 w v vs l) (hb : Below w0.heap.size w0 w2) : Pa13 w0 w v vs l := by
  refine ⟨below_step hb h.bel, ⟨h.row.1, ?_⟩, h.len, ⟨fun i v xs hi => (h.own.own i v xs hi).mono hb.size, h.own.dis⟩⟩
  rcases h.row.2 with h1 | ⟨g, cap, cur, rfl, hg, r⟩
  · exact .inl h1
  · exact .inr ⟨g, cap, cur, rfl, Nat.le_trans hb.size hg, r⟩

theorem code_small {sig : List Sy} {t : List Int} (ha : ArOk sig) (h : rowE sig t = 0) : ∀ c ∈ t, c ≤ (sig.length : Int) := fun c hc => by
  have h1 := first_codes t 1 0 (by rw [row_first.1 h]; simp) c hc
  cases hd : codeD sig c with
  | none => exact absurd hd h1
  | some d => rcases codeD_is ha hd with ⟨h2, _⟩ | ⟨h2, h3, _⟩ <;> omega

theorem part_here {sig : List Sy} {t : List Int} (ht : termE sig t = 0) {k : Nat} (hk : k < t.length) : ∃ q, t = t.take k ++ ((t.drop k).take (fstN sig (t.drop k)) ++ q) ∧ rowE sig ((t.drop k).take (fstN sig (t.drop k))) = 0 := by
  obtain ⟨ha, _, k', m, e1, _, h1, _, h2, _, h3⟩ := placeE_ok (place_in ht hk)
  obtain rfl : k = k' := by omega
  have hl : ((t.drop k).take m).length = m := by rw [List.length_take, List.length_drop]; omega
  have h4 := first_right h3 ((t.drop k).drop m)
  rw [List.take_append_drop, hl] at h4
  have hf : fstN sig (t.drop k) = m := by unfold fstN; rw [h4]; simp
  rw [hf]
  exact ⟨(t.drop k).drop m, by rw [List.take_append_drop, List.take_append_drop], h3⟩

set_option maxRecDepth 100000 in
set_option maxHeartbeats 3200000 in
theorem of13_any (sv rv : Value) (sig : List Sy) (rs : List Rl) (w : World) (hs : Sg w sv sig) (hr : RU w rv rs) (hT : Tabs w) :
    Calls Tryz.prog 12 #[.agg #[sv, rv]] w fun e w' => ∃ v vs, e = .returned (.tuple #[v, .int .i64 (ofE13 sig rs)]) ∧ Pa13 w w' v vs (ofL13 sig rs) := by
  obtain ⟨so, sc, rfl, hso, hsc, _⟩ := Row.flat hs
  obtain ⟨ro, rc, rfl, hro, hrc, _⟩ := Row.flat hr
  unfold maxLen at hsc hrc
  have HS := hid hs
  have HR := hid hr
  have HT := hid hT
  clear hs hr hT
  obtain ⟨w0, hw0⟩ : ∃ X, X = w.alloc (.cells #[.slice so sig.length sc, .slice ro rs.length rc] 32) := ⟨_, rfl⟩
  have C0 : Hid (Below w.heap.size w w0) := by rw [hw0]; exact below_alloc _
  have HC : Hid (∀ W, Below w0.heap.size w0 W → W.cell? ⟨w.heap.size, 0, none⟩ = some (.slice so sig.length sc) ∧ W.cell? ⟨w.heap.size, 1, none⟩ = some (.slice ro rs.length rc)) := fun W hW => by
    have hk := Kp.of_below hW
    rw [hw0] at hk
    exact ⟨hk.cell _ _ (cell_new rfl), hk.cell _ _ (cell_new rfl)⟩
  have HCk := hid (sysCheck_any _ _ sig rs w0 (HS.out.kp (Kp.of_below C0.out)) (HR.out.kp (Kp.of_below C0.out)) (HT.out.below C0.out))
  obtain ⟨x0, x1⟩ := HC.out w0 (Below.refl _ _)
  obtain ⟨E, hE⟩ : ∃ E, E = (sysE sig rs).1 := ⟨_, rfl⟩
  rw [← hE] at HCk
  have HE := hid hE
  clear hE
  go_enter Tryz.func12, Tryz.ntmps12
  go_upto_region 1 with fail
  rw [← hw0]
  clear hw0
  go_wp2_with fail
  refine HCk.out.mono ?_
  rintro e w1 ⟨rfl, hb1⟩
  have D1 := hid hb1
  have B1 := hid (below_step C0.out hb1)
  clear hb1 x0 x1
  obtain ⟨x0, x1⟩ := HC.out w1 D1.out
  by_cases h0 : E = 0
  · have hB : sysB sig rs = true := by unfold sysB; rw [decide_eq_true_eq, ← HE.out, h0]
    obtain ⟨D, hD⟩ : ∃ D, D = definedL sig rs := ⟨_, rfl⟩
    have HDf := hid (definedBy_any _ _ sig rs w1 (HS.out.kp (Kp.of_below B1.out)) (HR.out.kp (Kp.of_below B1.out)) (HT.out.below B1.out))
    have hdn := defined_few hB
    have hdu := defined_up sig rs
    have hofE : ofE13 sig rs = if 256 < (pairsL sig D rs).length then 2 else 0 := by unfold ofE13; rw [← HE.out, if_pos h0, hD]
    have hofL : ofE13 sig rs = 0 → ofL13 sig rs = pairsL sig D rs := fun h => by unfold ofL13; rw [if_pos h, hD]
    have hofN : ofE13 sig rs ≠ 0 → ofL13 sig rs = [] := fun h => by unfold ofL13; rw [if_neg h]
    rw [← hD] at HDf hdn hdu
    have HOE := hid hofE
    have HOL := hid hofL
    have HON := hid hofN
    have HRu : Hid (∀ r ∈ rs, ruleE sig r = 0) := (sys_right hB).2
    have hap := (ahead_parts (sys_right hB).1)
    have ha := sigE_ok hap.1
    have hsl := hap.2.1
    have HA := hid ha
    have HUp := hid hdu
    subst h0
    clear hofE hofL hofN hap hB ha hdu hD
    go_wp2_with fail
    refine HDf.out.mono ?_
    rintro e w2 ⟨bd, dv, rfl, hcl, hdv, hjd, hb2⟩
    have D2 := hid (below_step D1.out hb2)
    have B2 := hid (below_step B1.out hb2)
    have HI := hid fun (W : World) (c : Int) (hW : Below w2.heap.size w2 W) => isDefined_any c bd dv D W ((Kp.of_below hW).cell _ _ hcl) (hdv.kp (Kp.of_below hW)) HUp.out hdn
    clear hb2 hcl hdv hjd x0 x1
    obtain ⟨x0, x1⟩ := HC.out w2 D2.out
    go_wp2
    go_loopw [7, 26] (fun lv iv wr => ∃ (k : Nat) (vs : List (Value × Value)) (L : List Rl), iv = .int .i64 k ∧ k ≤ rs.length ∧ L = pairsL sig D (rs.take k) ∧ Pa13 w2 wr lv vs L ∧ L.length ≤ 256) (fun _ iv _ => rs.length - (intOf iv).toNat)
    case atStart => exact ⟨0, [], [], rfl, Nat.zero_le _, rfl, Pa13.nil (Below.refl _ _), by simp⟩
    case round =>
      obtain ⟨k, vs, L, rfl, hk, hL, hpa, hle⟩ := hrel
      have HL := hid hL
      have HP := hid hpa
      have CB := hid (below_step B2.out hpa.bel)
      clear hL hpa x0 x1
      by_cases hlt : k < rs.length
      · obtain ⟨g, off, l, r, a1, c1, a2, c2, rfl, hm, hc0, hc1, hi1, hi2, hl1, hl2⟩ := HR.out.at hlt
        have hc0 := (Kp.of_below CB.out).cell _ _ hc0
        have hc1 := (Kp.of_below CB.out).cell _ _ hc1
        have hrp := rule_parts (HRu.out _ (List.mem_of_getElem? hm))
        obtain ⟨b, hb⟩ : ∃ b, b = wr.heap.size := ⟨_, rfl⟩
        obtain ⟨W, hW⟩ : ∃ X, X = wr.alloc (.cells #[.slice a1 l.length c1, .slice a2 r.length c2] 38) := ⟨_, rfl⟩
        have BW : Hid (Below wr.heap.size wr W) := by rw [hW]; exact below_alloc _
        have HBk : Hid (W.heap[b]? = some (.cells #[.slice a1 l.length c1, .slice a2 r.length c2] 38 (0, 0))) := by rw [hW, hb]; exact heap_alloc_new _ _
        have HPW := hid (HP.out.later BW.out)
        have hbl : b < W.heap.size := by rw [hW, hb, World.size_alloc]; omega
        have HI1 := hid hi1
        have HI2 := hid hi2
        obtain ⟨ao, cap, rfl, _, _⟩ := HP.out.shape
        have hne0 : Value.ownBlock (.slice ao L.length cap) ≠ some b := fun hj => by have := own_lt13 HP.out hj; omega
        have HNe := hid hne0
        have HRp := hid hrp
        have hat := pairsL_at (sig := sig) (D := D) hm
        rw [← HL.out] at hat
        have HAt := hid hat
        clear hm hi1 hi2 hrp hne0 hat
        obtain ⟨y0, y1⟩ := HC.out wr (below_step D2.out HP.out.bel)
        go_upto_region 9 with fail
        rw [← hW]
        rw [← hb]
        have z1 := cell_of_row W _ 1 _ _ _ HBk.out
        clear hW hb hc0 hc1 y0 y1
        go_wp2
        go_loopw [7, 33] (fun lv jv wx => ∃ (j : Nat) (vs' : List (Value × Value)) (M : List Rl), jv = .int .i64 j ∧ j ≤ r.length ∧ M = L ++ pairsK sig D (l, r) j ∧ Pa13 w2 wx lv vs' M ∧ M.length ≤ 256 ∧ lv.ownBlock ≠ some b ∧ wx.heap[b]? = some (.cells #[.slice a1 l.length c1, .slice a2 r.length c2] 38 (0, 0))) (fun _ jv _ => r.length - (intOf jv).toNat)
        case atStart => exact ⟨0, vs, L, rfl, Nat.zero_le _, by rw [show pairsK sig D (l, r) 0 = [] from rfl, List.append_nil], HPW.out, hle, HNe.out, HBk.out⟩
        case round =>
          obtain ⟨j, vs', M, rfl, hj, hM, hpx, hlx, hnx, hbx⟩ := hrel
          have HM := hid hM
          have HX := hid hpx
          have HNx := hid hnx
          have HBx := hid hbx
          have CX := hid (below_step B2.out hpx.bel)
          obtain ⟨ax, cx, rfl, hax, hcx⟩ := HX.out.shape
          unfold maxLen at hcx
          clear hM hpx hnx hbx
          by_cases hjl : j < r.length
          · obtain ⟨gr, orr, c, rfl, hc, hcx2, _, _⟩ := (HI2.out.kp (Kp.of_below CX.out)).at hjl
            obtain ⟨bD, hbD⟩ : ∃ bD, bD = decide (c ∈ D) := ⟨_, rfl⟩
            have HIc := hid (HI.out wr c HX.out.bel)
            rw [← hbD] at HIc
            have HBD := hid hbD
            have HCc := hid hc
            clear hc hbD
            go_wp2_with fail
            refine HIc.out.mono ?_
            rintro e wy ⟨rfl, hby⟩
            have hbw := (Array.getElem?_eq_some_iff.1 HBx.out).1
            have HBy := hid ((hby.block b hbw).trans HBx.out)
            have HY := hid (HX.out.later hby)
            have CY := hid (below_step CX.out hby)
            clear hcx2 hby hbw
            cases bD
            · have hno : c ∉ D := by have := HBD.out; simpa using this.symm
              have HN := hid (pairsK_no (sig := sig) (r := (l, r)) HCc.out hno)
              clear hno
              go_wp2
              go_roundw
              case rel => exact ⟨j + 1, vs', M, by go_num, by omega, by rw [HN.out]; exact HM.out, HY.out, hlx, HNx.out, HBy.out⟩
              case measure => simp only [intOf]; omega
            · have hye : c ∈ D := by have := HBD.out; simpa using this.symm
              have HN := hid (pairsK_yes (sig := sig) (r := (l, r)) HCc.out hye)
              clear hye
              by_cases hfu : M.length = 256
              · have HE2 : Hid (ofE13 sig rs = 2) := by
                  show _ = _
                  have h1 := HAt.out.2
                  have h2 := pairsK_mono (sig := sig) (D := D) (r := (l, r)) (k := j + 1) (n := r.length) (by omega)
                  have h3 := congrArg List.length HM.out
                  rw [HN.out, List.length_append] at h2
                  rw [List.length_append] at h3
                  simp only [List.length_singleton] at h2
                  rw [HOE.out, if_pos (by omega)]
                have hf1 : (((M.length : Nat) : Int) == 256) = true := by rw [hfu]; rfl
                go_wp2
                go_ret2
                exact ⟨.slice none 0 0, [], congrArg (fun x => Ending.returned (.tuple #[.slice none 0 0, .int .i64 x])) HE2.out.symm, by rw [HON.out (by rw [HE2.out]; decide)]; exact Pa13.nil CY.out⟩
              · have hf1 : (((M.length : Nat) : Int) == 256) = false := by rw [beq_eq_false_iff_ne]; omega
                obtain ⟨q, hq1, hq2⟩ := part_here HRp.out.2.1 hjl
                obtain ⟨u, hu⟩ : ∃ X, X = (r.drop j).take (fstN sig (r.drop j)) := ⟨_, rfl⟩
                have hN := HN.out
                try dsimp only at hN hq1 hq2
                rw [← hu] at hq1 hq2 hN
                have htk : (r.take j).length = j := by rw [List.length_take]; omega
                have HTm := hid (termAt_any _ _ sig r (r.take j) u q wy (HS.out.kp (Kp.of_below CY.out)) (HI2.out.kp (Kp.of_below CY.out)) HA.out hq1 hq2 (by have h9 : r.length ≤ 512 := HRp.out.2.2.2.1; omega))
                rw [htk] at HTm
                have HNu := hid hN
                have HQ2 := hid hq2
                have hul : u.length ≤ 512 := by have h9 : r.length ≤ 512 := HRp.out.2.2.2.1; rw [hu, List.length_take, List.length_drop]; omega
                obtain ⟨y0, _⟩ := HC.out wy (below_step D2.out HY.out.bel)
                have y2 := cell_of_row wy _ 1 _ _ _ HBy.out
                clear hN hq1 hq2 htk hu HN
                go_wp2_with fail
                refine HTm.out.mono ?_
                rintro e w5 ⟨v5, rfl, hi5, hw5⟩
                have hw6 := hw5.symm
                subst hw6
                clear hw5
                obtain ⟨a5, c5, rfl, _, _, _⟩ := Row.flat hi5
                have HM1 := hid fun (Z : World) (hZ : Below wy.heap.size wy Z) => marked_any _ _ sig l Z (HS.out.kp (Kp.of_below (below_step CY.out hZ))) (HI1.out.kp (Kp.of_below (below_step CY.out hZ))) (row_posS (term_parts HRp.out.1).2) (by have h9 : l.length ≤ 512 := HRp.out.2.2.1; omega) (fun c hc => by have := code_small HA.out (term_parts HRp.out.1).2 c hc; omega) (by omega)
                have HM2 := hid fun (Z : World) (hZ : Below wy.heap.size wy Z) => marked_any _ _ sig u Z (HS.out.kp (Kp.of_below (below_step CY.out hZ))) (hi5.kp (Kp.of_below hZ)) (row_posS HQ2.out) (by omega) (fun c hc => by have := code_small HA.out HQ2.out c hc; omega) (by omega)
                have q0 := y0
                have q1 := cell_of_row wy _ 0 _ _ _ HBy.out
                clear hi5 y0 y2
                go_upto_region 16 with fail
                -- R:of
                have hK0 : ∀ {Z : World}, Below wy.heap.size wy Z → (Z.cell? ⟨w.heap.size, 0, none⟩ = some (.slice so sig.length sc) ∧ Z.cell? ⟨b, 0, none⟩ = some (.slice a1 l.length c1)) := fun hZ => ⟨(Kp.of_below hZ).cell _ _ q0, (Kp.of_below hZ).cell _ _ q1⟩
                have hS := hK0 (drawn_below1 wy)
                refine wp_region_held_drew (S := fun w' => (w'.cell? ⟨w.heap.size, 0, none⟩ = some (.slice so sig.length sc) ∧ w'.cell? ⟨b, 0, none⟩ = some (.slice a1 l.length c1))) (by kernel_rfl) hS (fun _ => ?_)
                obtain ⟨z0, hz0⟩ : ∃ X, X = wy.drew := ⟨_, rfl⟩
                have b0 : Below wy.heap.size wy z0 := by rw [hz0]; exact drawn_below1 _
                rw [← hz0] at hS ⊢
                clear hz0
                refine wpAnyH_take (i := 0) (v := .slice ax M.length cx) rfl (by kernel_rfl) (by kernel_rfl) (by kernel_rfl) (fun _ _ _ h => h) (Or.inl ⟨by kernel_rfl, fun w' h => by go_simp⟩) hS ?_
                (try simp only [Act.put]); (try simp only [List.setIfInBounds_toArray]); (try simp only [List.set_cons_zero, List.set_cons_succ])
                refine wpAnyH_take (i := 1) (v := .pointer (some ⟨w.heap.size, 0, none⟩)) rfl (by kernel_rfl) (by kernel_rfl) (by kernel_rfl) (fun _ _ _ h => h) (Or.inl ⟨by kernel_rfl, fun w' h => by go_simp⟩) hS ?_
                (try simp only [Act.put]); (try simp only [List.setIfInBounds_toArray]); (try simp only [List.set_cons_zero, List.set_cons_succ])
                refine wpAnyH_take (i := 2) (v := .slice so sig.length sc) rfl (by kernel_rfl) (by kernel_rfl) (by kernel_rfl) (fun _ _ _ h => h) (Or.inl ⟨by kernel_rfl, fun w' h => by have hh0 := h.1; go_simp⟩) hS ?_
                (try simp only [Act.put]); (try simp only [List.setIfInBounds_toArray]); (try simp only [List.set_cons_zero, List.set_cons_succ])
                refine wpAnyH_take (i := 3) (v := .pointer (some ⟨b, 0, none⟩)) rfl (by kernel_rfl) (by kernel_rfl) (by kernel_rfl) (fun _ _ _ h => h) (Or.inl ⟨by kernel_rfl, fun w' h => by go_simp⟩) hS ?_
                (try simp only [Act.put]); (try simp only [List.setIfInBounds_toArray]); (try simp only [List.set_cons_zero, List.set_cons_succ])
                refine wpAnyH_take (i := 4) (v := .slice a1 l.length c1) rfl (by kernel_rfl) (by kernel_rfl) (by kernel_rfl) (fun _ _ _ h => h) (Or.inl ⟨by kernel_rfl, fun w' h => by have hh0 := h.2; go_simp⟩) hS ?_
                (try simp only [Act.put]); (try simp only [List.setIfInBounds_toArray]); (try simp only [List.set_cons_zero, List.set_cons_succ])
                refine wpAnyH_take (i := 6) (v := .pointer (some ⟨w.heap.size, 0, none⟩)) rfl (by kernel_rfl) (by kernel_rfl) (by kernel_rfl) (fun _ _ _ h => h) (Or.inl ⟨by kernel_rfl, fun w' h => by go_simp⟩) hS ?_
                (try simp only [Act.put]); (try simp only [List.setIfInBounds_toArray]); (try simp only [List.set_cons_zero, List.set_cons_succ])
                refine wpAnyH_take (i := 7) (v := .slice so sig.length sc) rfl (by kernel_rfl) (by kernel_rfl) (by kernel_rfl) (fun _ _ _ h => h) (Or.inl ⟨by kernel_rfl, fun w' h => by have hh0 := h.1; go_simp⟩) hS ?_
                (try simp only [Act.put]); (try simp only [List.setIfInBounds_toArray]); (try simp only [List.set_cons_zero, List.set_cons_succ])
                refine wpAnyH_take (i := 8) (v := .slice a5 u.length c5) rfl (by kernel_rfl) (by kernel_rfl) (by kernel_rfl) (fun _ _ _ h => h) (Or.inl ⟨by kernel_rfl, fun w' h => by go_simp⟩) hS ?_
                (try simp only [Act.put]); (try simp only [List.setIfInBounds_toArray]); (try simp only [List.set_cons_zero, List.set_cons_succ])
                refine wpAnyH_ready (rs := [5]) (by kernel_rfl) (by simp) (AllReadyH.cons rfl (fun K hK => ?_) AllReadyH.nil)
                go_simp
                refine (HM1.out z0 b0).mono ?_
                rintro e z1 ⟨u1, rfl, o1, hb1⟩
                have b1 := below_step b0 hb1
                have k1 := hK0 b1
                refine hK.out _ _ k1 (fun _ => ?_)
                clear hK K hS
                have hS := k1
                clear k1
                (try simp only [Act.put]); (try simp only [List.setIfInBounds_toArray]); (try simp only [List.set_cons_zero, List.set_cons_succ])
                refine wpAnyH_ready (rs := [9]) (by kernel_rfl) (by simp) (AllReadyH.cons rfl (fun K hK => ?_) AllReadyH.nil)
                go_simp
                refine (HM2.out z1 b1).mono ?_
                rintro e z2 ⟨u2, rfl, o2, hb2⟩
                have b2 := below_step b1 hb2
                have k2 := hK0 b2
                refine hK.out _ _ k2 (fun _ => ?_)
                clear hK K hS
                have hS := k2
                clear k2
                (try simp only [Act.put]); (try simp only [List.setIfInBounds_toArray]); (try simp only [List.set_cons_zero, List.set_cons_succ])
                obtain ⟨s1, d1, rfl, _, _⟩ := o1.shape
                obtain ⟨s2, d2, rfl, _, _⟩ := o2.shape
                refine wpAnyH_take (i := 10) (v := .agg #[.slice s1 (mkL sig l).length d1, .slice s2 (mkL sig u).length d2]) rfl (by kernel_rfl) (by kernel_rfl) (by kernel_rfl) (fun _ _ _ h => h) (Or.inl ⟨by kernel_rfl, fun w' h => by go_simp⟩) hS ?_
                (try simp only [Act.put]); (try simp only [List.setIfInBounds_toArray]); (try simp only [List.set_cons_zero, List.set_cons_succ])
                obtain ⟨lv4, z4, hr4, hp4, hg4, hn4⟩ := (HY.out.later b0).push 30 hb1 o1 hb2 o2 (by omega)
                have b3 := below_step b2 (below_alloc (.cells #[.slice s1 (mkL sig l).length d1, .slice s2 (mkL sig u).length d2] 38))
                have hbz : b < z2.heap.size := Nat.lt_of_lt_of_le (Array.getElem?_eq_some_iff.1 HBy.out).1 b2.size
                have hB4 : z4.heap[b]? = _ := (hg4.block b (by rw [World.size_alloc]; omega) (fun e => HNx.out e.symm)).trans ((b3.block b (Array.getElem?_eq_some_iff.1 HBy.out).1).trans HBy.out)
                have hNw : lv4.ownBlock ≠ some b := fun e => by rcases hn4 with h9 | h9; exact HNx.out (h9.symm.trans e); rw [h9, Option.some.injEq] at e; omega
                have k4 : (z4.cell? ⟨w.heap.size, 0, none⟩ = some (.slice so sig.length sc) ∧ z4.cell? ⟨b, 0, none⟩ = some (.slice a1 l.length c1)) := ⟨(HC.out z4 (below_step D2.out hp4.bel)).1, cell_of_row z4 _ 0 _ _ _ hB4⟩
                have hlM : (M ++ [(mkL sig l, mkL sig u)]).length ≤ 256 := by rw [List.length_append, List.length_singleton]; omega
                have HR4 := hid hr4
                have HP4 := hid hp4
                have HB4 := hid hB4
                have HN4 := hid hNw
                have HL4 := hid hlM
                clear hr4 hp4 hg4 hn4 hbz hB4 hNw hlM
                refine wpAnyH_ready (rs := [11]) (by kernel_rfl) (by simp) (AllReadyH.cons rfl (fun K hK => ?_) AllReadyH.nil)
                go_simp
                have k3 := hK0 b3
                refine hK.out _ _ k3 (fun _ => ?_)
                clear hK K hS
                have hS := k3
                clear k3
                (try simp only [Act.put]); (try simp only [List.setIfInBounds_toArray]); (try simp only [List.set_cons_zero, List.set_cons_succ])
                refine wpAnyH_ready (rs := [12]) (by kernel_rfl) (by simp) (AllReadyH.cons rfl (fun K hK => ?_) AllReadyH.nil)
                refine step_append13 (by kernel_rfl) _ _ 30 rfl _ _ rfl rfl HR4.out ?_
                refine hK.out _ _ k4 (fun _ => ?_)
                clear hK K hS
                have hS := k4
                clear k4
                (try simp only [Act.put]); (try simp only [List.setIfInBounds_toArray]); (try simp only [List.set_cons_zero, List.set_cons_succ])
                refine wpAnyH_take (i := 13) (v := lv4) rfl (by kernel_rfl) (by kernel_rfl) (by kernel_rfl) (fun _ _ _ h => h) (Or.inl ⟨by kernel_rfl, fun w' h => by go_simp⟩) hS ?_
                (try simp only [Act.put]); (try simp only [List.setIfInBounds_toArray]); (try simp only [List.set_cons_zero, List.set_cons_succ])
                refine wpAnyH_done (by kernel_rfl) ?_ _
                (try simp only [Act.put]); (try simp only [List.getElem_toArray]); (try simp only [List.getElem_cons_succ, List.getElem_cons_zero]); (try simp only [List.setIfInBounds_toArray]); (try simp only [List.set_cons_succ, List.set_cons_zero])
                clear hS
                go_wp2
                go_roundw
                case rel => exact ⟨j + 1, _, _, by go_num, by omega, by rw [HNu.out, HM.out, List.append_assoc], HP4.out, HL4.out, HN4.out, HB4.out⟩
                case measure => simp only [intOf]; omega
                -- E:of
          · have hjr : j = r.length := by omega
            have hdj : decide ((j : Int) < (r.length : Int)) = false := by rw [decide_eq_false_iff_not]; omega
            have HMn : Hid (M = pairsL sig D (rs.take (k + 1))) := by
              show _ = _
              rw [HAt.out.1, HM.out, hjr]
            clear hjr
            go_wp2
            go_roundw
            case rel => exact ⟨k + 1, vs', M, by go_num, by omega, HMn.out, HX.out, hlx⟩
            case measure => simp only [intOf]; omega
      · have hkr : k = rs.length := by omega
        have hdk : decide ((k : Int) < (rs.length : Int)) = false := by rw [decide_eq_false_iff_not]; omega
        have hLr := HL.out
        rw [hkr, List.take_length] at hLr
        have HE0 : Hid (ofE13 sig rs = 0) := by
          show _ = _
          rw [HOE.out, ← hLr, if_neg (by omega)]
        have HLr : Hid (ofL13 sig rs = L) := by
          show _ = _
          rw [HOL.out HE0.out, hLr]
        have HPm := hid (HP.out.mono B2.out)
        obtain ⟨ao, cap, rfl, _, _⟩ := HP.out.shape
        clear hkr hLr
        go_wp2
        go_ret2
        exact ⟨.slice ao L.length cap, vs, congrArg (fun x => Ending.returned (.tuple #[.slice ao L.length cap, .int .i64 x])) HE0.out.symm, by rw [HLr.out]; exact HPm.out⟩
  · have hne : (E != 0) = true := by rw [bne_iff_ne]; exact h0
    have HEe : Hid (ofE13 sig rs = E) := by
      show _ = _
      unfold ofE13
      rw [← HE.out, if_neg h0]
    have HLe : Hid (ofL13 sig rs = []) := by
      show _ = _
      unfold ofL13
      rw [HEe.out, if_neg h0]
    clear h0
    go_wp2
    go_ret2
    exact ⟨.slice none 0 0, [], congrArg (fun x => Ending.returned (.tuple #[.slice none 0 0, .int .i64 x])) HEe.out.symm, by rw [HLe.out]; exact Pa13.nil B1.out⟩

end Go.Proofs.YtoapgbaibpkckaaGreatDoor

/- The graph of pairs in memory; the graph, plainly. -/
namespace Go.Proofs.YtoapgbaibpkckaaGreatDoor
open Go.RowKit Go.Maps Go.BigFrame

/-- The pairs, of the first k, that may follow a pair. -/
noncomputable def rowK13 (sig : List Sy) (rs : List Rl) (l : List Rl) (p : Rl) (k : Nat) : List Int := ((List.range k).filter fun x => meetB (extL sig) (exitL sig rs p.2) (entryL sig ((l[x]?).getD ([], [])).1)).map fun (x : Nat) => (x : Int)

noncomputable def graphL13 (sig : List Sy) (rs : List Rl) (l : List Rl) : List (List Int) := if sysB sig rs = true then l.map fun p => rowK13 sig rs l p l.length else l.map fun _ => []

theorem rowK13_at {sig : List Sy} {rs l : List Rl} {p q : Rl} {k : Nat} (h : l[k]? = some q) : rowK13 sig rs l p (k + 1) = rowK13 sig rs l p k ++ (if meetB (extL sig) (exitL sig rs p.2) (entryL sig q.1) = true then [(k : Int)] else []) := by
  unfold rowK13
  rw [List.range_succ, List.filter_append, List.map_append]
  congr 1
  have e : (l[k]?).getD ([], []) = q := by rw [h]; rfl
  by_cases hb : meetB (extL sig) (exitL sig rs p.2) (entryL sig q.1) = true
  · rw [if_pos hb, List.filter_cons_of_pos (by rw [e]; exact hb)]
    rfl
  · rw [if_neg hb, List.filter_cons_of_neg (by rw [e]; exact hb)]
    rfl

theorem rowK13_len {sig : List Sy} {rs l : List Rl} {p : Rl} {k : Nat} : (rowK13 sig rs l p k).length ≤ k := by
  unfold rowK13
  rw [List.length_map]
  have := List.length_filter_le (fun x => meetB (extL sig) (exitL sig rs p.2) (entryL sig ((l[x]?).getD ([], [])).1)) (List.range k)
  rw [List.length_range] at this
  exact this

/-- All blocks but X are as they were. -/
structure Exg (W W' : World) (X : Nat) : Prop where
  bel : Below X W W'
  same : ∀ g, g ≠ X → g < W.heap.size → W'.heap[g]? = W.heap[g]?

theorem Exg.cell {W W' : World} {X g o : Nat} {v : Value} (h : Exg W W' X) (hne : g ≠ X) (hc : W.cell? ⟨g, o, none⟩ = some v) : W'.cell? ⟨g, o, none⟩ = some v :=
  (cell_block (h.same g hne (World.block_lt_of_cell? _ _ hc)) o).trans hc

/-- The cells of a block hold slices alone. -/
def SlAll (W : World) (X : Nat) : Prop := ∀ k v, W.cell? ⟨X, k, none⟩ = some v → ∃ a n c, v = .slice a n c

theorem Exg.is {W W' : World} {X : Nat} {v : Value} {xs : List Int} (h : Exg W W' X) (hX : SlAll W X) (hi : Is W v xs) : Is W' v xs := by
  obtain ⟨ao, cap, hv, h1, h2, h3⟩ := hi
  refine ⟨ao, cap, hv, h1, h2, fun hp => ?_⟩
  obtain ⟨g, o, e, hl, hc⟩ := h3 hp
  refine ⟨g, o, e, Nat.lt_of_lt_of_le hl h.bel.size, fun k x hk => ?_⟩
  obtain ⟨e1, e2, e3⟩ := hc k x hk
  refine ⟨e1, e2, h.cell (fun hg => ?_) e3⟩
  subst hg
  obtain ⟨a, n, c, e9⟩ := hX _ _ e3
  cases e9

theorem Exg.sg {W W' : World} {X : Nat} {v : Value} {xs : List Sy} (h : Exg W W' X) (hX : SlAll W X) (hi : Sg W v xs) : Sg W' v xs := by
  obtain ⟨ao, cap, hv, h1, h2, h3⟩ := hi
  refine ⟨ao, cap, hv, h1, h2, fun hp => ?_⟩
  obtain ⟨g, o, e, hl, hc⟩ := h3 hp
  refine ⟨g, o, e, Nat.lt_of_lt_of_le hl h.bel.size, fun k x hk => ?_⟩
  obtain ⟨e1, e2, e3, e4, e5⟩ := hc k x hk
  have hne : g ≠ X := fun hg => by
    subst hg
    obtain ⟨a, n, c, e9⟩ := hX _ _ e4
    cases e9
  exact ⟨e1, e2, e3, h.cell hne e4, h.cell hne e5⟩

/-- An estimate whose own block isn't below b. -/
theorem Est.exg {W W' : World} {X b : Nat} {ev : Value} {sig : List Sy} {rs : List Rl} (h : Exg W W' X) (hX : SlAll W X) (he : Est W ev sig rs) (hb : EstB b ev) (hlt : X < b) : Est W' ev sig rs := by
  obtain ⟨so, sc, bd, dv, rfl, h1, h2, h3⟩ := he
  obtain ⟨so', n', sc', k', bd', e, hle⟩ := hb
  have e2 : bd' = bd := by
    simp only [Value.agg.injEq, Array.mk.injEq, List.cons.injEq, Value.func.injEq, Value.pointer.injEq, Option.some.injEq, Addr.mk.injEq, and_true, true_and] at e
    exact e.2.2.symm
  refine ⟨so, sc, bd, dv, rfl, h.sg hX h1, h.cell (by omega) h2, h.is hX h3⟩

/-- Rows of one's own, joined; the headers lie in one block. -/
structure Rw13 (w0 w : World) (v : Value) (vs : List Value) (l : List (List Int)) : Prop where
  bel : Below w0.heap.size w0 w
  row : w.ownsRow w0.heap.size 36 1 v l.length vs
  len : vs.length = l.length
  own : Owns w w0.heap.size (vs.zip l)

theorem Rw13.later {w0 w w' : World} {v : Value} {vs : List Value} {l : List (List Int)} (h : Rw13 w0 w v vs l) (hb : Below w.heap.size w w') : Rw13 w0 w' v vs l :=
  ⟨below_step h.bel hb, ownsRow_later h.row hb, h.len, h.own.later hb⟩

theorem Rw13.nil {w0 w : World} (hb : Below w0.heap.size w0 w) : Rw13 w0 w (.slice none 0 0) [] [] :=
  ⟨hb, World.ownsRow_nil _ _ _ _, rfl, ⟨fun i v xs hi => by simp at hi, fun i j v u xs ys _ hi _ => by simp at hi⟩⟩

theorem Rw13.shape {w0 w : World} {v : Value} {vs : List Value} {l : List (List Int)} (h : Rw13 w0 w v vs l) : ∃ ao c, v = .slice ao l.length c ∧ l.length ≤ c ∧ c ≤ maxLen := by
  rcases h.row.2 with ⟨rfl, h0⟩ | ⟨g, cap, cur, rfl, _, _, hc, hm, _⟩
  · exact ⟨none, 0, by rw [h0], by omega, by simp [maxLen]⟩
  · exact ⟨_, cap, rfl, hc, hm⟩

theorem Rw13.push (ty : TypeId) {w0 w w1 : World} {v u : Value} {vs : List Value} {l : List (List Int)} {t : List Int} (h : Rw13 w0 w v vs l) (hb1 : Below w.heap.size w w1) (hu : OwI w1 w.heap.size u t) (hl : (l.length + 1) * 24 ≤ 140737488355328) :
    ∃ v' w', (Builtin.append_ #[41, 41] ty #[v, .slice (some ⟨w1.heap.size, 0, none⟩) 1 1]).run Tryz.prog (w1.alloc (.cells #[u] 36)) = .ok v' w' ∧ Rw13 w0 w' v' (vs ++ [u]) (l ++ [t]) := by
  have h1 := h.later hb1
  obtain ⟨ao, cap, hv, _⟩ := hu.shape
  obtain ⟨v', w', hr, h2, h3⟩ := join_row ty h1.row h1.bel.size hl (show u.oneCell' = true by rw [hv]; rfl)
  have h4 := h1.later (below_alloc (.cells #[u] 36))
  have hO := ((h.own.snoc hb1 hu h.bel.size).later (below_alloc (.cells #[u] 36))).keptR h3 h4.row (by decide)
  have hB : Below w0.heap.size w0 w' := h4.bel.grown h3 h4.bel.size (fun k hk => own_blk h4.row hk)
  refine ⟨v', w', hr, hB, by simpa using h2, by simp [h.len], ?_⟩
  rw [List.zip_append h.len]
  exact hO

/-- The entry at a place. -/
theorem Rw13.at {w0 w : World} {v : Value} {vs : List Value} {l : List (List Int)} (h : Rw13 w0 w v vs l) {k : Nat} {t : List Int} (hk : l[k]? = some t) : ∃ g cap u, v = .slice (some ⟨g, 0, none⟩) l.length cap ∧ w0.heap.size ≤ g ∧ w.cell? ⟨g, k, none⟩ = some u ∧ Is w u t := by
  have hlt := (List.getElem?_eq_some_iff.1 hk).1
  have hlv : k < vs.length := by rw [h.len]; exact hlt
  rcases h.row.2 with ⟨rfl, h0⟩ | ⟨g, cap, cur, rfl, hb, hg, hc, hm, hs, ht⟩
  · omega
  · have h1 : vs[k]? = some vs[k] := List.getElem?_eq_getElem hlv
    refine ⟨g, cap, vs[k], rfl, hb, ?_, (h.own.own k _ _ (List.getElem?_zip_eq_some.2 ⟨h1, hk⟩)).is⟩
    have h2 := World.ownsRow.cellAt h.row k (by omega)
    rw [h2]
    exact h1

theorem zip_set13 {α β : Type} (xs : List α) (ys : List β) (k : Nat) (x : α) (y : β) : (xs.zip ys).set k (x, y) = (xs.set k x).zip (ys.set k y) := by
  induction xs generalizing ys k with
  | nil => simp
  | cons a xs ih =>
    cases ys with
    | nil => cases k <;> simp
    | cons b ys =>
      cases k with
      | zero => rfl
      | succ k => simp [ih]

/-- The rows that are made: their headers in the block g, which is older than W; what they hold, and some rows beside, in blocks that are newer. -/
structure G13 (W w : World) (g n : Nat) (vals : List Value) (rws : List (List Int)) (ex : List (Value × List Int)) : Prop where
  exg : Exg W w g
  lt : g < W.heap.size
  blk : w.heap[g]? = some (.cells vals.toArray 36 (0, 0))
  len : vals.length = n
  rlen : rws.length = n
  own : Owns w W.heap.size (vals.zip rws ++ ex)

theorem Exg.step {W w w' : World} {g : Nat} (h : Exg W w g) (hlt : g < W.heap.size) (hb : Below w.heap.size w w') : Exg W w' g :=
  ⟨h.bel.trans (hb.mono (by have := h.bel.size; omega)), fun k hne hk => (hb.block k (Nat.lt_of_lt_of_le hk h.bel.size)).trans (h.same k hne hk)⟩

theorem G13.later {W w w' : World} {g n : Nat} {vals : List Value} {rws : List (List Int)} {ex : List (Value × List Int)} (h : G13 W w g n vals rws ex) (hb : Below w.heap.size w w') : G13 W w' g n vals rws ex :=
  ⟨h.exg.step h.lt hb, h.lt, (hb.block g (Array.getElem?_eq_some_iff.1 h.blk).1).trans h.blk, h.len, h.rlen, h.own.later hb⟩

theorem G13.add {W w w1 : World} {g n : Nat} {vals : List Value} {rws : List (List Int)} {ex : List (Value × List Int)} {u : Value} {t : List Int} (h : G13 W w g n vals rws ex) (hb : Below w.heap.size w w1) (hu : OwI w1 w.heap.size u t) : G13 W w1 g n vals rws (ex ++ [(u, t)]) :=
  ⟨h.exg.step h.lt hb, h.lt, (hb.block g (Array.getElem?_eq_some_iff.1 h.blk).1).trans h.blk, h.len, h.rlen, by rw [← List.append_assoc]; exact h.own.snoc hb hu h.exg.bel.size⟩

theorem G13.drop {W w : World} {g n : Nat} {vals : List Value} {rws : List (List Int)} {ex : List (Value × List Int)} (h : G13 W w g n vals rws ex) : G13 W w g n vals rws [] := by
  have hz : ∀ {i : Nat} {v : Value} {xs : List Int}, (vals.zip rws ++ [])[i]? = some (v, xs) → (vals.zip rws ++ ex)[i]? = some (v, xs) := fun {i v xs} hi => by
    rw [List.append_nil] at hi
    rw [List.getElem?_append_left (List.getElem?_eq_some_iff.1 hi).1]
    exact hi
  exact ⟨h.exg, h.lt, h.blk, h.len, h.rlen, ⟨fun i v xs hi => h.own.own i v xs (hz hi), fun i j v u xs ys hne hi hj => h.own.dis i j v u xs ys hne (hz hi) (hz hj)⟩⟩

theorem G13.beside {W w : World} {g n : Nat} {vals : List Value} {rws : List (List Int)} {u : Value} {t : List Int} (h : G13 W w g n vals rws [(u, t)]) : OwI w W.heap.size u t :=
  h.own.own (vals.zip rws).length u t (by simp)

theorem G13.one {W w : World} {g n x : Nat} {vals : List Value} {rws : List (List Int)} {ex : List (Value × List Int)} (h : G13 W w g n vals rws ex) (hx : x < n) : ∃ v r, vals[x]? = some v ∧ rws[x]? = some r ∧ OwI w W.heap.size v r ∧ w.cell? ⟨g, x, none⟩ = some v ∧ w.frozen? ⟨g, x, none⟩ = false := by
  have h1 : x < vals.length := by rw [h.len]; exact hx
  have h2 : x < rws.length := by rw [h.rlen]; exact hx
  have hz : (vals.zip rws ++ ex)[x]? = some (vals[x], rws[x]) := by
    rw [List.getElem?_append_left (by rw [List.length_zip]; omega)]
    exact List.getElem?_zip_eq_some.2 ⟨List.getElem?_eq_getElem h1, List.getElem?_eq_getElem h2⟩
  refine ⟨vals[x], rws[x], List.getElem?_eq_getElem h1, List.getElem?_eq_getElem h2, h.own.own x _ _ hz, ?_, frozen_of_row w g x _ _ h.blk⟩
  rw [cell_of_row w g x _ _ _ h.blk]
  simp [h1]

/-- A number more behind one of the rows. -/
theorem G13.push (ty : TypeId) {W w : World} {g n x : Nat} {vals : List Value} {rws : List (List Int)} {ex : List (Value × List Int)} {v : Value} {r : List Int} {c : Int} (h : G13 W w g n vals rws ex) (hx : x < n) (hv : vals[x]? = some v) (hr : rws[x]? = some r) (h1 : -9223372036854775808 ≤ c) (h2 : c ≤ 9223372036854775807) (hl : (r.length + 1) * 8 ≤ 140737488355328) :
    ∃ v' w', (Builtin.append_ #[36, 36] ty #[v, .slice (some ⟨w.heap.size, 0, none⟩) 1 1]).run Tryz.prog (w.alloc (.cells #[.int .i64 c] 3)) = .ok v' w' ∧ (∃ a m d, v' = .slice a m d) ∧ w'.cell? ⟨g, x, none⟩ = some v ∧ w'.frozen? ⟨g, x, none⟩ = false ∧ G13 W (w'.setCell ⟨g, x, none⟩ v') g n (vals.set x v') (rws.set x (r ++ [c])) ex := by
  have hlz : x < (vals.zip rws).length := by rw [List.length_zip, h.len, h.rlen]; omega
  have hz : (vals.zip rws ++ ex)[x]? = some (v, r) := by
    rw [List.getElem?_append_left hlz]
    exact List.getElem?_zip_eq_some.2 ⟨hv, hr⟩
  have ho := h.own.own x v r hz
  have h' := h.later (below_alloc (.cells #[.int .i64 c] 3))
  obtain ⟨v', w', hrun, g1, g2, g3⟩ := join_one ty ho h1 h2 h.exg.bel.size hl
  have hs := h'.own.step (i := x) hz g2 g1 (by
    rcases g3 with g3 | g3
    · exact .inl g3
    · exact .inr ⟨_, g3, Nat.le_refl _⟩)
  rw [List.set_append_left _ _ hlz, zip_set13] at hs
  have ho' := h'.own.own x v r hz
  have hblk : w'.heap[g]? = some (.cells vals.toArray 36 (0, 0)) := (g2.block g (Array.getElem?_eq_some_iff.1 h'.blk).1 (fun e => own_ne ho'.2 h'.blk (by decide) e.symm)).trans h'.blk
  have hlt := h.lt
  have hbel : Below g W w' := h'.exg.bel.grown g2 (by have := h'.exg.bel.size; omega) (fun k hk => by have := own_blk ho'.2 hk; omega)
  obtain ⟨ao, cap, hv', _⟩ := g1.shape
  refine ⟨v', w', hrun, ⟨_, _, _, hv'⟩, ?_, frozen_of_row w' g x _ _ hblk, ⟨hbel.setCell (p := ⟨g, x, none⟩) (Nat.le_refl _) v', fun k hne hk => ?_⟩, hlt, ?_, by rw [List.length_set, h.len], by rw [List.length_set, h.rlen], hs.kept (set_grown w' g x v') hblk (by decide)⟩
  · rw [cell_of_row w' g x _ _ _ hblk]
    simpa using hv
  · rw [heap_setCell_other _ _ _ _ hne]
    exact (g2.block k (Nat.lt_of_lt_of_le hk h'.exg.bel.size) (fun e => by have := own_blk ho'.2 e.symm; omega)).trans (h'.exg.same k hne hk)
  · rw [heap_setCell_same w' g x _ _ _ hblk]
    simp

theorem SlAll.new (w : World) (n : Nat) (t : TypeId) : SlAll (w.alloc (.cells (List.replicate n (Value.slice none 0 0)).toArray t)) w.heap.size := fun k v h => by
  rw [cell_of_row _ _ k _ _ _ (heap_alloc_new _ _)] at h
  simp only [List.getElem?_toArray] at h
  have := (List.mem_replicate.1 (List.mem_of_getElem? h)).2
  exact ⟨none, 0, 0, this⟩

theorem SlAll.kept {w w' : World} {g : Nat} (h : SlAll w g) (hb : w'.heap[g]? = w.heap[g]?) : SlAll w' g := fun k v hk => h k v (by rw [← hk]; exact (World.cell?_of_block (a := ⟨g, k, none⟩) hb).symm)

/-- New rows, all empty. -/
theorem G13.start {W : World} {g n : Nat} (hlt : g < W.heap.size) (hb : W.heap[g]? = some (.cells (List.replicate n (Value.slice none 0 0)).toArray 36 (0, 0))) : G13 W W g n (List.replicate n (.slice none 0 0)) (List.replicate n []) [] := by
  refine ⟨⟨Below.refl _ _, fun _ _ _ => rfl⟩, hlt, hb, by simp, by simp, ⟨fun i v xs hi => ?_, fun i j v u xs ys _ hi _ => ?_⟩⟩
  · rw [List.append_nil] at hi
    have := List.getElem?_zip_eq_some.1 hi
    have e1 := (List.mem_replicate.1 (List.mem_of_getElem? this.1)).2
    have e2 := (List.mem_replicate.1 (List.mem_of_getElem? this.2)).2
    simp only at e1 e2
    subst e1 e2
    exact nil_own13 _ _
  · rw [List.append_nil] at hi
    have := List.getElem?_zip_eq_some.1 hi
    have e1 := (List.mem_replicate.1 (List.mem_of_getElem? this.1)).2
    simp only at e1
    subst e1
    exact fun g h => by simp [Value.ownBlock] at h

theorem run_make13 (w : World) (n : Nat) (hn : n * 24 ≤ 140737488355328) : (Instr.makeSlice 41 (.int .i64 (n : Int)) (.int .i64 (n : Int))).run Tryz.prog w = .ok (.slice (some ⟨w.heap.size, 0, none⟩) n n) (w.alloc (.cells (List.replicate n (Value.slice none 0 0)).toArray 36)) := by
  obtain ⟨i0, hi, hz0, hz1, hz2⟩ := info_parts info_ints
  have h := run_make (P := Tryz.prog) w 41 36 i0 (.slice none 0 0) under_rows hi hz0 .i64 .i64 (n : Int) (n : Int) (by omega) (Int.le_refl _) (by rw [hz2]; omega) (by omega)
  rw [hz1, Int.toNat_natCast] at h
  have e : madeCells (Value.slice none 0 0).cells (n * 1) = (List.replicate n (Value.slice none 0 0)).toArray := by
    apply Array.ext'
    rw [made_nilS]
  rw [e] at h
  exact h

theorem G13.rs {W w : World} {g n : Nat} {vals : List Value} {rws : List (List Int)} {ex : List (Value × List Int)} (h : G13 W w g n vals rws ex) (hn : n ≤ 1048576) (hl : ∀ r, r ∈ rws → r.length * 8 ≤ 140737488351232) : Rs w (.slice (some ⟨g, 0, none⟩) n n) rws := by
  refine ⟨some ⟨g, 0, none⟩, n, by rw [h.rlen], by rw [h.rlen]; exact Nat.le_refl _, by unfold maxLen; omega, fun _ => ⟨g, 0, rfl, (Array.getElem?_eq_some_iff.1 h.blk).1, fun k r hk => ?_⟩⟩
  have hk2 := (List.getElem?_eq_some_iff.1 hk).1
  rw [h.rlen] at hk2
  obtain ⟨v, r', h1, h2, h3, h4, _⟩ := h.one hk2
  rw [hk] at h2
  cases h2
  exact ⟨hl r (List.mem_of_getElem? hk), v, by rw [Nat.zero_add, Nat.mul_one]; exact h4, h3.is⟩

end Go.Proofs.YtoapgbaibpkckaaGreatDoor
