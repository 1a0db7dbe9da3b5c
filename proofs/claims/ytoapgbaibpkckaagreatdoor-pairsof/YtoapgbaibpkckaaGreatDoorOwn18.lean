/- Texts of the proof, one behind the other. -/
import Derived.Test.YtoapgbaibpkckaaGreatDoorOwn17
import Derived.Test.YtoapgbaibpkckaaGreatDoorOwn4
import Derived.Test.YtoapgbaibpkckaaGreatDoorOwn5
/- The document's Of walked. -/
namespace Go.Proofs.YtoapgbaibpkckaaGreatDoor
open Go.RowKit Go.Maps Go.BigFrame

set_option maxRecDepth 100000 in
set_option maxHeartbeats 3200000 in
theorem refOf13_any (sv rv : Value) (sig : List Sy) (rs : List Rl) (w : World) (hs : Sg w sv sig) (hr : RU w rv rs) :
    Calls Tryz.prog 13 #[.agg #[sv, rv]] w fun e w' => ∃ v vs, e = .returned (.tuple #[v, .int .i64 (ofE13 sig rs)]) ∧ Pa13 w w' v vs (ofL13 sig rs) := by
  obtain ⟨so, sc, rfl, hso, hsc, _⟩ := Row.flat hs
  obtain ⟨ro, rc, rfl, hro, hrc, _⟩ := Row.flat hr
  unfold maxLen at hsc hrc
  have HS := hid hs
  have HR := hid hr
  clear hs hr
  obtain ⟨w0, hw0⟩ : ∃ X, X = w.alloc (.cells #[.slice so sig.length sc, .slice ro rs.length rc] 32) := ⟨_, rfl⟩
  have C0 : Hid (Below w.heap.size w w0) := by rw [hw0]; exact below_alloc _
  have HC : Hid (∀ W, Below w0.heap.size w0 W → W.cell? ⟨w.heap.size, 0, none⟩ = some (.slice so sig.length sc) ∧ W.cell? ⟨w.heap.size, 1, none⟩ = some (.slice ro rs.length rc)) := fun W hW => by
    have hk := Kp.of_below hW
    rw [hw0] at hk
    exact ⟨hk.cell _ _ (cell_new rfl), hk.cell _ _ (cell_new rfl)⟩
  have HCk := hid (refSysCheck_any _ _ sig rs w0 (HS.out.kp (Kp.of_below C0.out)) (HR.out.kp (Kp.of_below C0.out)))
  obtain ⟨x0, x1⟩ := HC.out w0 (Below.refl _ _)
  obtain ⟨E, hE⟩ : ∃ E, E = (sysE sig rs).1 := ⟨_, rfl⟩
  rw [← hE] at HCk
  have HE := hid hE
  clear hE
  go_enter Tryz.func13, Tryz.ntmps13
  go_upto_region 1 with fail
  rw [← hw0]
  clear hw0
  go_wp2_with fail
  refine HCk.out.mono ?_
  rintro e w1 ⟨rfl, hb1⟩
  have D1 := hid hb1
  have B1 := hid (below_step C0.out hb1)
  clear hb1 x0 x1
  obtain ⟨x0, x1⟩ := HC.out w1 D1.out
  by_cases h0 : E = 0
  · have hB : sysB sig rs = true := by unfold sysB; rw [decide_eq_true_eq, ← HE.out, h0]
    obtain ⟨D, hD⟩ : ∃ D, D = definedL sig rs := ⟨_, rfl⟩
    have HDf := hid (refDefined_any _ _ sig rs w1 (HS.out.kp (Kp.of_below B1.out)) (HR.out.kp (Kp.of_below B1.out)))
    have hofE : ofE13 sig rs = if 256 < (pairsL sig D rs).length then 2 else 0 := by unfold ofE13; rw [← HE.out, if_pos h0, hD]
    have hofL : ofE13 sig rs = 0 → ofL13 sig rs = pairsL sig D rs := fun h => by unfold ofL13; rw [if_pos h, hD]
    have hofN : ofE13 sig rs ≠ 0 → ofL13 sig rs = [] := fun h => by unfold ofL13; rw [if_neg h]
    rw [← hD] at HDf
    have HOE := hid hofE
    have HOL := hid hofL
    have HON := hid hofN
    have HRu : Hid (∀ r ∈ rs, ruleE sig r = 0) := (sys_right hB).2
    have hap := (ahead_parts (sys_right hB).1)
    have ha := sigE_ok hap.1
    have hsl := hap.2.1
    have HA := hid ha
    subst h0
    clear hofE hofL hofN hap hB ha hD
    go_wp2_with fail
    refine HDf.out.mono ?_
    rintro e w2 ⟨dv, rfl, hdv, hb2⟩
    have D2 := hid (below_step D1.out hb2)
    have B2 := hid (below_step B1.out hb2)
    obtain ⟨do', dc, rfl, _, _, _⟩ := Row.flat hdv
    have HI := hid fun (W : World) (c : Int) (hW : Below w2.heap.size w2 W) => refHas13_any _ D c W (hdv.kp (Kp.of_below hW))
    clear hb2 hdv x0 x1
    obtain ⟨x0, x1⟩ := HC.out w2 D2.out
    go_wp2
    go_loopw [8, 9] (fun lv iv wr => ∃ (k : Nat) (vs : List (Value × Value)) (L : List Rl), iv = .int .i64 k ∧ k ≤ rs.length ∧ L = pairsL sig D (rs.take k) ∧ Pa13 w2 wr lv vs L ∧ L.length ≤ 256) (fun _ iv _ => rs.length - (intOf iv).toNat)
    case atStart => exact ⟨0, [], [], rfl, Nat.zero_le _, rfl, Pa13.nil (Below.refl _ _), by simp⟩
    case round =>
      obtain ⟨k, vs, L, rfl, hk, hL, hpa, hle⟩ := hrel
      have HL := hid hL
      have HP := hid hpa
      have CB := hid (below_step B2.out hpa.bel)
      clear hL hpa x0 x1
      obtain ⟨y0, y1⟩ := HC.out wr (below_step D2.out HP.out.bel)
      by_cases hlt : k < rs.length
      · obtain ⟨g, off, l, r, a1, c1, a2, c2, rfl, hm, hc0, hc1, hi1, hi2, hl1, hl2⟩ := HR.out.at hlt
        have HC0 := hid hc0
        have hc1 := (Kp.of_below CB.out).cell _ _ hc1
        have hrp := rule_parts (HRu.out _ (List.mem_of_getElem? hm))
        have HI1 := hid hi1
        have HI2 := hid hi2
        obtain ⟨ao, cap, rfl, _, _⟩ := HP.out.shape
        have HRp := hid hrp
        have hat := pairsL_at (sig := sig) (D := D) hm
        rw [← HL.out] at hat
        have HAt := hid hat
        have hr9 : r.length ≤ 512 := hrp.2.2.2.1
        clear hm hi1 hi2 hrp hat hc0
        go_wp2
        go_loopw [8, 11] (fun lv jv wx => ∃ (j : Nat) (vs' : List (Value × Value)) (M : List Rl), jv = .int .i64 j ∧ j ≤ r.length ∧ M = L ++ pairsK sig D (l, r) j ∧ Pa13 w2 wx lv vs' M ∧ M.length ≤ 256) (fun _ jv _ => r.length - (intOf jv).toNat)
        case atStart => exact ⟨0, vs, L, rfl, Nat.zero_le _, by rw [show pairsK sig D (l, r) 0 = [] from rfl, List.append_nil], HP.out, hle⟩
        case round =>
          obtain ⟨j, vs', M, rfl, hj, hM, hpx, hlx⟩ := hrel
          have HM := hid hM
          have HX := hid hpx
          have CX := hid (below_step B2.out hpx.bel)
          obtain ⟨ax, cx, rfl, hax, hcx⟩ := HX.out.shape
          unfold maxLen at hcx
          clear hM hpx y0 y1 hc1
          by_cases hjl : j < r.length
          · obtain ⟨gr, orr, c, rfl, hc, hcx2, _, _⟩ := (HI2.out.kp (Kp.of_below CX.out)).at hjl
            obtain ⟨bD, hbD⟩ : ∃ bD, bD = decide (c ∈ D) := ⟨_, rfl⟩
            have HIc := hid (HI.out wr c HX.out.bel)
            rw [← hbD] at HIc
            have HBD := hid hbD
            have HCc := hid hc
            clear hc hbD
            go_wp2_with fail
            refine HIc.out.mono ?_
            rintro e wy ⟨rfl, hwy⟩
            have hwz := hwy.symm
            subst hwz
            clear hwy hcx2
            cases bD
            · have hno : c ∉ D := by have := HBD.out; simpa using this.symm
              have HN := hid (pairsK_no (sig := sig) (r := (l, r)) HCc.out hno)
              clear hno
              go_wp2
              go_roundw
              case rel => exact ⟨j + 1, vs', M, by go_num, by omega, by rw [HN.out]; exact HM.out, HX.out, hlx⟩
              case measure => simp only [intOf]; omega
            · have hye : c ∈ D := by have := HBD.out; simpa using this.symm
              have HN := hid (pairsK_yes (sig := sig) (r := (l, r)) HCc.out hye)
              clear hye
              by_cases hfu : M.length = 256
              · have HE2 : Hid (ofE13 sig rs = 2) := by
                  show _ = _
                  have h1 := HAt.out.2
                  have h2 := pairsK_mono (sig := sig) (D := D) (r := (l, r)) (k := j + 1) (n := r.length) (by omega)
                  have h3 := congrArg List.length HM.out
                  rw [HN.out, List.length_append] at h2
                  rw [List.length_append] at h3
                  simp only [List.length_singleton] at h2
                  rw [HOE.out, if_pos (by omega)]
                have hf1 : (((M.length : Nat) : Int) == 256) = true := by rw [hfu]; rfl
                go_wp2
                go_ret2
                exact ⟨.slice none 0 0, [], congrArg (fun x => Ending.returned (.tuple #[.slice none 0 0, .int .i64 x])) HE2.out.symm, by rw [HON.out (by rw [HE2.out]; decide)]; exact Pa13.nil CX.out⟩
              · have hf1 : (((M.length : Nat) : Int) == 256) = false := by rw [beq_eq_false_iff_ne]; omega
                -- R:of
                obtain ⟨q, hq1, hq2⟩ := part_here HRp.out.2.1 hjl
                obtain ⟨u, hu⟩ : ∃ X, X = (r.drop j).take (fstN sig (r.drop j)) := ⟨_, rfl⟩
                have hN := HN.out
                try dsimp only at hN hq1 hq2
                rw [← hu] at hq1 hq2 hN
                have htk : (r.take j).length = j := by rw [List.length_take]; omega
                have hdr : r.drop j = u ++ q := by have h9 := congrArg (List.drop j) hq1; rw [List.drop_left' htk] at h9; exact h9
                have hfn : firstT sig 1 0 (r.drop j) = ((u.length : Int), 0) := by rw [hdr]; exact first_right hq2 q
                have hul : j + u.length ≤ r.length := by have h9 := congrArg List.length hdr; rw [List.length_drop, List.length_append] at h9; omega
                have hu5 : u.length ≤ 512 := by omega
                have htu : (r.drop j).take u.length = u := by rw [hdr, List.take_left]
                have HM1 := hid fun (Z : World) (hZ : Below w.heap.size w Z) => refMarked13_any _ sig l Z (HI1.out.kp (Kp.of_below hZ)) (row_posS (term_parts HRp.out.1).2) (by have h9 : l.length ≤ 512 := HRp.out.2.2.1; omega) (fun c hc => by have := code_small HA.out (term_parts HRp.out.1).2 c hc; omega) (by omega)
                have HEn := hid fun (Z : World) (hZ : Below w.heap.size w Z) => refEnd_any _ _ sig r j u.length Z (HS.out.kp (Kp.of_below hZ)) (HI2.out.kp (Kp.of_below hZ)) HA.out (by omega) hfn
                have hrc2 : r.length ≤ c2 := by obtain ⟨_, _, e9, h9, _⟩ := Row.flat HI2.out; cases e9; exact h9
                have HM2 := hid fun (Z : World) (hZ : Below w.heap.size w Z) => refMarked13_any (.slice (some ⟨gr, orr + j, none⟩) u.length (c2 - j)) sig u Z (by have h9 := (HI2.out.kp (Kp.of_below hZ)).mid hjl hul; rw [htu] at h9; exact h9) (row_posS hq2) (by omega) (fun c hc => by have := code_small HA.out hq2 c hc; omega) (by omega)
                have HNu := hid hN
                have hck : ¬ c2 = j := by omega
                have hkc : j + u.length ≤ c2 := by omega
                have hkc2 : j ≤ j + u.length := by omega
                clear hN hq1 hq2 hu htk hdr hfn htu HN
                have hK0 : ∀ {Z : World}, Below w2.heap.size w2 Z → ((Z.cell? ⟨w.heap.size, 0, none⟩ = some (.slice so sig.length sc) ∧ Z.cell? ⟨w.heap.size, 1, none⟩ = some (.slice (some ⟨g, off, none⟩) rs.length rc)) ∧ Z.cell? ⟨g, off + k * 2, none⟩ = some (.slice a1 l.length c1)) := fun hZ => ⟨HC.out _ (below_step D2.out hZ), (Kp.of_below (below_step B2.out hZ)).cell _ _ HC0.out⟩
                go_upto_region 17 with fail
                have hS := hK0 (below_step HX.out.bel (drawn_below1 wr))
                refine wp_region_held_drew (S := fun w' => ((w'.cell? ⟨w.heap.size, 0, none⟩ = some (.slice so sig.length sc) ∧ w'.cell? ⟨w.heap.size, 1, none⟩ = some (.slice (some ⟨g, off, none⟩) rs.length rc)) ∧ w'.cell? ⟨g, off + k * 2, none⟩ = some (.slice a1 l.length c1))) (by kernel_rfl) hS (fun _ => ?_)
                obtain ⟨z0, hz0⟩ : ∃ X, X = wr.drew := ⟨_, rfl⟩
                have b0 : Below wr.heap.size wr z0 := by rw [hz0]; exact drawn_below1 _
                rw [← hz0] at hS ⊢
                clear hz0
                refine wpAnyH_take (i := 0) (v := .slice ax M.length cx) rfl (by kernel_rfl) (by kernel_rfl) (by kernel_rfl) (fun _ _ _ h => h) (Or.inl ⟨by kernel_rfl, fun w' h => by go_simp⟩) hS ?_
                (try simp only [Act.put]); (try simp only [List.setIfInBounds_toArray]); (try simp only [List.set_cons_zero, List.set_cons_succ])
                refine wpAnyH_take (i := 1) (v := .pointer (some ⟨w.heap.size, 1, none⟩)) rfl (by kernel_rfl) (by kernel_rfl) (by kernel_rfl) (fun _ _ _ h => h) (Or.inl ⟨by kernel_rfl, fun w' h => by go_simp⟩) hS ?_
                (try simp only [Act.put]); (try simp only [List.setIfInBounds_toArray]); (try simp only [List.set_cons_zero, List.set_cons_succ])
                refine wpAnyH_take (i := 2) (v := .slice (some ⟨g, off, none⟩) rs.length rc) rfl (by kernel_rfl) (by kernel_rfl) (by kernel_rfl) (fun _ _ _ h => h) (Or.inl ⟨by kernel_rfl, fun w' h => by have hh0 := h.1.2; go_simp⟩) hS ?_
                (try simp only [Act.put]); (try simp only [List.setIfInBounds_toArray]); (try simp only [List.set_cons_zero, List.set_cons_succ])
                refine wpAnyH_take (i := 3) (v := .int .i64 (k : Int)) rfl (by kernel_rfl) (by kernel_rfl) (by kernel_rfl) (fun _ _ _ h => h) (Or.inl ⟨by kernel_rfl, fun w' h => by go_simp⟩) hS ?_
                (try simp only [Act.put]); (try simp only [List.setIfInBounds_toArray]); (try simp only [List.set_cons_zero, List.set_cons_succ])
                refine wpAnyH_take (i := 4) (v := .pointer (some ⟨g, off + k * 2, none⟩)) rfl (by kernel_rfl) (by kernel_rfl) (by kernel_rfl) (fun _ _ _ h => h) (Or.inl ⟨by kernel_rfl, fun w' h => by go_simp⟩) hS ?_
                (try simp only [Act.put]); (try simp only [List.setIfInBounds_toArray]); (try simp only [List.set_cons_zero, List.set_cons_succ])
                refine wpAnyH_take (i := 5) (v := .pointer (some ⟨g, off + k * 2, none⟩)) rfl (by kernel_rfl) (by kernel_rfl) (by kernel_rfl) (fun _ _ _ h => h) (Or.inl ⟨by kernel_rfl, fun w' h => by go_simp⟩) hS ?_
                (try simp only [Act.put]); (try simp only [List.setIfInBounds_toArray]); (try simp only [List.set_cons_zero, List.set_cons_succ])
                refine wpAnyH_take (i := 6) (v := .slice a1 l.length c1) rfl (by kernel_rfl) (by kernel_rfl) (by kernel_rfl) (fun _ _ _ h => h) (Or.inl ⟨by kernel_rfl, fun w' h => by have hh0 := h.2; go_simp⟩) hS ?_
                (try simp only [Act.put]); (try simp only [List.setIfInBounds_toArray]); (try simp only [List.set_cons_zero, List.set_cons_succ])
                refine wpAnyH_take (i := 7) (v := .int .i64 (sig.length : Int)) rfl (by kernel_rfl) (by kernel_rfl) (by kernel_rfl) (fun _ _ _ h => h) (Or.inl ⟨by kernel_rfl, fun w' h => by go_simp⟩) hS ?_
                (try simp only [Act.put]); (try simp only [List.setIfInBounds_toArray]); (try simp only [List.set_cons_zero, List.set_cons_succ])
                refine wpAnyH_take (i := 9) (v := .slice (some ⟨gr, orr, none⟩) r.length c2) rfl (by kernel_rfl) (by kernel_rfl) (by kernel_rfl) (fun _ _ _ h => h) (Or.inl ⟨by kernel_rfl, fun w' h => by go_simp⟩) hS ?_
                (try simp only [Act.put]); (try simp only [List.setIfInBounds_toArray]); (try simp only [List.set_cons_zero, List.set_cons_succ])
                refine wpAnyH_take (i := 10) (v := .int .i64 (j : Int)) rfl (by kernel_rfl) (by kernel_rfl) (by kernel_rfl) (fun _ _ _ h => h) (Or.inl ⟨by kernel_rfl, fun w' h => by go_simp⟩) hS ?_
                (try simp only [Act.put]); (try simp only [List.setIfInBounds_toArray]); (try simp only [List.set_cons_zero, List.set_cons_succ])
                refine wpAnyH_take (i := 11) (v := .pointer (some ⟨w.heap.size, 0, none⟩)) rfl (by kernel_rfl) (by kernel_rfl) (by kernel_rfl) (fun _ _ _ h => h) (Or.inl ⟨by kernel_rfl, fun w' h => by go_simp⟩) hS ?_
                (try simp only [Act.put]); (try simp only [List.setIfInBounds_toArray]); (try simp only [List.set_cons_zero, List.set_cons_succ])
                refine wpAnyH_take (i := 12) (v := .slice so sig.length sc) rfl (by kernel_rfl) (by kernel_rfl) (by kernel_rfl) (fun _ _ _ h => h) (Or.inl ⟨by kernel_rfl, fun w' h => by have hh0 := h.1.1; go_simp⟩) hS ?_
                (try simp only [Act.put]); (try simp only [List.setIfInBounds_toArray]); (try simp only [List.set_cons_zero, List.set_cons_succ])
                refine wpAnyH_take (i := 13) (v := .slice (some ⟨gr, orr, none⟩) r.length c2) rfl (by kernel_rfl) (by kernel_rfl) (by kernel_rfl) (fun _ _ _ h => h) (Or.inl ⟨by kernel_rfl, fun w' h => by go_simp⟩) hS ?_
                (try simp only [Act.put]); (try simp only [List.setIfInBounds_toArray]); (try simp only [List.set_cons_zero, List.set_cons_succ])
                refine wpAnyH_take (i := 14) (v := .int .i64 (j : Int)) rfl (by kernel_rfl) (by kernel_rfl) (by kernel_rfl) (fun _ _ _ h => h) (Or.inl ⟨by kernel_rfl, fun w' h => by go_simp⟩) hS ?_
                (try simp only [Act.put]); (try simp only [List.setIfInBounds_toArray]); (try simp only [List.set_cons_zero, List.set_cons_succ])
                refine wpAnyH_take (i := 17) (v := .int .i64 (sig.length : Int)) rfl (by kernel_rfl) (by kernel_rfl) (by kernel_rfl) (fun _ _ _ h => h) (Or.inl ⟨by kernel_rfl, fun w' h => by go_simp⟩) hS ?_
                (try simp only [Act.put]); (try simp only [List.setIfInBounds_toArray]); (try simp only [List.set_cons_zero, List.set_cons_succ])
                refine wpAnyH_ready (rs := [8]) (by kernel_rfl) (by simp) (AllReadyH.cons rfl (fun K hK => ?_) AllReadyH.nil)
                go_simp
                refine (HM1.out z0 (below_step CX.out b0)).mono ?_
                rintro e z1 ⟨u1, rfl, o1, hb1⟩
                have b1 := below_step b0 hb1
                have k1 := hK0 (below_step HX.out.bel b1)
                refine hK.out _ _ k1 (fun _ => ?_)
                clear hK K hS
                have hS := k1
                clear k1
                (try simp only [Act.put]); (try simp only [List.setIfInBounds_toArray]); (try simp only [List.set_cons_zero, List.set_cons_succ])
                refine wpAnyH_ready (rs := [15]) (by kernel_rfl) (by simp) (AllReadyH.cons rfl (fun K hK => ?_) AllReadyH.nil)
                go_simp
                refine (HEn.out z1 (below_step CX.out b1)).mono ?_
                rintro e z9 ⟨rfl, hz9⟩
                have hz8 := hz9.symm
                subst hz8
                clear hz9
                have k5 := hS
                refine hK.out _ _ k5 (fun _ => ?_)
                clear hK K hS
                have hS := k5
                clear k5
                (try simp only [Act.put]); (try simp only [List.setIfInBounds_toArray]); (try simp only [List.set_cons_zero, List.set_cons_succ])
                refine wpAnyH_take (i := 16) (v := .slice (some ⟨gr, orr + j, none⟩) u.length (c2 - j)) rfl (by kernel_rfl) (by kernel_rfl) (by kernel_rfl) (fun _ _ _ h => h) (Or.inl ⟨by kernel_rfl, fun w' h => by go_simp; rw [if_pos (by omega), if_pos (by omega), show ((j : Int) + (u.length : Int)).toNat - j = u.length by omega]⟩) hS ?_
                (try simp only [Act.put]); (try simp only [List.setIfInBounds_toArray]); (try simp only [List.set_cons_zero, List.set_cons_succ])
                refine wpAnyH_ready (rs := [18]) (by kernel_rfl) (by simp) (AllReadyH.cons rfl (fun K hK => ?_) AllReadyH.nil)
                go_simp
                refine (HM2.out z1 (below_step CX.out b1)).mono ?_
                rintro e z2 ⟨u2, rfl, o2, hb2⟩
                have b2 := below_step b1 hb2
                have k2 := hK0 (below_step HX.out.bel b2)
                refine hK.out _ _ k2 (fun _ => ?_)
                clear hK K hS
                have hS := k2
                clear k2
                (try simp only [Act.put]); (try simp only [List.setIfInBounds_toArray]); (try simp only [List.set_cons_zero, List.set_cons_succ])
                obtain ⟨s1, d1, rfl, _, _⟩ := o1.shape
                obtain ⟨s2, d2, rfl, _, _⟩ := o2.shape
                refine wpAnyH_take (i := 19) (v := .agg #[.slice s1 (mkL sig l).length d1, .slice s2 (mkL sig u).length d2]) rfl (by kernel_rfl) (by kernel_rfl) (by kernel_rfl) (fun _ _ _ h => h) (Or.inl ⟨by kernel_rfl, fun w' h => by go_simp⟩) hS ?_
                (try simp only [Act.put]); (try simp only [List.setIfInBounds_toArray]); (try simp only [List.set_cons_zero, List.set_cons_succ])
                obtain ⟨lv4, z4, hr4, hp4, hg4, hn4⟩ := (HX.out.later b0).push 30 hb1 o1 hb2 o2 (by omega)
                have b3 := below_step b2 (below_alloc (.cells #[.slice s1 (mkL sig l).length d1, .slice s2 (mkL sig u).length d2] 38))
                have k4 := hK0 hp4.bel
                have hlM : (M ++ [(mkL sig l, mkL sig u)]).length ≤ 256 := by rw [List.length_append, List.length_singleton]; omega
                have HR4 := hid hr4
                have HP4 := hid hp4
                have HL4 := hid hlM
                clear hr4 hp4 hg4 hn4 hlM
                refine wpAnyH_ready (rs := [20]) (by kernel_rfl) (by simp) (AllReadyH.cons rfl (fun K hK => ?_) AllReadyH.nil)
                go_simp
                have k3 := hK0 (below_step HX.out.bel b3)
                refine hK.out _ _ k3 (fun _ => ?_)
                clear hK K hS
                have hS := k3
                clear k3
                (try simp only [Act.put]); (try simp only [List.setIfInBounds_toArray]); (try simp only [List.set_cons_zero, List.set_cons_succ])
                refine wpAnyH_ready (rs := [21]) (by kernel_rfl) (by simp) (AllReadyH.cons rfl (fun K hK => ?_) AllReadyH.nil)
                refine step_append13 (by kernel_rfl) _ _ 30 rfl _ _ rfl rfl HR4.out ?_
                refine hK.out _ _ k4 (fun _ => ?_)
                clear hK K hS
                have hS := k4
                clear k4
                (try simp only [Act.put]); (try simp only [List.setIfInBounds_toArray]); (try simp only [List.set_cons_zero, List.set_cons_succ])
                refine wpAnyH_take (i := 22) (v := lv4) rfl (by kernel_rfl) (by kernel_rfl) (by kernel_rfl) (fun _ _ _ h => h) (Or.inl ⟨by kernel_rfl, fun w' h => by go_simp⟩) hS ?_
                (try simp only [Act.put]); (try simp only [List.setIfInBounds_toArray]); (try simp only [List.set_cons_zero, List.set_cons_succ])
                refine wpAnyH_done (by kernel_rfl) ?_ _
                (try simp only [Act.put]); (try simp only [List.getElem_toArray]); (try simp only [List.getElem_cons_succ, List.getElem_cons_zero]); (try simp only [List.setIfInBounds_toArray]); (try simp only [List.set_cons_succ, List.set_cons_zero])
                clear hS
                go_wp2
                go_roundw
                case rel => exact ⟨j + 1, _, _, by go_num, by omega, by rw [HNu.out, HM.out, List.append_assoc], HP4.out, HL4.out⟩
                case measure => simp only [intOf]; omega
                -- E:of
          · have hjr : j = r.length := by omega
            have hdj : decide ((j : Int) < (r.length : Int)) = false := by rw [decide_eq_false_iff_not]; omega
            have HMn : Hid (M = pairsL sig D (rs.take (k + 1))) := by
              show _ = _
              rw [HAt.out.1, HM.out, hjr]
            clear hjr
            go_wp2
            go_roundw
            case rel => exact ⟨k + 1, vs', M, by go_num, by omega, HMn.out, HX.out, hlx⟩
            case measure => simp only [intOf]; omega
      · have hkr : k = rs.length := by omega
        have hdk : decide ((k : Int) < (rs.length : Int)) = false := by rw [decide_eq_false_iff_not]; omega
        have hLr := HL.out
        rw [hkr, List.take_length] at hLr
        have HE0 : Hid (ofE13 sig rs = 0) := by
          show _ = _
          rw [HOE.out, ← hLr, if_neg (by omega)]
        have HLr : Hid (ofL13 sig rs = L) := by
          show _ = _
          rw [HOL.out HE0.out, hLr]
        have HPm := hid (HP.out.mono B2.out)
        obtain ⟨ao, cap, rfl, _, _⟩ := HP.out.shape
        clear hkr hLr
        go_wp2
        go_ret2
        exact ⟨.slice ao L.length cap, vs, congrArg (fun x => Ending.returned (.tuple #[.slice ao L.length cap, .int .i64 x])) HE0.out.symm, by rw [HLr.out]; exact HPm.out⟩
  · have hne : (E != 0) = true := by rw [bne_iff_ne]; exact h0
    have HEe : Hid (ofE13 sig rs = E) := by
      show _ = _
      unfold ofE13
      rw [← HE.out, if_neg h0]
    have HLe : Hid (ofL13 sig rs = []) := by
      show _ = _
      unfold ofL13
      rw [HEe.out, if_neg h0]
    clear h0
    go_wp2
    go_ret2
    exact ⟨.slice none 0 0, [], congrArg (fun x => Ending.returned (.tuple #[.slice none 0 0, .int .i64 x])) HEe.out.symm, by rw [HLe.out]; exact Pa13.nil B1.out⟩

end Go.Proofs.YtoapgbaibpkckaaGreatDoor

/- PairsOf: its walk. -/
namespace Go.Proofs.YtoapgbaibpkckaaGreatDoor
open Go.RowKit Go.Maps Go.BigFrame

theorem own_spl13 {w w' : World} {b T : Nat} {e : TypeId} {s n : Nat} {v : Value} {xs : List Value} (h : w.ownsRow T e s v n xs) (hs : Spl b T w w') : w'.ownsRow T e s v n xs := by
  refine ⟨h.1, ?_⟩
  rcases h.2 with h | ⟨g, cap, cur, rfl, hb, hgg, r⟩
  · exact .inl h
  · exact .inr ⟨g, cap, cur, rfl, hb, (hs.block g (Array.getElem?_eq_some_iff.1 hgg).1 (.inr hb)).trans hgg, r⟩

theorem below_spl13 {w w6 w' : World} {b T : Nat} (h : Below w.heap.size w w6) (hs : Spl b T w6 w') (hb : w.heap.size ≤ b) : Below w.heap.size w w' :=
  ⟨hs.os.trans h.os, hs.tape.trans h.tape, hs.output.trans h.output, Nat.le_trans h.size hs.size, fun k hk => (hs.block k (Nat.lt_of_lt_of_le hk h.size) (.inl (by omega))).trans (h.block k hk)⟩

/-- Read as a list of rules where only blocks below its own were spoilt. -/
theorem Pa13.ruSpl {w0 w w' : World} {b : Nat} {v : Value} {vs : List (Value × Value)} {l : List Rl} (h : Pa13 w0 w v vs l) (hs : Spl b w0.heap.size w w') (hl : ∀ r ∈ l, r.1.length ≤ 1048576 ∧ r.2.length ≤ 1048576) : RU w' v l := by
  have hrow := own_spl13 h.row hs
  have hown : ∀ (i : Nat) (u : Value) (xs : List Int), (flat13 vs l)[i]? = some (u, xs) → OwI w' w0.heap.size u xs := fun i u xs hi => ⟨(h.own.own i u xs hi).1, own_spl13 (h.own.own i u xs hi).2 hs⟩
  rcases hrow.2 with ⟨rfl, h0⟩ | ⟨g, cap, cur, rfl, hb, hg, hc, hm, hs2, ht⟩
  · obtain rfl : l = [] := List.eq_nil_of_length_eq_zero h0
    exact Row.nil (by simp [maxLen])
  · refine ⟨_, cap, rfl, hc, hm, fun _ => ⟨g, 0, rfl, (Array.getElem?_eq_some_iff.1 hg).1, fun k r hk => ?_⟩⟩
    have hlt := (List.getElem?_eq_some_iff.1 hk).1
    have hlv : k < vs.length := by rw [h.len]; exact hlt
    obtain ⟨q1, q2⟩ := prC_at vs k vs[k] (List.getElem?_eq_getElem hlv)
    obtain ⟨f1, f2⟩ := flat13_at (List.getElem?_eq_getElem hlv) hk
    obtain ⟨b1, b2⟩ := hl r (List.mem_of_getElem? hk)
    refine ⟨by omega, by omega, vs[k].1, vs[k].2, ?_, ?_, (hown _ _ _ f1).is, (hown _ _ _ f2).is⟩
    · rw [Nat.zero_add, World.ownsRow.cellAt hrow (k * 2) (by omega)]
      exact q1
    · rw [Nat.zero_add, World.ownsRow.cellAt hrow (k * 2 + 1) (by omega)]
      exact q2

/-- What is needed to spoil the rows of such a list. -/
theorem Pa13.spoil {w0 w w' : World} {ao : Option Addr} {n c : Nat} {vs : List (Value × Value)} {l : List Rl} (h : Pa13 w0 w (.slice ao n c) vs l) (hb : Below w.heap.size w w') {i : Nat} {r : Rl} (hi : l[i]? = some r) :
    ∃ ga o1 c1 o2 c2, ao = some ⟨ga, 0, none⟩ ∧ Shp w' ga 38 (c * 2) ∧ w'.cell? ⟨ga, i * 2, none⟩ = some (.slice o1 r.1.length c1) ∧ w'.cell? ⟨ga, i * 2 + 1, none⟩ = some (.slice o2 r.2.length c2) ∧ c1 ≤ maxLen ∧ c2 ≤ maxLen ∧ r.1.length ≤ c1 ∧ r.2.length ≤ c2 ∧
      RowS w' w0.heap.size w.heap.size 3 (.slice o1 r.1.length c1) r.1.length ∧ RowS w' w0.heap.size w.heap.size 3 (.slice o2 r.2.length c2) r.2.length := by
  have hlt := (List.getElem?_eq_some_iff.1 hi).1
  have hlv : i < vs.length := by rw [h.len]; exact hlt
  obtain ⟨q1, q2⟩ := prC_at vs i vs[i] (List.getElem?_eq_getElem hlv)
  obtain ⟨f1, f2⟩ := flat13_at (List.getElem?_eq_getElem hlv) hi
  have r1 := RowS.of (h.own.own _ _ _ f1).2 hb
  have r2 := RowS.of (h.own.own _ _ _ f2).2 hb
  obtain ⟨o1, c1, e1, l1, m1⟩ := r1.form
  obtain ⟨o2, c2, e2, l2, m2⟩ := r2.form
  rw [e1] at r1 q1
  rw [e2] at r2 q2
  have hrow := ownsRow_later h.row hb
  rcases hrow.2 with ⟨_, h0⟩ | ⟨g, cap, cur, hv, hbg, hg, hc, hm, hs2, ht⟩
  · omega
  · cases hv
    refine ⟨g, o1, c1, o2, c2, rfl, ⟨cur, hg, hs2⟩, ?_, ?_, m1, m2, l1, l2, r1, r2⟩
    · rw [World.ownsRow.cellAt hrow (i * 2) (by omega)]
      exact q1
    · rw [World.ownsRow.cellAt hrow (i * 2 + 1) (by omega)]
      exact q2

theorem of13_few {sig : List Sy} {rs : List Rl} : ∀ r ∈ ofL13 sig rs, r.1.length ≤ 1048576 ∧ r.2.length ≤ 1048576 := fun r hr => by
  unfold ofL13 ofE13 at hr
  by_cases h0 : (sysE sig rs).1 = 0
  · have hs : sysB sig rs = true := by unfold sysB; simp [h0]
    have h5 := pairs_few (D := definedL sig rs) (sig := sig) (rs := rs) (fun r hr => by have := rule_parts ((sys_right hs).2 r hr); exact ⟨this.2.2.1, this.2.2.2.1⟩)
    have hm : r ∈ pairsL sig (definedL sig rs) rs := by
      rw [if_pos h0] at hr
      split at hr
      · simp at hr
      · simpa using hr
    have := h5 r hm
    omega
  · rw [if_neg h0, if_neg h0] at hr
    simp at hr

set_option maxRecDepth 100000 in
set_option maxHeartbeats 3200000 in
theorem pairsOf_any (sv rv : Value) (sig : List Sy) (rs : List Rl) (w : World) (hs : Sg w sv sig) (hr : RU w rv rs) (hT : Tabs w) :
    Calls Tryz.prog 4 #[.agg #[sv, rv]] w fun e w' => e = .returned (.bool true) ∧ Below w.heap.size w w' := by
  obtain ⟨so, sc, rfl, hso, hsc, _⟩ := Row.flat hs
  obtain ⟨ro, rc, rfl, hro, hrc, _⟩ := Row.flat hr
  have HS := hid hs
  have HR := hid hr
  have HT := hid hT
  clear hs hr hT hso hsc hro hrc
  obtain ⟨w0, hw0⟩ : ∃ X, X = w.alloc (.cells #[.slice so sig.length sc, .slice ro rs.length rc] 32) := ⟨_, rfl⟩
  have C0 : Hid (Below w.heap.size w w0) := by rw [hw0]; exact below_alloc _
  have HC : Hid (∀ W, Below w0.heap.size w0 W → W.cell? ⟨w.heap.size, 0, none⟩ = some (.slice so sig.length sc) ∧ W.cell? ⟨w.heap.size, 1, none⟩ = some (.slice ro rs.length rc)) := fun W hW => by
    have hk := Kp.of_below hW
    rw [hw0] at hk
    exact ⟨hk.cell _ _ (cell_new rfl), hk.cell _ _ (cell_new rfl)⟩
  obtain ⟨E, hE⟩ : ∃ E, E = ofE13 sig rs := ⟨_, rfl⟩
  obtain ⟨L, hL⟩ : ∃ L, L = ofL13 sig rs := ⟨_, rfl⟩
  have HFew : Hid (∀ r ∈ L, r.1.length ≤ 1048576 ∧ r.2.length ≤ 1048576) := by rw [hL]; exact of13_few
  have HEx : Hid (∀ W, Below w.heap.size w W → Calls Tryz.prog 12 #[.agg #[.slice so sig.length sc, .slice ro rs.length rc]] W fun e w' => ∃ v vs, e = .returned (.tuple #[v, .int .i64 E]) ∧ Pa13 W w' v vs L) := fun W hW => by
    rw [hE, hL]
    exact of13_any _ _ sig rs W (HS.out.kp (Kp.of_below hW)) (HR.out.kp (Kp.of_below hW)) (HT.out.below hW)
  have HRe : Hid (∀ W, Below w.heap.size w W → Calls Tryz.prog 13 #[.agg #[.slice so sig.length sc, .slice ro rs.length rc]] W fun e w' => ∃ v vs, e = .returned (.tuple #[v, .int .i64 E]) ∧ Pa13 W w' v vs L) := fun W hW => by
    rw [hE, hL]
    exact refOf13_any _ _ sig rs W (HS.out.kp (Kp.of_below hW)) (HR.out.kp (Kp.of_below hW))
  clear hE hL
  go_enter Tryz.func4, Tryz.ntmps4
  go_upto_region 1 with fail
  rw [← hw0]
  clear hw0
  go_wp2_with fail
  refine (shown13_any w0 (HT.out.below C0.out)).mono ?_
  rintro e w1 ⟨rfl, hb1⟩
  have B1 := hid (below_step C0.out hb1)
  have D1 := hid hb1
  obtain ⟨x0, x1⟩ := HC.out w1 hb1
  clear hb1
  go_wp2_with fail
  refine (HEx.out w1 B1.out).mono ?_
  rintro e w2 ⟨va, vsa, rfl, oa⟩
  have B2 := hid (below_step B1.out oa.bel)
  have D2 := hid (below_step D1.out oa.bel)
  have HA := hid oa
  obtain ⟨ao, ac, rfl, hla, hma⟩ := oa.shape
  unfold maxLen at hma
  clear oa x0 x1
  obtain ⟨x0, x1⟩ := HC.out w2 D2.out
  go_wp2_with fail
  refine (HRe.out w2 B2.out).mono ?_
  rintro e w3 ⟨vb, vsb, rfl, ob⟩
  have B3 := hid (below_step B2.out ob.bel)
  have D3 := hid (below_step D2.out ob.bel)
  have K3 := hid ob.bel
  have HB := hid ob
  obtain ⟨bo, bc, rfl, _, _⟩ := ob.shape
  clear ob x0 x1
  have HRa : Hid (RU w3 (.slice ao L.length ac) L) := (HA.out.ru HFew.out).kp (Kp.of_below K3.out)
  have HRb : Hid (RU w3 (.slice bo L.length bc) L) := HB.out.ru HFew.out
  go_wp2_with fail
  refine (sameRules13_any _ _ L L w3 HRa.out HRb.out).mono ?_
  rintro e w6 ⟨rfl, hb6⟩
  rw [decide_eq_true rfl]
  have K6 := hid (below_step K3.out hb6)
  have HB6 := hid (HB.out.later hb6)
  have B6 := hid (below_step B3.out hb6)
  have D6 := hid (below_step D3.out hb6)
  clear hb6
  have HSp0 : Hid (∀ (i : Nat) (r : Rl), L[i]? = some r → ∃ ga o1 c1 o2 c2, ao = some ⟨ga, 0, none⟩ ∧ Shp w6 ga 38 (ac * 2) ∧ w6.cell? ⟨ga, i * 2, none⟩ = some (.slice o1 r.1.length c1) ∧ w6.cell? ⟨ga, i * 2 + 1, none⟩ = some (.slice o2 r.2.length c2) ∧ c1 ≤ maxLen ∧ c2 ≤ maxLen ∧ r.1.length ≤ c1 ∧ r.2.length ≤ c2 ∧
      RowS w6 w1.heap.size w2.heap.size 3 (.slice o1 r.1.length c1) r.1.length ∧ RowS w6 w1.heap.size w2.heap.size 3 (.slice o2 r.2.length c2) r.2.length) := fun i r hi => HA.out.spoil K6.out hi
  have HLow : Hid (w0.heap.size ≤ w1.heap.size ∧ w.heap.size ≤ w1.heap.size) := ⟨D1.out.size, B1.out.size⟩
  clear HA HRa HRb HB K3 B3 K6 D1 D2 D3
  go_wp2
  go_loopw [9] (fun iv wr => ∃ i : Nat, i ≤ L.length ∧ iv = .int .i64 i ∧ Spl w1.heap.size w2.heap.size w6 wr ∧ ∀ ga, ao = some ⟨ga, 0, none⟩ → wr.heap[ga]? = w6.heap[ga]?) (fun iv _ => L.length - (intOf iv).toNat)
  case atStart => exact ⟨0, Nat.zero_le _, rfl, Spl.refl _ _ _, fun _ _ => rfl⟩
  case round =>
    obtain ⟨i, hi, rfl, hsp, hcs⟩ := hrel
    have HSp := hid hsp
    have HCs := hid hcs
    clear hsp hcs
    by_cases hil : i < L.length
    · obtain ⟨r, hr⟩ : ∃ r, L[i]? = some r := ⟨_, List.getElem?_eq_getElem hil⟩
      obtain ⟨ga, o1, c1, o2, c2, rfl, hshp, y1, y2, m1, m2, l1, l2, r1, r2⟩ := HSp0.out i r hr
      unfold maxLen at m1 m2
      have HSA := hid hshp
      have HR1 := hid r1
      have HR2 := hid r2
      have HCe : Hid (∀ W : World, W.heap[ga]? = w6.heap[ga]? → W.cell? ⟨ga, i * 2, none⟩ = some (.slice o1 r.1.length c1) ∧ W.cell? ⟨ga, i * 2 + 1, none⟩ = some (.slice o2 r.2.length c2)) := fun W hW => by
        exact ⟨(cell_block hW _).trans y1, (cell_block hW _).trans y2⟩
      have HG0 := hid (HCs.out ga rfl)
      obtain ⟨n1, hn1⟩ : ∃ n, n = r.1.length := ⟨_, rfl⟩
      obtain ⟨n2, hn2⟩ : ∃ n, n = r.2.length := ⟨_, rfl⟩
      rw [← hn1] at HR1 HCe l1
      rw [← hn2] at HR2 HCe l2
      clear hr hshp r1 r2 y1 y2 HCs hn1 hn2
      go_wp2_with fail
      go_loopw [10] (fun kv wx => ∃ k : Nat, k ≤ n1 ∧ kv = .int .i64 k ∧ Spl w1.heap.size w2.heap.size w6 wx ∧ wx.heap[ga]? = w6.heap[ga]?) (fun kv _ => n1 - (intOf kv).toNat)
      case atStart => exact ⟨0, Nat.zero_le _, rfl, HSp.out, HG0.out⟩
      case round =>
        obtain ⟨k, hk, rfl, hspx, hgx⟩ := hrel
        have HSx := hid hspx
        have HGx := hid hgx
        obtain ⟨z1, _⟩ := HCe.out _ hgx
        by_cases hkn : k < n1
        · obtain ⟨g1, rfl, hg1, hg2, hsh⟩ := (HR1.out.spl hspx).at hkn
          obtain ⟨⟨u1, hu1⟩, hf1⟩ := hsh.cell (Nat.lt_of_lt_of_le hkn l1)
          have hne : ga ≠ g1 := (hspx.shape _ _ _ HSA.out).ne hsh (by decide)
          clear hspx hgx hsh
          go_wp2
          go_roundw
          case rel => exact ⟨k + 1, by omega, by go_num, HSx.out.setCell (.inl ⟨hg1, hg2⟩) _ _, by rw [heap_setCell_other _ _ _ _ hne]; exact HGx.out⟩
          case measure => simp [intOf]; omega
        · have hke : k = n1 := by omega
          clear hspx hgx
          go_wp2_with fail
          go_loopw [11] (fun kv wx => ∃ k : Nat, k ≤ n2 ∧ kv = .int .i64 k ∧ Spl w1.heap.size w2.heap.size w6 wx ∧ wx.heap[ga]? = w6.heap[ga]?) (fun kv _ => n2 - (intOf kv).toNat)
          case atStart => exact ⟨0, Nat.zero_le _, rfl, HSx.out, HGx.out⟩
          case round =>
            clear HSx HGx z1 hke hkn hk
            obtain ⟨k, hk, rfl, hspx, hgx⟩ := hrel
            have HSx := hid hspx
            have HGx := hid hgx
            obtain ⟨_, z1⟩ := HCe.out _ hgx
            by_cases hkn : k < n2
            · obtain ⟨g1, rfl, hg1, hg2, hsh⟩ := (HR2.out.spl hspx).at hkn
              obtain ⟨⟨u1, hu1⟩, hf1⟩ := hsh.cell (Nat.lt_of_lt_of_le hkn l2)
              have hne : ga ≠ g1 := (hspx.shape _ _ _ HSA.out).ne hsh (by decide)
              clear hspx hgx hsh
              go_wp2
              go_roundw
              case rel => exact ⟨k + 1, by omega, by go_num, HSx.out.setCell (.inl ⟨hg1, hg2⟩) _ _, by rw [heap_setCell_other _ _ _ _ hne]; exact HGx.out⟩
              case measure => simp [intOf]; omega
            · have hke : k = n2 := by omega
              clear hspx hgx
              go_wp2
              go_roundw
              case rel => exact ⟨i + 1, by omega, by go_num, HSx.out, fun gb e => by cases e; exact HGx.out⟩
              case measure => simp [intOf]; omega
    · have hd : decide ((i : Int) < (L.length : Int)) = false := by simpa using hil
      have B7 := hid (below_spl13 B6.out HSp.out HLow.out.2)
      have D7 := hid (below_spl13 D6.out HSp.out HLow.out.1)
      have HRb7 : Hid (RU _ (.slice bo L.length bc) L) := hid (HB6.out.ruSpl HSp.out HFew.out)
      obtain ⟨x0, x1⟩ := HC.out _ D7.out
      clear HSp HCs HSp0
      go_wp2_with fail
      refine (HEx.out _ B7.out).mono ?_
      rintro e w8 ⟨vc, vsc, rfl, oc⟩
      have B8 := hid (below_step B7.out oc.bel)
      have HRc8 := hid (oc.ru HFew.out)
      have HRb8 := hid (HRb7.out.kp (Kp.of_below oc.bel))
      obtain ⟨co, cc, rfl, _, _⟩ := oc.shape
      clear oc
      go_wp2_with fail
      refine (sameRules13_any _ _ L L w8 HRc8.out HRb8.out).mono ?_
      rintro e w9 ⟨rfl, hb9⟩
      rw [decide_eq_true rfl]
      have B9 := hid (below_step B8.out hb9)
      clear hb9
      go_wp2
      go_ret
      exact ⟨by simp, B9.out⟩

end Go.Proofs.YtoapgbaibpkckaaGreatDoor
