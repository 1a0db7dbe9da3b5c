/- The document's Variant of layer 5 walked. -/
import Derived.Test.YtcijfaijjpkdoacDoorOwn3
import Derived.Test.YtcijfaijjpkdoacDoorOwn10
import Derived.Test.YtcijfaijjpkdoacDoorOwn4
namespace Go.Proofs.YtcijfaijjpkdoacDoor
open Go.RowKit Go.Maps Go.BigFrame

/-- Variant's answer. -/
def vrB (sig : List Sy) (p q r s : List Int) : Bool := termsB sig [p, q, r, s] && decide (canL [p, q] = canL [r, s])

theorem vrB_iff {sig : List Sy} {p q r s : List Int} : vrB sig p q r s = true ↔ (termE sig p = 0 ∧ termE sig q = 0 ∧ termE sig r = 0 ∧ termE sig s = 0) ∧ p.length = r.length ∧ q.length = s.length ∧ Alike (p ++ q) (r ++ s) (metA [] (p ++ q)) (metA [] (r ++ s)) := by
  unfold vrB termsB
  rw [Bool.and_eq_true, decide_eq_true_eq, can_iff]
  simp

theorem vrB_no {sig : List Sy} {p q r s : List Int} (h : ¬ ((termE sig p = 0 ∧ termE sig q = 0 ∧ termE sig r = 0 ∧ termE sig s = 0) ∧ p.length = r.length ∧ q.length = s.length ∧ Alike (p ++ q) (r ++ s) (metA [] (p ++ q)) (metA [] (r ++ s)))) : vrB sig p q r s = false := by
  rw [Bool.eq_false_iff]
  exact fun h9 => h (vrB_iff.1 h9)

theorem size_allocV (w : World) (o : Obj) : (w.alloc o).heap.size = w.heap.size + 1 := World.size_alloc w o

theorem vars_at {x : List Int} {k : Nat} {v : Int} (h : (varsL x)[k]? = some v) : (metA [] x)[k]? = some (-1 - v) := by
  unfold varsL at h
  rw [List.getElem?_map] at h
  cases hm : (metA [] x)[k]? with
  | none => rw [hm] at h; simp at h
  | some c =>
    rw [hm] at h
    simp at h
    simp only [Option.some.injEq]
    omega

theorem vars_of {x : List Int} {k : Nat} {c : Int} (h : (metA [] x)[k]? = some c) : (varsL x)[k]? = some (-1 - c) := by
  unfold varsL
  rw [List.getElem?_map, h]
  rfl

set_option maxRecDepth 100000 in
set_option maxHeartbeats 3200000 in
theorem refVariant_any (sv v0 v1 v2 v3 : Value) (sig : List Sy) (p q r s : List Int) (w : World) (hs : Sg w sv sig) (i0 : Is w v0 p) (i1 : Is w v1 q) (i2 : Is w v2 r) (i3 : Is w v3 s) (l0 : (p.length + q.length) * 8 ≤ 140737488351232) (l2 : (r.length + s.length) * 8 ≤ 140737488351232) :
    Calls Tryd.prog 16 #[sv, .agg #[v0, v1], .agg #[v2, v3]] w fun e w' => e = .returned (.bool (vrB sig p q r s)) ∧ Below w.heap.size w w' := by
  obtain ⟨a0, c0, e0, _⟩ := i0.flatI
  subst e0
  obtain ⟨a1, c1, e1, _⟩ := i1.flatI
  subst e1
  obtain ⟨a2, c2, e2, _⟩ := i2.flatI
  subst e2
  obtain ⟨a3, c3, e3, _⟩ := i3.flatI
  subst e3
  have HS := hid hs
  have HI0 := hid i0
  have HI1 := hid i1
  have HI2 := hid i2
  have HI3 := hid i3
  clear hs i0 i1 i2 i3
  obtain ⟨w0, hw0⟩ : ∃ X, X = (w.alloc (.cells #[.slice a0 p.length c0, .slice a1 q.length c1] 34)).alloc (.cells #[.slice a2 r.length c2, .slice a3 s.length c3] 34) := ⟨_, rfl⟩
  have HB0 : Hid (Below w.heap.size w w0) := by rw [hw0]; exact below_step (below_alloc _) (below_alloc _)
  have HC : Hid (∀ W, Below w0.heap.size w0 W → (W.cell? ⟨w.heap.size, 0, none⟩ = some (.slice a0 p.length c0) ∧ W.cell? ⟨w.heap.size, 1, none⟩ = some (.slice a1 q.length c1)) ∧ W.cell? ⟨w.heap.size + 1, 0, none⟩ = some (.slice a2 r.length c2) ∧ W.cell? ⟨w.heap.size + 1, 1, none⟩ = some (.slice a3 s.length c3)) := fun W hW => by
    have hk := Kp.of_below hW
    rw [hw0] at hk
    have hk1 := (Kp.of_below (below_alloc (w := w.alloc (.cells #[.slice a0 p.length c0, .slice a1 q.length c1] 34)) (.cells #[.slice a2 r.length c2, .slice a3 s.length c3] 34))).trans hk
    rw [← size_allocV w (.cells #[.slice a0 p.length c0, .slice a1 q.length c1] 34)]
    exact ⟨⟨hk1.cell _ _ (cell_new rfl), hk1.cell _ _ (cell_new rfl)⟩, hk.cell _ _ (cell_new rfl), hk.cell _ _ (cell_new rfl)⟩
  have C0 : Hid (Below w0.heap.size w0 w0) := Below.refl _ _
  obtain ⟨R, hR⟩ : ∃ R, R = vrB sig p q r s := ⟨_, rfl⟩
  have HR := hid hR
  rw [← hR]
  clear hR
  go_enter Tryd.func16, Tryd.ntmps16
  go_wp2_with fail
  rw [← hw0]
  clear hw0
  refine (refCheck_any sv _ sig p w0 (HS.out.kp (Kp.of_below (below_step HB0.out C0.out))) (HI0.out.kp (Kp.of_below (below_step HB0.out C0.out))) (by omega)).mono ?_
  rintro e w1 ⟨rfl, hb1⟩
  have C1 := hid (below_step C0.out hb1)
  clear hb1
  by_cases h0 : termE sig p = 0
  · rw [h0]
    have E0 := hid h0
    clear h0
    obtain ⟨⟨x0, x1⟩, x2, x3⟩ := HC.out w1 C1.out
    go_wp2_with fail
    refine (refCheck_any sv _ sig q w1 (HS.out.kp (Kp.of_below (below_step HB0.out C1.out))) (HI1.out.kp (Kp.of_below (below_step HB0.out C1.out))) (by omega)).mono ?_
    rintro e w2 ⟨rfl, hb2⟩
    have C2 := hid (below_step C1.out hb2)
    clear hb2 x0 x1 x2 x3
    by_cases h1 : termE sig q = 0
    · rw [h1]
      have E1 := hid h1
      clear h1
      obtain ⟨⟨x0, x1⟩, x2, x3⟩ := HC.out w2 C2.out
      go_wp2_with fail
      refine (refCheck_any sv _ sig r w2 (HS.out.kp (Kp.of_below (below_step HB0.out C2.out))) (HI2.out.kp (Kp.of_below (below_step HB0.out C2.out))) (by omega)).mono ?_
      rintro e w3 ⟨rfl, hb3⟩
      have C3 := hid (below_step C2.out hb3)
      clear hb3 x0 x1 x2 x3
      by_cases h2 : termE sig r = 0
      · rw [h2]
        have E2 := hid h2
        clear h2
        obtain ⟨⟨x0, x1⟩, x2, x3⟩ := HC.out w3 C3.out
        go_wp2_with fail
        refine (refCheck_any sv _ sig s w3 (HS.out.kp (Kp.of_below (below_step HB0.out C3.out))) (HI3.out.kp (Kp.of_below (below_step HB0.out C3.out))) (by omega)).mono ?_
        rintro e w4 ⟨rfl, hb4⟩
        have C4 := hid (below_step C3.out hb4)
        clear hb4 x0 x1 x2 x3
        by_cases h3 : termE sig s = 0
        · rw [h3]
          have E3 := hid h3
          clear h3
          obtain ⟨⟨x0, x1⟩, x2, x3⟩ := HC.out w4 C4.out
          by_cases hpr : p.length = r.length
          · by_cases hqs : q.length = s.length
            · have hb1 : ((p.length : Int) != r.length) = false := by rw [bne_eq_false_iff_eq]; omega
              have hb2 : ((q.length : Int) != s.length) = false := by rw [bne_eq_false_iff_eq]; omega
              have HPr := hid hpr
              have HQs := hid hqs
              have C04 := hid (below_step HB0.out C4.out)
              clear hpr hqs
              have hS : Below w4.heap.size w4 w4.drew := (Below.refl _ _).drew
              have hS0 := below_step hS (below_alloc (w := w4.drew) (.cells #[] 3))
              obtain ⟨va, wa, hra, hoa, hga⟩ := copy_ints 28 (w := w4.drew.alloc (.cells #[] 3)) (base := w4.heap.size) (g := w4.heap.size) (empty_row (w := w4.drew) 3 (Nat.le_refl _)) (HI0.out.kp (Kp.of_below (below_step C04.out hS0))) hS0.size (by omega)
              have hka : Below w4.heap.size w4 wa := hS0.grown hga hS0.size (fun j hj => by cases hj; exact Nat.le_refl _)
              obtain ⟨vwX, wX, hrb, hob, hgb⟩ := join_ints 28 hoa (HI1.out.kp (Kp.of_below (below_step C04.out hka))) hka.size (by omega)
              have hkb : Below w4.heap.size w4 wX := hka.grown hgb hka.size (fun j hj => own_blk hoa.2 hj)
              have HRa := hid hra
              have HRb := hid hrb
              have HOwX := hid hob
              have HKwX := hid hkb
              have HKa := hid hka
              clear hra hrb hoa hob hga hgb hka hkb hS0
              go_upto_region 5 with fail
              refine wp_region_held_drew (S := fun w' => Below w4.heap.size w4 w') (by kernel_rfl) hS (fun _ => ?_)
              refine wpAnyH_take (i := 1) (v := .pointer (some ⟨w.heap.size, 0, none⟩)) rfl (by kernel_rfl) (by kernel_rfl) (by kernel_rfl) (fun _ _ _ h => h) (Or.inl ⟨by rfl, fun w' h => by go_simp⟩) hS ?_
              simp only [Act.put, List.setIfInBounds_toArray]
              refine wpAnyH_take (i := 2) (v := .slice a0 p.length c0) rfl (by kernel_rfl) (by kernel_rfl) (by kernel_rfl) (fun _ _ _ h => h) (Or.inl ⟨by rfl, fun w' h => by have hh := (Kp.of_below h).cell _ _ x0; go_simp⟩) hS ?_
              simp only [Act.put]
              refine wpAnyH_take (i := 4) (v := .pointer (some ⟨w.heap.size, 1, none⟩)) rfl (by kernel_rfl) (by kernel_rfl) (by kernel_rfl) (fun _ _ _ h => h) (Or.inl ⟨by rfl, fun w' h => by go_simp⟩) hS ?_
              simp only [Act.put]
              refine wpAnyH_take (i := 5) (v := .slice a1 q.length c1) rfl (by kernel_rfl) (by kernel_rfl) (by kernel_rfl) (fun _ _ _ h => h) (Or.inl ⟨by rfl, fun w' h => by have hh := (Kp.of_below h).cell _ _ x1; go_simp⟩) hS ?_
              simp only [Act.put]
              refine wpAnyH_ready (rs := [0]) (by kernel_rfl) (by simp) (AllReadyH.cons rfl (fun K hK => ?_) AllReadyH.nil)
              go_simp
              refine hK.out _ _ (below_step hS (below_alloc _)) (fun hSn => ?_)
              clear hK K hS
              refine wpAnyH_ready (rs := [3]) (by kernel_rfl) (by simp) (AllReadyH.cons rfl (fun K hK => ?_) AllReadyH.nil)
              refine step_append_run rfl _ _ 28 rfl _ _ rfl rfl HRa.out ?_
              refine hK.out _ _ HKa.out (fun hSm => ?_)
              clear hK K hSn
              simp only [Act.put, List.setIfInBounds_toArray]
              refine wpAnyH_ready (rs := [6]) (by kernel_rfl) (by simp) (AllReadyH.cons rfl (fun K hK => ?_) AllReadyH.nil)
              refine step_append_run rfl _ _ 28 rfl _ _ rfl rfl HRb.out ?_
              refine hK.out _ _ HKwX.out (fun hS => ?_)
              clear hK K hSm
              simp only [Act.put]
              refine wpAnyH_take (i := 7) (v := vwX) rfl (by kernel_rfl) (by kernel_rfl) (by kernel_rfl) (fun _ _ _ h => h) (Or.inl ⟨by rfl, fun w' h => by go_simp⟩) hS ?_
              simp only [Act.put]
              refine wpAnyH_done (by kernel_rfl) ?_ _
              clear hS HRa HRb HKa
              have C5 := hid (below_step C4.out HKwX.out)
              have C05 := hid (below_step HB0.out C5.out)
              clear x0 x1 x2 x3
              obtain ⟨⟨x0, x1⟩, x2, x3⟩ := HC.out wX C5.out
              have hS : Below wX.heap.size wX wX.drew := (Below.refl _ _).drew
              have hS0 := below_step hS (below_alloc (w := wX.drew) (.cells #[] 3))
              obtain ⟨va, wa, hra, hoa, hga⟩ := copy_ints 28 (w := wX.drew.alloc (.cells #[] 3)) (base := wX.heap.size) (g := wX.heap.size) (empty_row (w := wX.drew) 3 (Nat.le_refl _)) (HI2.out.kp (Kp.of_below (below_step C05.out hS0))) hS0.size (by omega)
              have hka : Below wX.heap.size wX wa := hS0.grown hga hS0.size (fun j hj => by cases hj; exact Nat.le_refl _)
              obtain ⟨vwY, wY, hrb, hob, hgb⟩ := join_ints 28 hoa (HI3.out.kp (Kp.of_below (below_step C05.out hka))) hka.size (by omega)
              have hkb : Below wX.heap.size wX wY := hka.grown hgb hka.size (fun j hj => own_blk hoa.2 hj)
              have HRa := hid hra
              have HRb := hid hrb
              have HOwY := hid hob
              have HKwY := hid hkb
              have HKa := hid hka
              clear hra hrb hoa hob hga hgb hka hkb hS0
              go_upto_region 6 with fail
              refine wp_region_held_drew (S := fun w' => Below wX.heap.size wX w') (by kernel_rfl) hS (fun _ => ?_)
              refine wpAnyH_take (i := 1) (v := .pointer (some ⟨w.heap.size + 1, 0, none⟩)) rfl (by kernel_rfl) (by kernel_rfl) (by kernel_rfl) (fun _ _ _ h => h) (Or.inl ⟨by rfl, fun w' h => by go_simp⟩) hS ?_
              simp only [Act.put]
              refine wpAnyH_take (i := 2) (v := .slice a2 r.length c2) rfl (by kernel_rfl) (by kernel_rfl) (by kernel_rfl) (fun _ _ _ h => h) (Or.inl ⟨by rfl, fun w' h => by have hh := (Kp.of_below h).cell _ _ x2; go_simp⟩) hS ?_
              simp only [Act.put]
              refine wpAnyH_take (i := 4) (v := .pointer (some ⟨w.heap.size + 1, 1, none⟩)) rfl (by kernel_rfl) (by kernel_rfl) (by kernel_rfl) (fun _ _ _ h => h) (Or.inl ⟨by rfl, fun w' h => by go_simp⟩) hS ?_
              simp only [Act.put]
              refine wpAnyH_take (i := 5) (v := .slice a3 s.length c3) rfl (by kernel_rfl) (by kernel_rfl) (by kernel_rfl) (fun _ _ _ h => h) (Or.inl ⟨by rfl, fun w' h => by have hh := (Kp.of_below h).cell _ _ x3; go_simp⟩) hS ?_
              simp only [Act.put]
              refine wpAnyH_ready (rs := [0]) (by kernel_rfl) (by simp) (AllReadyH.cons rfl (fun K hK => ?_) AllReadyH.nil)
              go_simp
              refine hK.out _ _ (below_step hS (below_alloc _)) (fun hSn => ?_)
              clear hK K hS
              refine wpAnyH_ready (rs := [3]) (by kernel_rfl) (by simp) (AllReadyH.cons rfl (fun K hK => ?_) AllReadyH.nil)
              refine step_append_run rfl _ _ 28 rfl _ _ rfl rfl HRa.out ?_
              refine hK.out _ _ HKa.out (fun hSm => ?_)
              clear hK K hSn
              simp only [Act.put, List.setIfInBounds_toArray]
              refine wpAnyH_ready (rs := [6]) (by kernel_rfl) (by simp) (AllReadyH.cons rfl (fun K hK => ?_) AllReadyH.nil)
              refine step_append_run rfl _ _ 28 rfl _ _ rfl rfl HRb.out ?_
              refine hK.out _ _ HKwY.out (fun hS => ?_)
              clear hK K hSm
              simp only [Act.put]
              refine wpAnyH_take (i := 7) (v := vwY) rfl (by kernel_rfl) (by kernel_rfl) (by kernel_rfl) (fun _ _ _ h => h) (Or.inl ⟨by rfl, fun w' h => by go_simp⟩) hS ?_
              simp only [Act.put]
              refine wpAnyH_done (by kernel_rfl) ?_ _
              clear hS HRa HRb HKa
              have C6 := hid (below_step C5.out HKwY.out)
              have C06 := hid (below_step HB0.out C6.out)
              have HX := hid (HOwX.out.later HKwY.out)
              have HY := HOwY
              clear HOwX HOwY x0 x1 x2 x3 hb1 hb2
              have hlen : (p ++ q).length = (r ++ s).length := by simp only [List.length_append]; have := HPr.out; have := HQs.out; omega
              have hxl : (p ++ q).length * 8 ≤ 140737488351232 := by rw [List.length_append]; exact l0
              have HRi : Hid (R = true ↔ Alike (p ++ q) (r ++ s) (metA [] (p ++ q)) (metA [] (r ++ s))) := by
                rw [HR.out, vrB_iff]
                exact ⟨fun h => h.2.2.2, fun h => ⟨⟨E0.out, E1.out, E2.out, E3.out⟩, HPr.out, HQs.out, h⟩⟩
              generalize p ++ q = X at HX HRi hlen hxl
              generalize r ++ s = Y at HY HRi hlen
              obtain ⟨xo, xc, hvx, hxc1, hxc2⟩ := HX.out.shape
              subst hvx
              obtain ⟨yo, yc, hvy, hyc1, hyc2⟩ := HY.out.shape
              subst hvy
              unfold maxLen at hxc2 hyc2
              have HLen := hid hlen
              have hyl : Y.length * 8 ≤ 140737488351232 := by omega
              clear HR HPr HQs E0 E1 E2 E3 hlen
              go_wp2
              go_loopw [9] (fun iv wr => ∃ k : Nat, k ≤ X.length ∧ iv = .int .i64 k ∧ (∀ (i : Nat) (a b : Int), i < k → X[i]? = some a → Y[i]? = some b → (0 ≤ a ∨ 0 ≤ b) → a = b) ∧ Below wY.heap.size wY wr) (fun iv _ => X.length - (intOf iv).toNat)
              case atStart => exact ⟨0, Nat.zero_le _, rfl, fun i a b hi => absurd hi (Nat.not_lt_zero _), Below.refl _ _⟩
              case round =>
                obtain ⟨k, hk, rfl, hco, hbl⟩ := hrel
                have HCo := hid hco
                have HBl := hid hbl
                clear hco
                by_cases hlt : k < X.length
                · obtain ⟨gx, ox, a, rfl, ha, hxa, _, _⟩ := (HX.out.is.kp (Kp.of_below hbl)).at hlt
                  obtain ⟨gy, oy, b, rfl, hb, hyb, _, _⟩ := (HY.out.is.kp (Kp.of_below hbl)).at (show k < Y.length by have := HLen.out; omega)
                  have hly : k < Y.length := by have := HLen.out; omega
                  have HNx : Hid ((0 ≤ a ∨ 0 ≤ b → a = b) → ∀ (i : Nat) (c d : Int), i < k + 1 → X[i]? = some c → Y[i]? = some d → (0 ≤ c ∨ 0 ≤ d) → c = d) := fun h9 i c d hi hc hd h0 => by
                    rcases Nat.lt_succ_iff_lt_or_eq.1 hi with h8 | h8
                    · exact HCo.out i c d h8 hc hd h0
                    · subst h8
                      rw [ha] at hc
                      rw [hb] at hd
                      cases hc
                      cases hd
                      exact h9 h0
                  have HNo : Hid ((0 ≤ a ∨ 0 ≤ b) → a ≠ b → R = false) := fun h9 h8 => by
                    rw [Bool.eq_false_iff]
                    intro h7
                    exact h8 ((HRi.out.1 h7).codes k a b ha hb h9)
                  clear ha hb hbl
                  by_cases hab : a = b
                  · subst hab
                    have haa : (a != a) = false := by simp
                    by_cases h0 : 0 ≤ a
                    · have hd0 : decide (0 ≤ a) = true := by simpa using h0
                      go_wp2_with fail
                      refine region_below (by kernel_rfl) (by kernel_rfl) ?_
                      (go_big_quiet_want; go_big_quiet_op; go_big_quiet_on)
                      (go_big_quiet_want; go_big_quiet_op; go_big_quiet_on)
                      go_big_quiet_want
                      refine ⟨.pointer (some ⟨gx, ox + k, none⟩), fun w' hw' => ?_, ?_⟩
                      · unfold Oper.quietAt; go_simp
                      simp only [Act.put, List.setIfInBounds_toArray, List.set_cons_zero, List.set_cons_succ]
                      go_big_quiet_on
                      go_big_quiet_want
                      refine ⟨.int .i64 a, fun w' hw' => ?_, ?_⟩
                      · have hh0 := (Kp.of_below hw').cell _ _ hxa; unfold Oper.quietAt; go_simp
                      simp only [Act.put, List.setIfInBounds_toArray, List.set_cons_zero, List.set_cons_succ]
                      go_big_quiet_on
                      go_big_quiet_want
                      refine ⟨.bool true, fun w' hw' => ?_, ?_⟩
                      · unfold Oper.quietAt; go_simp
                      simp only [Act.put, List.setIfInBounds_toArray, List.set_cons_zero, List.set_cons_succ]
                      go_big_quiet_on
                      (go_big_quiet_want; go_big_quiet_op; go_big_quiet_on)
                      go_big_quiet_skip
                      go_big_quiet_skip
                      go_big_quiet_skip
                      go_big_quiet_skip
                      go_big_quiet_skip
                      go_big_quiet_want
                      refine ⟨.bool true, fun w' hw' => ?_, ?_⟩
                      · unfold Oper.quietAt; go_simp
                      simp only [Act.put, List.setIfInBounds_toArray, List.set_cons_zero, List.set_cons_succ]
                      go_big_quiet_on
                      (go_big_quiet_want; go_big_quiet_op; go_big_quiet_on)
                      (go_big_quiet_want; go_big_quiet_op; go_big_quiet_on)
                      (go_big_quiet_want; go_big_quiet_op; go_big_quiet_on)
                      go_big_quiet_want
                      refine ⟨.pointer (some ⟨gx, ox + k, none⟩), fun w' hw' => ?_, ?_⟩
                      · unfold Oper.quietAt; go_simp
                      simp only [Act.put, List.setIfInBounds_toArray, List.set_cons_zero, List.set_cons_succ]
                      go_big_quiet_on
                      go_big_quiet_want
                      refine ⟨.int .i64 a, fun w' hw' => ?_, ?_⟩
                      · have hh0 := (Kp.of_below hw').cell _ _ hxa; unfold Oper.quietAt; go_simp
                      simp only [Act.put, List.setIfInBounds_toArray, List.set_cons_zero, List.set_cons_succ]
                      go_big_quiet_on
                      (go_big_quiet_want; go_big_quiet_op; go_big_quiet_on)
                      (go_big_quiet_want; go_big_quiet_op; go_big_quiet_on)
                      go_big_quiet_want
                      refine ⟨.pointer (some ⟨gy, oy + k, none⟩), fun w' hw' => ?_, ?_⟩
                      · unfold Oper.quietAt; go_simp
                      simp only [Act.put, List.setIfInBounds_toArray, List.set_cons_zero, List.set_cons_succ]
                      go_big_quiet_on
                      go_big_quiet_want
                      refine ⟨.int .i64 a, fun w' hw' => ?_, ?_⟩
                      · have hh0 := (Kp.of_below hw').cell _ _ hyb; unfold Oper.quietAt; go_simp
                      simp only [Act.put, List.setIfInBounds_toArray, List.set_cons_zero, List.set_cons_succ]
                      go_big_quiet_on
                      go_big_quiet_want
                      refine ⟨.bool false, fun w' hw' => ?_, ?_⟩
                      · unfold Oper.quietAt; go_simp
                      simp only [Act.put, List.setIfInBounds_toArray, List.set_cons_zero, List.set_cons_succ]
                      go_big_quiet_on
                      go_big_quiet_want
                      refine ⟨.bool false, fun w' hw' => ?_, ?_⟩
                      · unfold Oper.quietAt; go_simp
                      simp only [Act.put, List.setIfInBounds_toArray, List.set_cons_zero, List.set_cons_succ]
                      go_big_quiet_on
                      refine wpQuiet_nil ?_
                      intro w7 hb7
                      have HB7 := hid (below_step HBl.out hb7)
                      clear hb7 hxa hyb
                      go_wp2
                      go_roundw
                      case rel => exact ⟨k + 1, hlt, by go_num, HNx.out (by first | trivial | (intro _; rfl) | simp), HB7.out⟩
                      case measure => simp [intOf]; omega
                    · have hd0 : decide (0 ≤ a) = false := by simpa using h0
                      go_wp2_with fail
                      refine region_below (by kernel_rfl) (by kernel_rfl) ?_
                      (go_big_quiet_want; go_big_quiet_op; go_big_quiet_on)
                      (go_big_quiet_want; go_big_quiet_op; go_big_quiet_on)
                      go_big_quiet_want
                      refine ⟨.pointer (some ⟨gx, ox + k, none⟩), fun w' hw' => ?_, ?_⟩
                      · unfold Oper.quietAt; go_simp
                      simp only [Act.put, List.setIfInBounds_toArray, List.set_cons_zero, List.set_cons_succ]
                      go_big_quiet_on
                      go_big_quiet_want
                      refine ⟨.int .i64 a, fun w' hw' => ?_, ?_⟩
                      · have hh0 := (Kp.of_below hw').cell _ _ hxa; unfold Oper.quietAt; go_simp
                      simp only [Act.put, List.setIfInBounds_toArray, List.set_cons_zero, List.set_cons_succ]
                      go_big_quiet_on
                      go_big_quiet_want
                      refine ⟨.bool false, fun w' hw' => ?_, ?_⟩
                      · unfold Oper.quietAt; go_simp
                      simp only [Act.put, List.setIfInBounds_toArray, List.set_cons_zero, List.set_cons_succ]
                      go_big_quiet_on
                      (go_big_quiet_want; go_big_quiet_op; go_big_quiet_on)
                      (go_big_quiet_want; go_big_quiet_op; go_big_quiet_on)
                      (go_big_quiet_want; go_big_quiet_op; go_big_quiet_on)
                      go_big_quiet_want
                      refine ⟨.pointer (some ⟨gy, oy + k, none⟩), fun w' hw' => ?_, ?_⟩
                      · unfold Oper.quietAt; go_simp
                      simp only [Act.put, List.setIfInBounds_toArray, List.set_cons_zero, List.set_cons_succ]
                      go_big_quiet_on
                      go_big_quiet_want
                      refine ⟨.int .i64 a, fun w' hw' => ?_, ?_⟩
                      · have hh0 := (Kp.of_below hw').cell _ _ hyb; unfold Oper.quietAt; go_simp
                      simp only [Act.put, List.setIfInBounds_toArray, List.set_cons_zero, List.set_cons_succ]
                      go_big_quiet_on
                      go_big_quiet_want
                      refine ⟨.bool false, fun w' hw' => ?_, ?_⟩
                      · unfold Oper.quietAt; go_simp
                      simp only [Act.put, List.setIfInBounds_toArray, List.set_cons_zero, List.set_cons_succ]
                      go_big_quiet_on
                      go_big_quiet_want
                      refine ⟨.bool false, fun w' hw' => ?_, ?_⟩
                      · unfold Oper.quietAt; go_simp
                      simp only [Act.put, List.setIfInBounds_toArray, List.set_cons_zero, List.set_cons_succ]
                      go_big_quiet_on
                      (go_big_quiet_want; go_big_quiet_op; go_big_quiet_on)
                      go_big_quiet_skip
                      go_big_quiet_skip
                      go_big_quiet_skip
                      go_big_quiet_skip
                      go_big_quiet_skip
                      go_big_quiet_skip
                      go_big_quiet_skip
                      go_big_quiet_skip
                      go_big_quiet_skip
                      go_big_quiet_want
                      refine ⟨.bool false, fun w' hw' => ?_, ?_⟩
                      · unfold Oper.quietAt; go_simp
                      simp only [Act.put, List.setIfInBounds_toArray, List.set_cons_zero, List.set_cons_succ]
                      go_big_quiet_on
                      refine wpQuiet_nil ?_
                      intro w7 hb7
                      have HB7 := hid (below_step HBl.out hb7)
                      clear hb7 hxa hyb
                      go_wp2
                      go_roundw
                      case rel => exact ⟨k + 1, hlt, by go_num, HNx.out (by first | trivial | (intro _; rfl) | simp), HB7.out⟩
                      case measure => simp [intOf]; omega
                  · have haa : (a != b) = true := by rw [bne_iff_ne]; exact hab
                    by_cases h0 : 0 ≤ a
                    · have hd0 : decide (0 ≤ a) = true := by simpa using h0
                      have hrf := HNo.out (.inl h0) hab
                      go_wp2_with fail
                      refine region_below (by kernel_rfl) (by kernel_rfl) ?_
                      (go_big_quiet_want; go_big_quiet_op; go_big_quiet_on)
                      (go_big_quiet_want; go_big_quiet_op; go_big_quiet_on)
                      go_big_quiet_want
                      refine ⟨.pointer (some ⟨gx, ox + k, none⟩), fun w' hw' => ?_, ?_⟩
                      · unfold Oper.quietAt; go_simp
                      simp only [Act.put, List.setIfInBounds_toArray, List.set_cons_zero, List.set_cons_succ]
                      go_big_quiet_on
                      go_big_quiet_want
                      refine ⟨.int .i64 a, fun w' hw' => ?_, ?_⟩
                      · have hh0 := (Kp.of_below hw').cell _ _ hxa; unfold Oper.quietAt; go_simp
                      simp only [Act.put, List.setIfInBounds_toArray, List.set_cons_zero, List.set_cons_succ]
                      go_big_quiet_on
                      go_big_quiet_want
                      refine ⟨.bool true, fun w' hw' => ?_, ?_⟩
                      · unfold Oper.quietAt; go_simp
                      simp only [Act.put, List.setIfInBounds_toArray, List.set_cons_zero, List.set_cons_succ]
                      go_big_quiet_on
                      (go_big_quiet_want; go_big_quiet_op; go_big_quiet_on)
                      go_big_quiet_skip
                      go_big_quiet_skip
                      go_big_quiet_skip
                      go_big_quiet_skip
                      go_big_quiet_skip
                      go_big_quiet_want
                      refine ⟨.bool true, fun w' hw' => ?_, ?_⟩
                      · unfold Oper.quietAt; go_simp
                      simp only [Act.put, List.setIfInBounds_toArray, List.set_cons_zero, List.set_cons_succ]
                      go_big_quiet_on
                      (go_big_quiet_want; go_big_quiet_op; go_big_quiet_on)
                      (go_big_quiet_want; go_big_quiet_op; go_big_quiet_on)
                      (go_big_quiet_want; go_big_quiet_op; go_big_quiet_on)
                      go_big_quiet_want
                      refine ⟨.pointer (some ⟨gx, ox + k, none⟩), fun w' hw' => ?_, ?_⟩
                      · unfold Oper.quietAt; go_simp
                      simp only [Act.put, List.setIfInBounds_toArray, List.set_cons_zero, List.set_cons_succ]
                      go_big_quiet_on
                      go_big_quiet_want
                      refine ⟨.int .i64 a, fun w' hw' => ?_, ?_⟩
                      · have hh0 := (Kp.of_below hw').cell _ _ hxa; unfold Oper.quietAt; go_simp
                      simp only [Act.put, List.setIfInBounds_toArray, List.set_cons_zero, List.set_cons_succ]
                      go_big_quiet_on
                      (go_big_quiet_want; go_big_quiet_op; go_big_quiet_on)
                      (go_big_quiet_want; go_big_quiet_op; go_big_quiet_on)
                      go_big_quiet_want
                      refine ⟨.pointer (some ⟨gy, oy + k, none⟩), fun w' hw' => ?_, ?_⟩
                      · unfold Oper.quietAt; go_simp
                      simp only [Act.put, List.setIfInBounds_toArray, List.set_cons_zero, List.set_cons_succ]
                      go_big_quiet_on
                      go_big_quiet_want
                      refine ⟨.int .i64 b, fun w' hw' => ?_, ?_⟩
                      · have hh0 := (Kp.of_below hw').cell _ _ hyb; unfold Oper.quietAt; go_simp
                      simp only [Act.put, List.setIfInBounds_toArray, List.set_cons_zero, List.set_cons_succ]
                      go_big_quiet_on
                      go_big_quiet_want
                      refine ⟨.bool true, fun w' hw' => ?_, ?_⟩
                      · unfold Oper.quietAt; go_simp
                      simp only [Act.put, List.setIfInBounds_toArray, List.set_cons_zero, List.set_cons_succ]
                      go_big_quiet_on
                      go_big_quiet_want
                      refine ⟨.bool true, fun w' hw' => ?_, ?_⟩
                      · unfold Oper.quietAt; go_simp
                      simp only [Act.put, List.setIfInBounds_toArray, List.set_cons_zero, List.set_cons_succ]
                      go_big_quiet_on
                      refine wpQuiet_nil ?_
                      intro w7 hb7
                      have HB7 := hid (below_step HBl.out hb7)
                      clear hb7 hxa hyb
                      go_wp2
                      go_ret
                      exact ⟨ret1b hrf.symm, below_step C06.out HB7.out⟩
                    · have hd0 : decide (0 ≤ a) = false := by simpa using h0
                      by_cases h1 : 0 ≤ b
                      · have hd1 : decide (0 ≤ b) = true := by simpa using h1
                        have hrf := HNo.out (.inr h1) hab
                        go_wp2_with fail
                        refine region_below (by kernel_rfl) (by kernel_rfl) ?_
                        (go_big_quiet_want; go_big_quiet_op; go_big_quiet_on)
                        (go_big_quiet_want; go_big_quiet_op; go_big_quiet_on)
                        go_big_quiet_want
                        refine ⟨.pointer (some ⟨gx, ox + k, none⟩), fun w' hw' => ?_, ?_⟩
                        · unfold Oper.quietAt; go_simp
                        simp only [Act.put, List.setIfInBounds_toArray, List.set_cons_zero, List.set_cons_succ]
                        go_big_quiet_on
                        go_big_quiet_want
                        refine ⟨.int .i64 a, fun w' hw' => ?_, ?_⟩
                        · have hh0 := (Kp.of_below hw').cell _ _ hxa; unfold Oper.quietAt; go_simp
                        simp only [Act.put, List.setIfInBounds_toArray, List.set_cons_zero, List.set_cons_succ]
                        go_big_quiet_on
                        go_big_quiet_want
                        refine ⟨.bool false, fun w' hw' => ?_, ?_⟩
                        · unfold Oper.quietAt; go_simp
                        simp only [Act.put, List.setIfInBounds_toArray, List.set_cons_zero, List.set_cons_succ]
                        go_big_quiet_on
                        (go_big_quiet_want; go_big_quiet_op; go_big_quiet_on)
                        (go_big_quiet_want; go_big_quiet_op; go_big_quiet_on)
                        (go_big_quiet_want; go_big_quiet_op; go_big_quiet_on)
                        go_big_quiet_want
                        refine ⟨.pointer (some ⟨gy, oy + k, none⟩), fun w' hw' => ?_, ?_⟩
                        · unfold Oper.quietAt; go_simp
                        simp only [Act.put, List.setIfInBounds_toArray, List.set_cons_zero, List.set_cons_succ]
                        go_big_quiet_on
                        go_big_quiet_want
                        refine ⟨.int .i64 b, fun w' hw' => ?_, ?_⟩
                        · have hh0 := (Kp.of_below hw').cell _ _ hyb; unfold Oper.quietAt; go_simp
                        simp only [Act.put, List.setIfInBounds_toArray, List.set_cons_zero, List.set_cons_succ]
                        go_big_quiet_on
                        go_big_quiet_want
                        refine ⟨.bool true, fun w' hw' => ?_, ?_⟩
                        · unfold Oper.quietAt; go_simp
                        simp only [Act.put, List.setIfInBounds_toArray, List.set_cons_zero, List.set_cons_succ]
                        go_big_quiet_on
                        go_big_quiet_want
                        refine ⟨.bool true, fun w' hw' => ?_, ?_⟩
                        · unfold Oper.quietAt; go_simp
                        simp only [Act.put, List.setIfInBounds_toArray, List.set_cons_zero, List.set_cons_succ]
                        go_big_quiet_on
                        (go_big_quiet_want; go_big_quiet_op; go_big_quiet_on)
                        (go_big_quiet_want; go_big_quiet_op; go_big_quiet_on)
                        (go_big_quiet_want; go_big_quiet_op; go_big_quiet_on)
                        go_big_quiet_want
                        refine ⟨.pointer (some ⟨gx, ox + k, none⟩), fun w' hw' => ?_, ?_⟩
                        · unfold Oper.quietAt; go_simp
                        simp only [Act.put, List.setIfInBounds_toArray, List.set_cons_zero, List.set_cons_succ]
                        go_big_quiet_on
                        go_big_quiet_want
                        refine ⟨.int .i64 a, fun w' hw' => ?_, ?_⟩
                        · have hh0 := (Kp.of_below hw').cell _ _ hxa; unfold Oper.quietAt; go_simp
                        simp only [Act.put, List.setIfInBounds_toArray, List.set_cons_zero, List.set_cons_succ]
                        go_big_quiet_on
                        (go_big_quiet_want; go_big_quiet_op; go_big_quiet_on)
                        (go_big_quiet_want; go_big_quiet_op; go_big_quiet_on)
                        go_big_quiet_want
                        refine ⟨.pointer (some ⟨gy, oy + k, none⟩), fun w' hw' => ?_, ?_⟩
                        · unfold Oper.quietAt; go_simp
                        simp only [Act.put, List.setIfInBounds_toArray, List.set_cons_zero, List.set_cons_succ]
                        go_big_quiet_on
                        go_big_quiet_want
                        refine ⟨.int .i64 b, fun w' hw' => ?_, ?_⟩
                        · have hh0 := (Kp.of_below hw').cell _ _ hyb; unfold Oper.quietAt; go_simp
                        simp only [Act.put, List.setIfInBounds_toArray, List.set_cons_zero, List.set_cons_succ]
                        go_big_quiet_on
                        go_big_quiet_want
                        refine ⟨.bool true, fun w' hw' => ?_, ?_⟩
                        · unfold Oper.quietAt; go_simp
                        simp only [Act.put, List.setIfInBounds_toArray, List.set_cons_zero, List.set_cons_succ]
                        go_big_quiet_on
                        go_big_quiet_want
                        refine ⟨.bool true, fun w' hw' => ?_, ?_⟩
                        · unfold Oper.quietAt; go_simp
                        simp only [Act.put, List.setIfInBounds_toArray, List.set_cons_zero, List.set_cons_succ]
                        go_big_quiet_on
                        refine wpQuiet_nil ?_
                        intro w7 hb7
                        have HB7 := hid (below_step HBl.out hb7)
                        clear hb7 hxa hyb
                        go_wp2
                        go_ret
                        exact ⟨ret1b hrf.symm, below_step C06.out HB7.out⟩
                      · have hd1 : decide (0 ≤ b) = false := by simpa using h1
                        have H0 := hid h0
                        have H1 := hid h1
                        go_wp2_with fail
                        refine region_below (by kernel_rfl) (by kernel_rfl) ?_
                        (go_big_quiet_want; go_big_quiet_op; go_big_quiet_on)
                        (go_big_quiet_want; go_big_quiet_op; go_big_quiet_on)
                        go_big_quiet_want
                        refine ⟨.pointer (some ⟨gx, ox + k, none⟩), fun w' hw' => ?_, ?_⟩
                        · unfold Oper.quietAt; go_simp
                        simp only [Act.put, List.setIfInBounds_toArray, List.set_cons_zero, List.set_cons_succ]
                        go_big_quiet_on
                        go_big_quiet_want
                        refine ⟨.int .i64 a, fun w' hw' => ?_, ?_⟩
                        · have hh0 := (Kp.of_below hw').cell _ _ hxa; unfold Oper.quietAt; go_simp
                        simp only [Act.put, List.setIfInBounds_toArray, List.set_cons_zero, List.set_cons_succ]
                        go_big_quiet_on
                        go_big_quiet_want
                        refine ⟨.bool false, fun w' hw' => ?_, ?_⟩
                        · unfold Oper.quietAt; go_simp
                        simp only [Act.put, List.setIfInBounds_toArray, List.set_cons_zero, List.set_cons_succ]
                        go_big_quiet_on
                        (go_big_quiet_want; go_big_quiet_op; go_big_quiet_on)
                        (go_big_quiet_want; go_big_quiet_op; go_big_quiet_on)
                        (go_big_quiet_want; go_big_quiet_op; go_big_quiet_on)
                        go_big_quiet_want
                        refine ⟨.pointer (some ⟨gy, oy + k, none⟩), fun w' hw' => ?_, ?_⟩
                        · unfold Oper.quietAt; go_simp
                        simp only [Act.put, List.setIfInBounds_toArray, List.set_cons_zero, List.set_cons_succ]
                        go_big_quiet_on
                        go_big_quiet_want
                        refine ⟨.int .i64 b, fun w' hw' => ?_, ?_⟩
                        · have hh0 := (Kp.of_below hw').cell _ _ hyb; unfold Oper.quietAt; go_simp
                        simp only [Act.put, List.setIfInBounds_toArray, List.set_cons_zero, List.set_cons_succ]
                        go_big_quiet_on
                        go_big_quiet_want
                        refine ⟨.bool false, fun w' hw' => ?_, ?_⟩
                        · unfold Oper.quietAt; go_simp
                        simp only [Act.put, List.setIfInBounds_toArray, List.set_cons_zero, List.set_cons_succ]
                        go_big_quiet_on
                        go_big_quiet_want
                        refine ⟨.bool false, fun w' hw' => ?_, ?_⟩
                        · unfold Oper.quietAt; go_simp
                        simp only [Act.put, List.setIfInBounds_toArray, List.set_cons_zero, List.set_cons_succ]
                        go_big_quiet_on
                        (go_big_quiet_want; go_big_quiet_op; go_big_quiet_on)
                        go_big_quiet_skip
                        go_big_quiet_skip
                        go_big_quiet_skip
                        go_big_quiet_skip
                        go_big_quiet_skip
                        go_big_quiet_skip
                        go_big_quiet_skip
                        go_big_quiet_skip
                        go_big_quiet_skip
                        go_big_quiet_want
                        refine ⟨.bool false, fun w' hw' => ?_, ?_⟩
                        · unfold Oper.quietAt; go_simp
                        simp only [Act.put, List.setIfInBounds_toArray, List.set_cons_zero, List.set_cons_succ]
                        go_big_quiet_on
                        refine wpQuiet_nil ?_
                        intro w7 hb7
                        have HB7 := hid (below_step HBl.out hb7)
                        clear hb7 hxa hyb
                        go_wp2
                        go_roundw
                        case rel => exact ⟨k + 1, hlt, by go_num, HNx.out (fun h9 => absurd h9 (by have := H0.out; have := H1.out; omega)), HB7.out⟩
                        case measure => simp [intOf]; omega
                · have HAl : Hid (∀ (i : Nat) (a b : Int), X[i]? = some a → Y[i]? = some b → (0 ≤ a ∨ 0 ≤ b) → a = b) := fun i a b ha hb => HCo.out i a b (by have := (List.getElem?_eq_some_iff.1 ha).1; omega) ha hb
                  have C7 := hid (below_step C06.out hbl)
                  have HX7 := hid (HX.out.later hbl)
                  have HY7 := hid (HY.out.later hbl)
                  clear HX HY HCo hbl
                  go_wp2_with fail
                  refine (refVars_any _ X wr HX7.out.is (by omega)).mono ?_
                  rintro e w8 ⟨vv, rfl, hov, hb8⟩
                  have C8 := hid (below_step C7.out hb8)
                  have HX8 := hid (HX7.out.later hb8)
                  have HY8 := hid (HY7.out.later hb8)
                  have HV8 := hid hov
                  clear hov hb8 HX7 HY7
                  go_wp2_with fail
                  refine (refVars_any _ Y w8 HY8.out.is (by omega)).mono ?_
                  rintro e w9 ⟨vw, rfl, how, hb9⟩
                  have C9 := hid (below_step C8.out hb9)
                  have HX9 := hid (HX8.out.later hb9)
                  have HY9 := hid (HY8.out.later hb9)
                  have HV9 := hid (HV8.out.later hb9)
                  have HW9 := hid how
                  clear how hb9 HX8 HY8 HV8
                  obtain ⟨vo, vc, hvv, hvc1, hvc2⟩ := HV9.out.shape
                  subst hvv
                  obtain ⟨wo, wc, hvw, hwc1, hwc2⟩ := HW9.out.shape
                  subst hvw
                  unfold maxLen at hvc2 hwc2
                  have HVl : Hid ((varsL X).length = (metA [] X).length) := by unfold varsL; exact List.length_map _
                  have HWl : Hid ((varsL Y).length = (metA [] Y).length) := by unfold varsL; exact List.length_map _
                  have HVa : Hid (∀ (k : Nat) (v : Int), (varsL X)[k]? = some v → (metA [] X)[k]? = some (-1 - v)) := fun k v h => vars_at h
                  have HWa : Hid (∀ (k : Nat) (v : Int), (varsL Y)[k]? = some v → (metA [] Y)[k]? = some (-1 - v)) := fun k v h => vars_at h
                  generalize varsL X = V at *
                  generalize varsL Y = U at *
                  by_cases hvu : V.length = U.length
                  · have hb1 : ((V.length : Int) != U.length) = false := by rw [bne_eq_false_iff_eq]; omega
                    have HVu := hid hvu
                    clear hvu
                    go_wp2
                    go_loopw [12] (fun iv ws => ∃ k : Nat, k ≤ X.length ∧ iv = .int .i64 k ∧ (∀ (i m : Nat) (a b c d : Int), i < k → X[i]? = some a → Y[i]? = some b → (metA [] X)[m]? = some c → (metA [] Y)[m]? = some d → (a = c ↔ b = d)) ∧ Below w9.heap.size w9 ws) (fun iv _ => X.length - (intOf iv).toNat)
                    case atStart => exact ⟨0, Nat.zero_le _, rfl, fun i m a b c d hi => absurd hi (Nat.not_lt_zero _), Below.refl _ _⟩
                    case round =>
                      obtain ⟨k, hk, rfl, hme, hbl⟩ := hrel
                      have HMe := hid hme
                      have HBl := hid hbl
                      clear hme
                      by_cases hlt : k < X.length
                      · obtain ⟨gx, ox, a, rfl, ha, hxa9, _, _⟩ := (HX9.out.is.kp (Kp.of_below hbl)).at hlt
                        obtain ⟨gy, oy, b, rfl, hb, hyb9, _, _⟩ := (HY9.out.is.kp (Kp.of_below hbl)).at (show k < Y.length by have := HLen.out; omega)
                        have hly : k < Y.length := by have := HLen.out; omega
                        have HXa := hid ha
                        have HYb := hid hb
                        have HV10 := hid (HV9.out.later hbl)
                        have HW10 := hid (HW9.out.later hbl)
                        clear ha hb hbl
                        go_wp2
                        go_loopw [13] (fun jv ws => ∃ j : Nat, j ≤ V.length ∧ jv = .int .i64 j ∧ (∀ (m : Nat) (c d : Int), m < j → (metA [] X)[m]? = some c → (metA [] Y)[m]? = some d → (a = c ↔ b = d)) ∧ Below wr.heap.size wr ws) (fun jv _ => V.length - (intOf jv).toNat)
                        case atStart => exact ⟨0, Nat.zero_le _, rfl, fun m c d hi => absurd hi (Nat.not_lt_zero _), Below.refl _ _⟩
                        case round =>
                          obtain ⟨j, hj, rfl, hmj, hbl⟩ := hrel
                          have HMj := hid hmj
                          have HBj := hid hbl
                          clear hmj
                          by_cases hjl : j < V.length
                          · obtain ⟨gv, ov, vj, rfl, hv, hvj, hv1, hv2⟩ := (HV10.out.is.kp (Kp.of_below hbl)).at hjl
                            obtain ⟨gw, ow, wj, rfl, hw, hwj, hw1, hw2⟩ := (HW10.out.is.kp (Kp.of_below hbl)).at (show j < U.length by have := HVu.out; omega)
                            have hju : j < U.length := by have := HVu.out; omega
                            have hxa := (Kp.of_below hbl).cell _ _ hxa9
                            have hyb := (Kp.of_below hbl).cell _ _ hyb9
                            obtain ⟨cv, hcv⟩ : ∃ c, c = -1 - vj := ⟨_, rfl⟩
                            obtain ⟨cw, hcw⟩ : ∃ c, c = -1 - wj := ⟨_, rfl⟩
                            have hwv : IntKind.i64.wrap (-1 - vj) = cv := by rw [IntWalk.i64_in _ ⟨by omega, by omega⟩, hcv]
                            have hww : IntKind.i64.wrap (-1 - wj) = cw := by rw [IntWalk.i64_in _ ⟨by omega, by omega⟩, hcw]
                            have HCv : Hid ((metA [] X)[j]? = some cv) := by rw [hcv]; exact HVa.out j vj hv
                            have HCw : Hid ((metA [] Y)[j]? = some cw) := by rw [hcw]; exact HWa.out j wj hw
                            clear hcv hcw hv hw hbl hxa9 hyb9
                            by_cases hac : a = cv ↔ b = cw
                            · have HBx : Hid ((a == cv) = (b == cw)) := by
                                show _ = _
                                rw [Bool.eq_iff_iff, beq_iff_eq, beq_iff_eq]
                                exact hac
                              have HNx : Hid (∀ (m : Nat) (c d : Int), m < j + 1 → (metA [] X)[m]? = some c → (metA [] Y)[m]? = some d → (a = c ↔ b = d)) := fun m c d hm hc hd => by
                                rcases Nat.lt_succ_iff_lt_or_eq.1 hm with h8 | h8
                                · exact HMj.out m c d h8 hc hd
                                · subst h8
                                  rw [HCv.out] at hc
                                  rw [HCw.out] at hd
                                  cases hc
                                  cases hd
                                  exact hac
                              clear hac
                              go_wp2_with fail
                              refine region_below (by kernel_rfl) (by kernel_rfl) ?_
                              (go_big_quiet_want; go_big_quiet_op; go_big_quiet_on)
                              (go_big_quiet_want; go_big_quiet_op; go_big_quiet_on)
                              go_big_quiet_want
                              refine ⟨.pointer (some ⟨gx, ox + k, none⟩), fun w' hw' => ?_, ?_⟩
                              · unfold Oper.quietAt; go_simp
                              simp only [Act.put, List.setIfInBounds_toArray, List.set_cons_zero, List.set_cons_succ]
                              go_big_quiet_on
                              go_big_quiet_want
                              refine ⟨.int .i64 a, fun w' hw' => ?_, ?_⟩
                              · have hh0 := (Kp.of_below hw').cell _ _ hxa; unfold Oper.quietAt; go_simp
                              simp only [Act.put, List.setIfInBounds_toArray, List.set_cons_zero, List.set_cons_succ]
                              go_big_quiet_on
                              (go_big_quiet_want; go_big_quiet_op; go_big_quiet_on)
                              (go_big_quiet_want; go_big_quiet_op; go_big_quiet_on)
                              go_big_quiet_want
                              refine ⟨.pointer (some ⟨gv, ov + j, none⟩), fun w' hw' => ?_, ?_⟩
                              · unfold Oper.quietAt; go_simp
                              simp only [Act.put, List.setIfInBounds_toArray, List.set_cons_zero, List.set_cons_succ]
                              go_big_quiet_on
                              go_big_quiet_want
                              refine ⟨.int .i64 vj, fun w' hw' => ?_, ?_⟩
                              · have hh0 := (Kp.of_below hw').cell _ _ hvj; unfold Oper.quietAt; go_simp
                              simp only [Act.put, List.setIfInBounds_toArray, List.set_cons_zero, List.set_cons_succ]
                              go_big_quiet_on
                              go_big_quiet_want
                              refine ⟨.int .i64 cv, fun w' hw' => ?_, ?_⟩
                              · unfold Oper.quietAt; go_simp
                              simp only [Act.put, List.setIfInBounds_toArray, List.set_cons_zero, List.set_cons_succ]
                              go_big_quiet_on
                              go_big_quiet_want
                              refine ⟨.bool (a == cv), fun w' hw' => ?_, ?_⟩
                              · unfold Oper.quietAt; go_simp
                              simp only [Act.put, List.setIfInBounds_toArray, List.set_cons_zero, List.set_cons_succ]
                              go_big_quiet_on
                              (go_big_quiet_want; go_big_quiet_op; go_big_quiet_on)
                              (go_big_quiet_want; go_big_quiet_op; go_big_quiet_on)
                              go_big_quiet_want
                              refine ⟨.pointer (some ⟨gy, oy + k, none⟩), fun w' hw' => ?_, ?_⟩
                              · unfold Oper.quietAt; go_simp
                              simp only [Act.put, List.setIfInBounds_toArray, List.set_cons_zero, List.set_cons_succ]
                              go_big_quiet_on
                              go_big_quiet_want
                              refine ⟨.int .i64 b, fun w' hw' => ?_, ?_⟩
                              · have hh0 := (Kp.of_below hw').cell _ _ hyb; unfold Oper.quietAt; go_simp
                              simp only [Act.put, List.setIfInBounds_toArray, List.set_cons_zero, List.set_cons_succ]
                              go_big_quiet_on
                              (go_big_quiet_want; go_big_quiet_op; go_big_quiet_on)
                              (go_big_quiet_want; go_big_quiet_op; go_big_quiet_on)
                              go_big_quiet_want
                              refine ⟨.pointer (some ⟨gw, ow + j, none⟩), fun w' hw' => ?_, ?_⟩
                              · unfold Oper.quietAt; go_simp
                              simp only [Act.put, List.setIfInBounds_toArray, List.set_cons_zero, List.set_cons_succ]
                              go_big_quiet_on
                              go_big_quiet_want
                              refine ⟨.int .i64 wj, fun w' hw' => ?_, ?_⟩
                              · have hh0 := (Kp.of_below hw').cell _ _ hwj; unfold Oper.quietAt; go_simp
                              simp only [Act.put, List.setIfInBounds_toArray, List.set_cons_zero, List.set_cons_succ]
                              go_big_quiet_on
                              go_big_quiet_want
                              refine ⟨.int .i64 cw, fun w' hw' => ?_, ?_⟩
                              · unfold Oper.quietAt; go_simp
                              simp only [Act.put, List.setIfInBounds_toArray, List.set_cons_zero, List.set_cons_succ]
                              go_big_quiet_on
                              go_big_quiet_want
                              refine ⟨.bool (b == cw), fun w' hw' => ?_, ?_⟩
                              · unfold Oper.quietAt; go_simp
                              simp only [Act.put, List.setIfInBounds_toArray, List.set_cons_zero, List.set_cons_succ]
                              go_big_quiet_on
                              go_big_quiet_want
                              refine ⟨.bool false, fun w' hw' => ?_, ?_⟩
                              · unfold Oper.quietAt; go_simp; exact HBx.out
                              simp only [Act.put, List.setIfInBounds_toArray, List.set_cons_zero, List.set_cons_succ]
                              go_big_quiet_on
                              refine wpQuiet_nil ?_
                              intro w7 hb7
                              have HB7 := hid (below_step HBj.out hb7)
                              clear hb7 hxa hyb hvj hwj
                              go_wp2
                              go_roundw
                              case rel => exact ⟨j + 1, hjl, by go_num, HNx.out, HB7.out⟩
                              case measure => simp [intOf]; omega
                            · have HBx : Hid (¬ (a == cv) = (b == cw)) := by
                                intro h9
                                rw [Bool.eq_iff_iff, beq_iff_eq, beq_iff_eq] at h9
                                exact hac h9
                              have hrf : R = false := by
                                rw [Bool.eq_false_iff]
                                intro h7
                                exact hac ((HRi.out.1 h7).met k j a b cv cw HXa.out HYb.out HCv.out HCw.out)
                              clear hac
                              go_wp2_with fail
                              refine region_below (by kernel_rfl) (by kernel_rfl) ?_
                              (go_big_quiet_want; go_big_quiet_op; go_big_quiet_on)
                              (go_big_quiet_want; go_big_quiet_op; go_big_quiet_on)
                              go_big_quiet_want
                              refine ⟨.pointer (some ⟨gx, ox + k, none⟩), fun w' hw' => ?_, ?_⟩
                              · unfold Oper.quietAt; go_simp
                              simp only [Act.put, List.setIfInBounds_toArray, List.set_cons_zero, List.set_cons_succ]
                              go_big_quiet_on
                              go_big_quiet_want
                              refine ⟨.int .i64 a, fun w' hw' => ?_, ?_⟩
                              · have hh0 := (Kp.of_below hw').cell _ _ hxa; unfold Oper.quietAt; go_simp
                              simp only [Act.put, List.setIfInBounds_toArray, List.set_cons_zero, List.set_cons_succ]
                              go_big_quiet_on
                              (go_big_quiet_want; go_big_quiet_op; go_big_quiet_on)
                              (go_big_quiet_want; go_big_quiet_op; go_big_quiet_on)
                              go_big_quiet_want
                              refine ⟨.pointer (some ⟨gv, ov + j, none⟩), fun w' hw' => ?_, ?_⟩
                              · unfold Oper.quietAt; go_simp
                              simp only [Act.put, List.setIfInBounds_toArray, List.set_cons_zero, List.set_cons_succ]
                              go_big_quiet_on
                              go_big_quiet_want
                              refine ⟨.int .i64 vj, fun w' hw' => ?_, ?_⟩
                              · have hh0 := (Kp.of_below hw').cell _ _ hvj; unfold Oper.quietAt; go_simp
                              simp only [Act.put, List.setIfInBounds_toArray, List.set_cons_zero, List.set_cons_succ]
                              go_big_quiet_on
                              go_big_quiet_want
                              refine ⟨.int .i64 cv, fun w' hw' => ?_, ?_⟩
                              · unfold Oper.quietAt; go_simp
                              simp only [Act.put, List.setIfInBounds_toArray, List.set_cons_zero, List.set_cons_succ]
                              go_big_quiet_on
                              go_big_quiet_want
                              refine ⟨.bool (a == cv), fun w' hw' => ?_, ?_⟩
                              · unfold Oper.quietAt; go_simp
                              simp only [Act.put, List.setIfInBounds_toArray, List.set_cons_zero, List.set_cons_succ]
                              go_big_quiet_on
                              (go_big_quiet_want; go_big_quiet_op; go_big_quiet_on)
                              (go_big_quiet_want; go_big_quiet_op; go_big_quiet_on)
                              go_big_quiet_want
                              refine ⟨.pointer (some ⟨gy, oy + k, none⟩), fun w' hw' => ?_, ?_⟩
                              · unfold Oper.quietAt; go_simp
                              simp only [Act.put, List.setIfInBounds_toArray, List.set_cons_zero, List.set_cons_succ]
                              go_big_quiet_on
                              go_big_quiet_want
                              refine ⟨.int .i64 b, fun w' hw' => ?_, ?_⟩
                              · have hh0 := (Kp.of_below hw').cell _ _ hyb; unfold Oper.quietAt; go_simp
                              simp only [Act.put, List.setIfInBounds_toArray, List.set_cons_zero, List.set_cons_succ]
                              go_big_quiet_on
                              (go_big_quiet_want; go_big_quiet_op; go_big_quiet_on)
                              (go_big_quiet_want; go_big_quiet_op; go_big_quiet_on)
                              go_big_quiet_want
                              refine ⟨.pointer (some ⟨gw, ow + j, none⟩), fun w' hw' => ?_, ?_⟩
                              · unfold Oper.quietAt; go_simp
                              simp only [Act.put, List.setIfInBounds_toArray, List.set_cons_zero, List.set_cons_succ]
                              go_big_quiet_on
                              go_big_quiet_want
                              refine ⟨.int .i64 wj, fun w' hw' => ?_, ?_⟩
                              · have hh0 := (Kp.of_below hw').cell _ _ hwj; unfold Oper.quietAt; go_simp
                              simp only [Act.put, List.setIfInBounds_toArray, List.set_cons_zero, List.set_cons_succ]
                              go_big_quiet_on
                              go_big_quiet_want
                              refine ⟨.int .i64 cw, fun w' hw' => ?_, ?_⟩
                              · unfold Oper.quietAt; go_simp
                              simp only [Act.put, List.setIfInBounds_toArray, List.set_cons_zero, List.set_cons_succ]
                              go_big_quiet_on
                              go_big_quiet_want
                              refine ⟨.bool (b == cw), fun w' hw' => ?_, ?_⟩
                              · unfold Oper.quietAt; go_simp
                              simp only [Act.put, List.setIfInBounds_toArray, List.set_cons_zero, List.set_cons_succ]
                              go_big_quiet_on
                              go_big_quiet_want
                              refine ⟨.bool true, fun w' hw' => ?_, ?_⟩
                              · unfold Oper.quietAt; go_simp; exact HBx.out
                              simp only [Act.put, List.setIfInBounds_toArray, List.set_cons_zero, List.set_cons_succ]
                              go_big_quiet_on
                              refine wpQuiet_nil ?_
                              intro w7 hb7
                              have HB7 := hid (below_step HBj.out hb7)
                              clear hb7 hxa hyb hvj hwj
                              go_wp2
                              go_ret
                              exact ⟨ret1b hrf.symm, below_step C9.out (below_step HBl.out HB7.out)⟩
                          · have HNx : Hid (∀ (i m : Nat) (a b c d : Int), i < k + 1 → X[i]? = some a → Y[i]? = some b → (metA [] X)[m]? = some c → (metA [] Y)[m]? = some d → (a = c ↔ b = d)) := fun i m a9 b9 c d hi ha hb hc hd => by
                              rcases Nat.lt_succ_iff_lt_or_eq.1 hi with h8 | h8
                              · exact HMe.out i m a9 b9 c d h8 ha hb hc hd
                              · subst h8
                                rw [HXa.out] at ha
                                rw [HYb.out] at hb
                                cases ha
                                cases hb
                                exact HMj.out m c d (by have h7 := (List.getElem?_eq_some_iff.1 hc).1; rw [← HVl.out] at h7; omega) hc hd
                            clear hbl
                            go_wp2
                            go_roundw
                            case rel => exact ⟨k + 1, hlt, by go_num, HNx.out, below_step HBl.out HBj.out⟩
                            case measure => simp [intOf]; omega
                      · have hrt : R = true := HRi.out.2 ⟨HAl.out, by rw [← HVl.out, ← HWl.out]; exact HVu.out, fun i m a b c d ha hb => HMe.out i m a b c d (by have := (List.getElem?_eq_some_iff.1 ha).1; omega) ha hb⟩
                        clear hbl
                        go_wp2
                        go_ret
                        exact ⟨ret1b hrt.symm, below_step C9.out HBl.out⟩
                  · have hb1 : ((V.length : Int) != U.length) = true := by rw [bne_iff_ne]; omega
                    have hrf : R = false := by
                      rw [Bool.eq_false_iff]
                      intro h7
                      exact hvu (by rw [HVl.out, HWl.out]; exact (HRi.out.1 h7).many)
                    go_wp2
                    go_ret
                    exact ⟨ret1b hrf.symm, C9.out⟩
            · have hb1 : ((p.length : Int) != r.length) = false := by rw [bne_eq_false_iff_eq]; omega
              have hb2 : ((q.length : Int) != s.length) = true := by rw [bne_iff_ne]; omega
              have hrf : R = false := by rw [HR.out]; exact vrB_no (fun h => hqs h.2.2.1)
              clear hqs hpr
              go_wp2
              go_ret
              exact ⟨ret1b hrf.symm, below_step HB0.out C4.out⟩
          · have hb1 : ((p.length : Int) != r.length) = true := by rw [bne_iff_ne]; omega
            have hrf : R = false := by rw [HR.out]; exact vrB_no (fun h => hpr h.2.1)
            clear hpr
            go_wp2
            go_ret
            exact ⟨ret1b hrf.symm, below_step HB0.out C4.out⟩
        · have hne : (termE sig s != 0) = true := by simpa using h3
          have hrf : R = false := by rw [HR.out]; exact vrB_no (fun h => h3 h.1.2.2.2)
          clear h3
          go_wp2
          go_ret
          exact ⟨ret1b hrf.symm, below_step HB0.out C4.out⟩
      · have hne : (termE sig r != 0) = true := by simpa using h2
        have hrf : R = false := by rw [HR.out]; exact vrB_no (fun h => h2 h.1.2.2.1)
        clear h2
        go_wp2
        go_ret
        exact ⟨ret1b hrf.symm, below_step HB0.out C3.out⟩
    · have hne : (termE sig q != 0) = true := by simpa using h1
      have hrf : R = false := by rw [HR.out]; exact vrB_no (fun h => h1 h.1.2.1)
      clear h1
      go_wp2
      go_ret
      exact ⟨ret1b hrf.symm, below_step HB0.out C2.out⟩
  · have hne : (termE sig p != 0) = true := by simpa using h0
    have hrf : R = false := by rw [HR.out]; exact vrB_no (fun h => h0 h.1.1)
    clear h0
    go_wp2
    go_ret
    exact ⟨ret1b hrf.symm, below_step HB0.out C1.out⟩

end Go.Proofs.YtcijfaijjpkdoacDoor
