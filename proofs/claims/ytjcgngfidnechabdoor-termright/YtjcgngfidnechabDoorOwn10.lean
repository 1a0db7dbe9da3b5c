/- Parts of terms, and terms with a part replaced, are terms again, with no other variables: TermRight walked for every two rows and every place. -/
import Derived.Test.YtjcgngfidnechabDoorOwn9
namespace Go.Proofs.YtjcgngfidnechabDoor
open Go.RowKit Go.Maps Go.BigFrame

set_option maxRecDepth 100000 in
theorem which_any (c : Int) (n : Nat) (hn : 0 < n) (h1 : -9223372036854775808 ≤ c) (h2 : c ≤ 9223372036854775807) (w : World) :
    Calls Tryd.prog 11 #[.int .i64 c, .int .i64 n] w fun e w' => e = .returned (.int .i64 (whichN c n : Int)) ∧ w' = w := by
  have hn0 : ((n : Int) == 0) = false := by rw [beq_eq_false_iff_ne]; omega
  by_cases hc : c < 0
  · have e1 : IntKind.i64.wrap (c + 1) = c + 1 := IntWalk.i64_in _ ⟨by omega, by omega⟩
    have e2 : IntKind.i64.wrap (-(c + 1)) = -(c + 1) := IntWalk.i64_in _ ⟨by omega, by omega⟩
    go_enter Tryd.func11, Tryd.ntmps11
    have e3 : -(c + 1).tmod (n : Int) = (whichN c n : Int) := by
      unfold whichN
      rw [if_pos hc, ← Int.neg_tmod, Int.tmod_eq_emod_of_nonneg (by omega), Int.toNat_of_nonneg (Int.emod_nonneg _ (by omega))]
    go_wp2
    go_ret
    exact ⟨rfl, rfl⟩
  · go_enter Tryd.func11, Tryd.ntmps11
    have e3 : c.tmod (n : Int) = (whichN c n : Int) := by
      unfold whichN
      rw [if_neg hc, Int.tmod_eq_emod_of_nonneg (by omega), Int.toNat_of_nonneg (Int.emod_nonneg _ (by omega))]
    go_wp2
    go_ret
    exact ⟨rfl, rfl⟩

theorem row_placeR {w : World} {v : Value} {xs : List Int} {k : Nat} {x : Int} {base : Nat} (h : OwI w base v xs) (hk : xs[k]? = some x) : ∃ g cap, v = .slice (some ⟨g, 0, none⟩) xs.length cap ∧ w.cell? ⟨g, k, none⟩ = some (.int .i64 x) ∧ w.frozen? ⟨g, k, none⟩ = false ∧ base ≤ g := by
  obtain ⟨g, cap, rfl⟩ := own_form h.2 (by have := (List.getElem?_eq_some_iff.1 hk).1; omega)
  exact ⟨g, cap, rfl, (h.at hk).1, (h.at hk).2, own_ge h.2⟩

theorem met_iff : ∀ (t m : List Int) (c : Int), c ∈ metA m t ↔ (c ∈ m ∨ (c ∈ t ∧ c < 0))
  | [], m, c => by simp [metA]
  | d :: t, m, c => by
    unfold metA
    split
    · rename_i hd
      rw [met_iff t m c]
      constructor
      · rintro (h | ⟨h, h0⟩)
        · exact .inl h
        · exact .inr ⟨List.mem_cons_of_mem _ h, h0⟩
      · rintro (h | ⟨h, h0⟩)
        · exact .inl h
        · rcases List.mem_cons.1 h with rfl | h
          · rcases hd with hd | hd
            · omega
            · exact .inl hd
          · exact .inr ⟨h, h0⟩
    · rename_i hd
      rw [met_iff t (m ++ [d]) c]
      constructor
      · rintro (h | ⟨h, h0⟩)
        · rcases List.mem_append.1 h with h | h
          · exact .inl h
          · rw [List.mem_singleton] at h
            subst h
            exact .inr ⟨List.mem_cons_self, by omega⟩
        · exact .inr ⟨List.mem_cons_of_mem _ h, h0⟩
      · rintro (h | ⟨h, h0⟩)
        · exact .inl (List.mem_append_left _ h)
        · rcases List.mem_cons.1 h with rfl | h
          · exact .inl (by simp)
          · exact .inr ⟨h, h0⟩

theorem vars_mem {t : List Int} {y : Int} : y ∈ varsL t ↔ ∃ c, c ∈ t ∧ c < 0 ∧ y = -1 - c := by
  unfold varsL
  rw [List.mem_map]
  constructor
  · rintro ⟨c, h, rfl⟩
    rw [met_iff] at h
    rcases h with h | h
    · cases h
    · exact ⟨c, h.1, h.2, rfl⟩
  · rintro ⟨c, h1, h2, rfl⟩
    exact ⟨c, (met_iff t [] c).2 (.inr ⟨h1, h2⟩), rfl⟩

set_option maxRecDepth 100000 in
set_option maxHeartbeats 3200000 in
theorem termRight_any (sv tv uv : Value) (sig : List Sy) (t u : List Int) (x : Int) (w : World) (hs : Sg w sv sig) (h : Is w tv t) (hu : Is w uv u) (hT : Tabs w) (hb : t.length * 8 ≤ 140737488351232) (hbu : u.length * 8 ≤ 140737488351232)
    (hx1 : -9223372036854775808 ≤ x) (hx2 : x ≤ 9223372036854775807) :
    Calls Tryd.prog 3 #[sv, .agg #[tv, uv], .int .i64 x] w fun e w' => e = .returned (.bool true) ∧ Below w.heap.size w w' := by
  obtain ⟨ao, cap, rfl, hao, hca, _⟩ := Row.flat h
  obtain ⟨uo, uc, rfl, huo, hcu, _⟩ := Row.flat hu
  unfold maxLen at hca hcu
  have HS := hid hs
  have HT := hid hT
  have HI := hid h
  have HU := hid hu
  clear hs hT h hu
  have C1 : Hid (Below w.heap.size w (w.alloc (.cells #[.slice ao t.length cap, .slice uo u.length uc] 24))) := below_alloc _
  have CB : Hid ((w.alloc (.cells #[.slice ao t.length cap, .slice uo u.length uc] 24)).cell? ⟨w.heap.size, 0, none⟩ = some (.slice ao t.length cap) ∧ (w.alloc (.cells #[.slice ao t.length cap, .slice uo u.length uc] 24)).cell? ⟨w.heap.size, 1, none⟩ = some (.slice uo u.length uc)) := ⟨cell_new rfl, cell_new rfl⟩
  go_enter Tryd.func3, Tryd.ntmps3
  go_wp2_with fail
  refine (shown3_any _ (HT.out.below C1.out)).mono ?_
  rintro e w2 ⟨rfl, hb2⟩
  have C2 := hid hb2
  clear hb2
  have hc0 : w2.cell? ⟨w.heap.size, 0, none⟩ = some (.slice ao t.length cap) := (Kp.of_below C2.out).cell _ _ CB.out.1
  have hc1 : w2.cell? ⟨w.heap.size, 1, none⟩ = some (.slice uo u.length uc) := (Kp.of_below C2.out).cell _ _ CB.out.2
  go_wp2_with fail
  refine (refCheck_any sv _ sig t _ (HS.out.kp (Kp.of_below (below_step C1.out C2.out))) (HI.out.kp (Kp.of_below (below_step C1.out C2.out))) (by omega)).mono ?_
  rintro e w3 ⟨rfl, hb3⟩
  have C3 := hid hb3
  clear hb3
  clear hc0 hc1
  have hc0 : w3.cell? ⟨w.heap.size, 0, none⟩ = some (.slice ao t.length cap) := (Kp.of_below (below_step C2.out C3.out)).cell _ _ CB.out.1
  have hc1 : w3.cell? ⟨w.heap.size, 1, none⟩ = some (.slice uo u.length uc) := (Kp.of_below (below_step C2.out C3.out)).cell _ _ CB.out.2
  go_wp2_with fail
  refine (refCheck_any sv _ sig u _ (HS.out.kp (Kp.of_below (below_step (below_step C1.out C2.out) C3.out))) (HU.out.kp (Kp.of_below (below_step (below_step C1.out C2.out) C3.out))) (by omega)).mono ?_
  rintro e w4 ⟨rfl, hb4⟩
  have C4 := hid hb4
  clear hb4
  clear hc0 hc1
  have hc0 : w4.cell? ⟨w.heap.size, 0, none⟩ = some (.slice ao t.length cap) := (Kp.of_below (below_step (below_step C2.out C3.out) C4.out)).cell _ _ CB.out.1
  have hc1 : w4.cell? ⟨w.heap.size, 1, none⟩ = some (.slice uo u.length uc) := (Kp.of_below (below_step (below_step C2.out C3.out) C4.out)).cell _ _ CB.out.2
  have B4 := hid (below_step (below_step (below_step C1.out C2.out) C3.out) C4.out)
  by_cases hte : termE sig t = 0
  · by_cases hue : termE sig u = 0
    · have HTe := hid hte
      have HUr := hid (term_parts hue).2
      have htl := right_len (term_parts hte).2
      obtain ⟨P, V, R, ht, hPl, hVl, hV⟩ := split_place hte (which_lt x t.length htl)
      have HWi := hid (which_any x t.length htl hx1 hx2)
      obtain ⟨i, hi⟩ : ∃ i, i = whichN x t.length := ⟨_, rfl⟩
      have hit : i < t.length := by rw [hi]; exact which_lt x t.length htl
      rw [← hi] at HWi hPl
      have HTt := hid ht
      have HSub := hid (sub_at (q := R) hte hV ht)
      have HVt := hid (term_of hte hV)
      have hrm := repl_mid (u := u) (by rw [← ht]; exact hte) hV HUr.out
      have HXr : Hid (rowE sig (P ++ (u ++ R)) = 0) := right_mid (sigE_ok (term_parts hte).1) (by rw [← ht]; exact (term_parts hte).2) hV HUr.out
      have HXt := hid (term_of hte HXr.out)
      rw [← ht] at hrm
      rw [hPl] at HSub hrm
      have HRm := hid hrm
      have HTl : Hid (t.length = i + V.length + R.length) := by show _ = _; rw [ht]; simp only [List.length_append]; omega
      have HPl := hid hPl
      rw [hte, hue]
      clear hi ht hPl hVl hV hrm hte hue HXr
      go_wp2_with fail
      refine (HWi.out w4).mono ?_
      rintro e w9 ⟨rfl, hw9⟩
      have hw8 := hw9.symm
      subst hw8
      clear hw9 HWi
      go_wp2_with fail
      refine (sub_any sv _ sig t i _ (HS.out.kp (Kp.of_below (below_step (below_step (below_step C1.out C2.out) C3.out) C4.out))) (HI.out.kp (Kp.of_below (below_step (below_step (below_step C1.out C2.out) C3.out) C4.out))) (HT.out.below (below_step (below_step (below_step C1.out C2.out) C3.out) C4.out)) (by omega) (by omega) (by omega)).mono ?_
      rintro e w5 ⟨vw, rfl, ho, hb5⟩
      have C5 := hid hb5
      rw [HSub.out.1]
      rw [HSub.out.2] at ho
      clear hb5
      have OW := hid ho
      have UW : Hid (∀ j, Value.ownBlock (vw) = some j → j < w5.heap.size) := fun j hj => own_blk_lt ho.2 hj
      clear ho
      clear hc0 hc1
      have hc0 : w5.cell? ⟨w.heap.size, 0, none⟩ = some (.slice ao t.length cap) := (Kp.of_below (below_step (below_step (below_step C2.out C3.out) C4.out) C5.out)).cell _ _ CB.out.1
      have hc1 : w5.cell? ⟨w.heap.size, 1, none⟩ = some (.slice uo u.length uc) := (Kp.of_below (below_step (below_step (below_step C2.out C3.out) C4.out) C5.out)).cell _ _ CB.out.2
      go_wp2_with fail
      refine (check_any sv _ sig V _ (HS.out.kp (Kp.of_below (below_step (below_step (below_step (below_step C1.out C2.out) C3.out) C4.out) C5.out))) OW.out.is (HT.out.below (below_step (below_step (below_step (below_step C1.out C2.out) C3.out) C4.out) C5.out)) (by have := HTl.out; omega)).mono ?_
      rintro e w6 ⟨rfl, hb6⟩
      have C6 := hid hb6
      rw [HVt.out]
      clear hb6
      clear hc0 hc1
      have hc0 : w6.cell? ⟨w.heap.size, 0, none⟩ = some (.slice ao t.length cap) := (Kp.of_below (below_step (below_step (below_step (below_step C2.out C3.out) C4.out) C5.out) C6.out)).cell _ _ CB.out.1
      have hc1 : w6.cell? ⟨w.heap.size, 1, none⟩ = some (.slice uo u.length uc) := (Kp.of_below (below_step (below_step (below_step (below_step C2.out C3.out) C4.out) C5.out) C6.out)).cell _ _ CB.out.2
      go_wp2_with fail
      refine (replace_any sv _ _ sig t u i _ (HS.out.kp (Kp.of_below (below_step (below_step (below_step (below_step (below_step C1.out C2.out) C3.out) C4.out) C5.out) C6.out))) (HI.out.kp (Kp.of_below (below_step (below_step (below_step (below_step (below_step C1.out C2.out) C3.out) C4.out) C5.out) C6.out))) (HU.out.kp (Kp.of_below (below_step (below_step (below_step (below_step (below_step C1.out C2.out) C3.out) C4.out) C5.out) C6.out))) (HT.out.below (below_step (below_step (below_step (below_step (below_step C1.out C2.out) C3.out) C4.out) C5.out) C6.out)) (by omega) (by omega) (by omega) (by omega)).mono ?_
      rintro e w7 ⟨vx, rfl, ho, hb7⟩
      have C7 := hid hb7
      rw [HRm.out.1]
      rw [HRm.out.2] at ho
      clear hb7
      clear hc0 hc1
      have hc0 : w7.cell? ⟨w.heap.size, 0, none⟩ = some (.slice ao t.length cap) := (Kp.of_below (below_step (below_step (below_step (below_step (below_step C2.out C3.out) C4.out) C5.out) C6.out) C7.out)).cell _ _ CB.out.1
      have hc1 : w7.cell? ⟨w.heap.size, 1, none⟩ = some (.slice uo u.length uc) := (Kp.of_below (below_step (below_step (below_step (below_step (below_step C2.out C3.out) C4.out) C5.out) C6.out) C7.out)).cell _ _ CB.out.2
      by_cases hbig : 512 < i + u.length + R.length
      · rw [if_pos hbig]
        have BF := hid (below_step (below_step (below_step (below_step (below_step (below_step C1.out C2.out) C3.out) C4.out) C5.out) C6.out) C7.out)
        clear ho
        go_wp2
        go_ret
        exact ⟨rfl, BF.out⟩
      · rw [if_neg hbig] at ho ⊢
        have HXl : Hid ((P ++ (u ++ R)).length ≤ 512) := by have := HPl.out; show _ ≤ _; simp only [List.length_append]; omega
        have HVs : Hid (∀ y ∈ varsL (P ++ (u ++ R)), y ∈ varsL (t ++ u)) := fun y hy => by
          obtain ⟨c, h1, h2, h3⟩ := vars_mem.1 hy
          refine vars_mem.2 ⟨c, ?_, h2, h3⟩
          rw [HTt.out]
          simp only [List.mem_append] at h1 ⊢
          rcases h1 with h1 | h1 | h1
          · exact .inl (.inl h1)
          · exact .inr h1
          · exact .inl (.inr (.inr h1))
        generalize P ++ (u ++ R) = X at ho HXt HXl HVs
        have OX := hid ho
        have UX : Hid (∀ j, Value.ownBlock (vx) = some j → j < w7.heap.size) := fun j hj => own_blk_lt ho.2 hj
        clear ho
        go_wp2_with fail
        refine (check_any sv _ sig X _ (HS.out.kp (Kp.of_below (below_step (below_step (below_step (below_step (below_step (below_step C1.out C2.out) C3.out) C4.out) C5.out) C6.out) C7.out))) OX.out.is (HT.out.below (below_step (below_step (below_step (below_step (below_step (below_step C1.out C2.out) C3.out) C4.out) C5.out) C6.out) C7.out)) (by have := HXl.out; omega)).mono ?_
        rintro e w8 ⟨rfl, hb8⟩
        have C8 := hid hb8
        rw [HXt.out]
        clear hb8
        clear hc0 hc1
        have hc0 : w8.cell? ⟨w.heap.size, 0, none⟩ = some (.slice ao t.length cap) := (Kp.of_below (below_step (below_step (below_step (below_step (below_step (below_step C2.out C3.out) C4.out) C5.out) C6.out) C7.out) C8.out)).cell _ _ CB.out.1
        have hc1 : w8.cell? ⟨w.heap.size, 1, none⟩ = some (.slice uo u.length uc) := (Kp.of_below (below_step (below_step (below_step (below_step (below_step (below_step C2.out C3.out) C4.out) C5.out) C6.out) C7.out) C8.out)).cell _ _ CB.out.2
        have hS : Below w8.heap.size w8 w8.drew := (Below.refl _ _).drew
        have hS0 := below_step hS (below_alloc (w := w8.drew) (.cells #[] 3))
        obtain ⟨va, wa, hra, hoa, hga⟩ := copy_ints 23 (w := w8.drew.alloc (.cells #[] 3)) (base := w8.heap.size) (g := w8.heap.size) (empty_row (w := w8.drew) 3 (Nat.le_refl _)) (HI.out.kp (Kp.of_below (below_step (below_step (below_step (below_step (below_step (below_step (below_step (below_step C1.out C2.out) C3.out) C4.out) C5.out) C6.out) C7.out) C8.out) hS0))) hS0.size (by omega)
        have hka : Below w8.heap.size w8 wa := hS0.grown hga hS0.size (fun j hj => by cases hj; exact Nat.le_refl _)
        obtain ⟨vb, wb, hrb, hob, hgb⟩ := join_ints 23 hoa (HU.out.kp (Kp.of_below (below_step (below_step (below_step (below_step (below_step (below_step (below_step (below_step C1.out C2.out) C3.out) C4.out) C5.out) C6.out) C7.out) C8.out) hka))) hka.size (by have := HTl.out; omega)
        have hkb : Below w8.heap.size w8 wb := hka.grown hgb hka.size (fun j hj => own_blk hoa.2 hj)
        have HRa := hid hra
        have HRb := hid hrb
        have HOb := hid hob
        have C9 := hid hkb
        have HKa := hid hka
        clear hra hrb hoa hob hga hgb hka hkb hS0
        go_upto_region 17 with fail
        refine wp_region_held_drew (S := fun w' => Below w8.heap.size w8 w') (by kernel_rfl) hS (fun _ => ?_)
        refine wpAnyH_take (i := 1) (v := .pointer (some ⟨w.heap.size, 0, none⟩)) rfl (by kernel_rfl) (by kernel_rfl) (by kernel_rfl) (fun _ _ _ h => h) (Or.inl ⟨by rfl, fun w' h => by go_simp⟩) hS ?_
        simp only [Act.put, List.setIfInBounds_toArray]
        refine wpAnyH_take (i := 2) (v := .slice ao t.length cap) rfl (by kernel_rfl) (by kernel_rfl) (by kernel_rfl) (fun _ _ _ h => h) (Or.inl ⟨by rfl, fun w' h => by have hh := (Kp.of_below h).cell _ _ hc0; go_simp⟩) hS ?_
        simp only [Act.put]
        refine wpAnyH_take (i := 4) (v := .pointer (some ⟨w.heap.size, 1, none⟩)) rfl (by kernel_rfl) (by kernel_rfl) (by kernel_rfl) (fun _ _ _ h => h) (Or.inl ⟨by rfl, fun w' h => by go_simp⟩) hS ?_
        simp only [Act.put]
        refine wpAnyH_take (i := 5) (v := .slice uo u.length uc) rfl (by kernel_rfl) (by kernel_rfl) (by kernel_rfl) (fun _ _ _ h => h) (Or.inl ⟨by rfl, fun w' h => by have hh := (Kp.of_below h).cell _ _ hc1; go_simp⟩) hS ?_
        simp only [Act.put]
        refine wpAnyH_ready (rs := [0]) (by kernel_rfl) (by simp) (AllReadyH.cons rfl (fun K hK => ?_) AllReadyH.nil)
        go_simp
        refine hK.out _ _ (below_step hS (below_alloc _)) (fun hSn => ?_)
        clear hK K hS
        refine wpAnyH_ready (rs := [3]) (by kernel_rfl) (by simp) (AllReadyH.cons rfl (fun K hK => ?_) AllReadyH.nil)
        refine step_append_run rfl _ _ 23 rfl _ _ rfl rfl HRa.out ?_
        refine hK.out _ _ HKa.out (fun hSm => ?_)
        clear hK K hSn
        simp only [Act.put, List.setIfInBounds_toArray]
        refine wpAnyH_ready (rs := [6]) (by kernel_rfl) (by simp) (AllReadyH.cons rfl (fun K hK => ?_) AllReadyH.nil)
        refine step_append_run rfl _ _ 23 rfl _ _ rfl rfl HRb.out ?_
        refine hK.out _ _ C9.out (fun hS => ?_)
        clear hK K hSm
        simp only [Act.put]
        refine wpAnyH_take (i := 7) (v := vb) rfl (by kernel_rfl) (by kernel_rfl) (by kernel_rfl) (fun _ _ _ h => h) (Or.inl ⟨by rfl, fun w' h => by go_simp⟩) hS ?_
        simp only [Act.put]
        refine wpAnyH_done (by kernel_rfl) ?_ _
        clear hS hc0 hc1 HRa HRb HKa
        have OB := HOb
        go_wp2_with fail
        refine (vars_any _ X _ (OX.out.later (below_step C8.out C9.out)).is (by have := HXl.out; omega)).mono ?_
        rintro e w10 ⟨vn, rfl, ho, hb10⟩
        have C10 := hid hb10
        clear hb10
        have ON := hid ho
        have UN : Hid (∀ j, Value.ownBlock (vn) = some j → j < w10.heap.size) := fun j hj => own_blk_lt ho.2 hj
        clear ho
        go_wp2_with fail
        refine (refVars_any _ (t ++ u) _ (OB.out.later C10.out).is (by have := HTl.out; rw [List.length_append]; omega)).mono ?_
        rintro e w11 ⟨vk, rfl, ho, hb11⟩
        have C11 := hid hb11
        clear hb11
        have OK := hid ho
        have UK : Hid (∀ j, Value.ownBlock (vk) = some j → j < w11.heap.size) := fun j hj => own_blk_lt ho.2 hj
        clear ho
        have ON11 := hid (ON.out.later C11.out)
        have OK11 := OK
        have B11 := hid (below_step (below_step (below_step (below_step (below_step (below_step (below_step (below_step (below_step (below_step C1.out C2.out) C3.out) C4.out) C5.out) C6.out) C7.out) C8.out) C9.out) C10.out) C11.out)
        clear ON OK
        generalize varsL X = NV at ON11 HVs
        generalize varsL (t ++ u) = KV at OK11 HVs
        obtain ⟨no, nc, rfl, hnc1, hnc2⟩ := ON11.out.shape
        obtain ⟨ko, kc, rfl, hkc1, hkc2⟩ := OK11.out.shape
        unfold maxLen at hnc2 hkc2
        go_wp2
        go_loopw [20] (fun iv wr => ∃ a : Nat, a ≤ NV.length ∧ iv = .int .i64 a ∧ Below w11.heap.size w11 wr) (fun iv _ => NV.length - (intOf iv).toNat)
        case atStart => exact ⟨0, Nat.zero_le _, rfl, Below.refl _ _⟩
        case round =>
          obtain ⟨a, ha, rfl, hbl⟩ := hrel
          have HBl := hid hbl
          by_cases hal : a < NV.length
          · obtain ⟨y, hy⟩ : ∃ y, NV[a]? = some y := ⟨_, List.getElem?_eq_getElem hal⟩
            have HyK := hid (HVs.out y (List.mem_of_getElem? hy))
            obtain ⟨gn, cn, hv, hcn, _, _⟩ := row_placeR (ON11.out.later hbl) hy
            simp only [Value.slice.injEq, true_and] at hv
            obtain ⟨rfl, rfl⟩ := hv
            clear hbl hy
            go_wp2
            go_loopw [21, 22] (fun bv jv ws => ∃ (j : Nat) (B : Bool), j ≤ KV.length ∧ jv = .int .i64 j ∧ bv = .bool B ∧ B = decide (y ∈ KV.take j) ∧ Below wr.heap.size wr ws) (fun _ jv _ => KV.length - (intOf jv).toNat)
            case atStart => exact ⟨0, false, Nat.zero_le _, rfl, rfl, by simp, Below.refl _ _⟩
            case round =>
              obtain ⟨j, B, hj, rfl, rfl, hB, hbl⟩ := hrel
              have HBb := hid hB
              have HB2 := hid hbl
              clear hB
              by_cases hjl : j < KV.length
              · obtain ⟨z, hz⟩ : ∃ z, KV[j]? = some z := ⟨_, List.getElem?_eq_getElem hjl⟩
                obtain ⟨gk, ck, hv, hck, _, _⟩ := row_placeR ((OK11.out.later HBl.out).later hbl) hz
                simp only [Value.slice.injEq, true_and] at hv
                obtain ⟨rfl, rfl⟩ := hv
                have hcn2 := (Kp.of_below hbl).cell _ _ hcn
                have HN := hid (mem_take_next (c := y) hz)
                clear hz hbl
                cases B with
                | true =>
                  have HB3 : Hid (true = decide (y ∈ KV.take (j + 1))) := by show _ = _; rw [HN.out, ← HBb.out]; rfl
                  go_upto_region 27 with fail
                  refine region_below (by kernel_rfl) (by kernel_rfl) ?_
                  (go_big_quiet_want; go_big_quiet_op; go_big_quiet_on)
                  (go_big_quiet_want; go_big_quiet_op; go_big_quiet_on)
                  go_big_quiet_skip
                  go_big_quiet_skip
                  go_big_quiet_skip
                  go_big_quiet_skip
                  go_big_quiet_skip
                  go_big_quiet_skip
                  go_big_quiet_skip
                  go_big_quiet_skip
                  go_big_quiet_skip
                  go_big_quiet_want
                  refine ⟨.bool true, fun w' hw' => ?_, ?_⟩
                  · unfold Oper.quietAt; go_simp
                  simp only [Act.put, List.setIfInBounds_toArray, List.set_cons_zero, List.set_cons_succ]
                  go_big_quiet_on
                  (go_big_quiet_want; go_big_quiet_op; go_big_quiet_on)
                  refine wpQuiet_nil ?_
                  intro w2 hb2
                  have HB4 := hid (below_step HB2.out hb2)
                  clear hb2 hcn2 hck
                  go_wp2
                  go_roundw
                  case rel => exact ⟨j + 1, true, by omega, by go_num, rfl, HB3.out, HB4.out⟩
                  case measure => simp [intOf]; omega
                | false =>
                  by_cases hzy : z = y
                  · have HB3 : Hid (true = decide (y ∈ KV.take (j + 1))) := by show _ = _; rw [HN.out, ← HBb.out, decide_eq_true hzy]; rfl
                    have he : (z == y) = true := by rw [beq_iff_eq]; exact hzy
                    clear hzy
                    go_upto_region 27 with fail
                    refine region_below (by kernel_rfl) (by kernel_rfl) ?_
                    (go_big_quiet_want; go_big_quiet_op; go_big_quiet_on)
                    (go_big_quiet_want; go_big_quiet_op; go_big_quiet_on)
                    (go_big_quiet_want; go_big_quiet_op; go_big_quiet_on)
                    (go_big_quiet_want; go_big_quiet_op; go_big_quiet_on)
                    go_big_quiet_want
                    refine ⟨.pointer (some ⟨gk, j, none⟩), fun w' hw' => ?_, ?_⟩
                    · unfold Oper.quietAt; go_simp
                    simp only [Act.put, List.setIfInBounds_toArray, List.set_cons_zero, List.set_cons_succ]
                    go_big_quiet_on
                    go_big_quiet_want
                    refine ⟨.int .i64 z, fun w' hw' => ?_, ?_⟩
                    · have hh0 := (Kp.of_below hw').cell _ _ hck; unfold Oper.quietAt; go_simp
                    simp only [Act.put, List.setIfInBounds_toArray, List.set_cons_zero, List.set_cons_succ]
                    go_big_quiet_on
                    (go_big_quiet_want; go_big_quiet_op; go_big_quiet_on)
                    (go_big_quiet_want; go_big_quiet_op; go_big_quiet_on)
                    go_big_quiet_want
                    refine ⟨.pointer (some ⟨gn, a, none⟩), fun w' hw' => ?_, ?_⟩
                    · unfold Oper.quietAt; go_simp
                    simp only [Act.put, List.setIfInBounds_toArray, List.set_cons_zero, List.set_cons_succ]
                    go_big_quiet_on
                    go_big_quiet_want
                    refine ⟨.int .i64 y, fun w' hw' => ?_, ?_⟩
                    · have hh0 := (Kp.of_below hw').cell _ _ hcn2; unfold Oper.quietAt; go_simp
                    simp only [Act.put, List.setIfInBounds_toArray, List.set_cons_zero, List.set_cons_succ]
                    go_big_quiet_on
                    go_big_quiet_want
                    refine ⟨.bool true, fun w' hw' => ?_, ?_⟩
                    · unfold Oper.quietAt; go_simp
                    simp only [Act.put, List.setIfInBounds_toArray, List.set_cons_zero, List.set_cons_succ]
                    go_big_quiet_on
                    go_big_quiet_want
                    refine ⟨.bool true, fun w' hw' => ?_, ?_⟩
                    · unfold Oper.quietAt; go_simp
                    simp only [Act.put, List.setIfInBounds_toArray, List.set_cons_zero, List.set_cons_succ]
                    go_big_quiet_on
                    (go_big_quiet_want; go_big_quiet_op; go_big_quiet_on)
                    refine wpQuiet_nil ?_
                    intro w2 hb2
                    have HB4 := hid (below_step HB2.out hb2)
                    clear hb2 hcn2 hck
                    go_wp2
                    go_roundw
                    case rel => exact ⟨j + 1, true, by omega, by go_num, rfl, HB3.out, HB4.out⟩
                    case measure => simp [intOf]; omega
                  · have HB3 : Hid (false = decide (y ∈ KV.take (j + 1))) := by show _ = _; rw [HN.out, ← HBb.out, decide_eq_false hzy]; rfl
                    have he : (z == y) = false := by rw [beq_eq_false_iff_ne]; exact hzy
                    clear hzy
                    go_upto_region 27 with fail
                    refine region_below (by kernel_rfl) (by kernel_rfl) ?_
                    (go_big_quiet_want; go_big_quiet_op; go_big_quiet_on)
                    (go_big_quiet_want; go_big_quiet_op; go_big_quiet_on)
                    (go_big_quiet_want; go_big_quiet_op; go_big_quiet_on)
                    (go_big_quiet_want; go_big_quiet_op; go_big_quiet_on)
                    go_big_quiet_want
                    refine ⟨.pointer (some ⟨gk, j, none⟩), fun w' hw' => ?_, ?_⟩
                    · unfold Oper.quietAt; go_simp
                    simp only [Act.put, List.setIfInBounds_toArray, List.set_cons_zero, List.set_cons_succ]
                    go_big_quiet_on
                    go_big_quiet_want
                    refine ⟨.int .i64 z, fun w' hw' => ?_, ?_⟩
                    · have hh0 := (Kp.of_below hw').cell _ _ hck; unfold Oper.quietAt; go_simp
                    simp only [Act.put, List.setIfInBounds_toArray, List.set_cons_zero, List.set_cons_succ]
                    go_big_quiet_on
                    (go_big_quiet_want; go_big_quiet_op; go_big_quiet_on)
                    (go_big_quiet_want; go_big_quiet_op; go_big_quiet_on)
                    go_big_quiet_want
                    refine ⟨.pointer (some ⟨gn, a, none⟩), fun w' hw' => ?_, ?_⟩
                    · unfold Oper.quietAt; go_simp
                    simp only [Act.put, List.setIfInBounds_toArray, List.set_cons_zero, List.set_cons_succ]
                    go_big_quiet_on
                    go_big_quiet_want
                    refine ⟨.int .i64 y, fun w' hw' => ?_, ?_⟩
                    · have hh0 := (Kp.of_below hw').cell _ _ hcn2; unfold Oper.quietAt; go_simp
                    simp only [Act.put, List.setIfInBounds_toArray, List.set_cons_zero, List.set_cons_succ]
                    go_big_quiet_on
                    go_big_quiet_want
                    refine ⟨.bool false, fun w' hw' => ?_, ?_⟩
                    · unfold Oper.quietAt; go_simp
                    simp only [Act.put, List.setIfInBounds_toArray, List.set_cons_zero, List.set_cons_succ]
                    go_big_quiet_on
                    go_big_quiet_want
                    refine ⟨.bool false, fun w' hw' => ?_, ?_⟩
                    · unfold Oper.quietAt; go_simp
                    simp only [Act.put, List.setIfInBounds_toArray, List.set_cons_zero, List.set_cons_succ]
                    go_big_quiet_on
                    (go_big_quiet_want; go_big_quiet_op; go_big_quiet_on)
                    refine wpQuiet_nil ?_
                    intro w2 hb2
                    have HB4 := hid (below_step HB2.out hb2)
                    clear hb2 hcn2 hck
                    go_wp2
                    go_roundw
                    case rel => exact ⟨j + 1, false, by omega, by go_num, rfl, HB3.out, HB4.out⟩
                    case measure => simp [intOf]; omega
              · have hje : j = KV.length := by omega
                have hBt : B = true := by rw [HBb.out, hje, List.take_length, decide_eq_true HyK.out]
                subst hBt
                have HB4 := hid (below_step HBl.out hbl)
                clear hbl hje
                go_wp2
                go_roundw
                case rel => exact ⟨a + 1, by omega, by go_num, HB4.out⟩
                case measure => simp [intOf]; omega
          · have BF := hid (below_step B11.out hbl)
            clear hbl
            go_wp2
            go_ret
            exact ⟨rfl, BF.out⟩
    · generalize termE sig u = E at hue ⊢
      have heb : (E != 0) = true := by simpa using hue
      rw [hte]
      go_wp2
      go_ret
      exact ⟨rfl, B4.out⟩
  · generalize termE sig t = E at hte ⊢
    generalize termE sig u = E2
    have heb : (E != 0) = true := by simpa using hte
    go_wp2
    go_ret
    exact ⟨rfl, B4.out⟩

end Go.Proofs.YtjcgngfidnechabDoor
