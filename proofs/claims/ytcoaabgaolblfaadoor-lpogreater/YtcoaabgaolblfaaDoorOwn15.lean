/- The document's Greater of layer 11. -/
import Derived.Test.YtcoaabgaolblfaaDoorOwn14
import Derived.Test.YtcoaabgaolblfaaDoorOwn3
namespace Go.Proofs.YtcoaabgaolblfaaDoor
open Go.RowKit Go.Maps Go.BigFrame

theorem MX.slice {base : Nat} {w : World} {sl : Value} {rb : Nat → Nat} {n k : Nat} {U : Nat → Nat → Bool} (h : MX base w sl rb n k U) : ∃ ro rc, sl = .slice ro k rc := by
  rcases h.own.2 with ⟨hv, h0⟩ | ⟨g, cap, cur, hv, _⟩
  · subst h0
    exact ⟨none, 0, hv⟩
  · exact ⟨_, _, hv⟩

set_option maxRecDepth 100000 in
set_option maxHeartbeats 6400000 in
theorem refGreater11_any (sv pv v1 v2 : Value) (sig : List Sy) (ps : List (Int × Int)) (s t : List Int) (w : World) (hs : Sg w sv sig) (hp : Rc w pv ps) (h1 : Is w v1 s) (h2 : Is w v2 t) (hc : ∀ i, ¬ Up ps i i) (hb1 : s.length * 8 ≤ 140737488351232) (hb2 : t.length * 8 ≤ 140737488351232) :
    Calls Tryd.prog 8 #[sv, pv, v1, v2] w fun e w' => e = .returned (.bool (grB sig ps s t)) ∧ Below w.heap.size w w' := by
  obtain ⟨sgo, sgc, rfl, hsgo, hsgc, _⟩ := Row.flat hs
  obtain ⟨ao, ca, rfl, hao, hca, _⟩ := h1.flatI
  obtain ⟨bo, cb, rfl, hbo, hcb, _⟩ := h2.flatI
  obtain ⟨gp, rfl⟩ : ∃ gp, pv = .pointer (some ⟨gp, 0, none⟩) := by obtain ⟨_, gp, _, _, _, _, _, e, _⟩ := hp; exact ⟨gp, e⟩
  have HS := hid hs
  have HP := hid hp
  have H1 := hid h1
  have H2 := hid h2
  have HC := hid hc
  unfold maxLen at hsgc
  clear hs hp h1 h2 hc
  go_enter Tryd.func8, Tryd.ntmps8
  go_wp2_with fail
  refine (refCheck_any _ _ sig s w HS.out H1.out hb1).mono ?_
  rintro e w1 ⟨rfl, hbb1⟩
  have B1 := hid hbb1
  clear hbb1
  by_cases hE1 : ¬ termE sig s = 0
  · have HE := hid hE1
    have hne : (termE sig s != 0) = true := by rw [bne_iff_ne]; exact hE1
    clear hE1
    generalize hz : termE sig s = z at hne ⊢
    have HZ := hid hz
    clear hz
    go_wp2_with fail
    go_wp2
    go_ret
    exact ⟨ret1b (gr_no (fun h => HE.out (may_term h.1).1)).symm, B1.out⟩
  have hE1 : termE sig s = 0 := Decidable.not_not.1 hE1
  have HE1 := hid hE1
  rw [hE1]
  clear hE1
  go_wp2_with fail
  refine (refCheck_any _ _ sig t w1 (HS.out.kp (Kp.of_below B1.out)) (H2.out.kp (Kp.of_below B1.out)) hb2).mono ?_
  rintro e w2 ⟨rfl, hbb2⟩
  have B2 : Hid (Below w.heap.size w w2) := hid (B1.out.trans (hbb2.mono B1.out.size))
  clear hbb2
  by_cases hE2 : ¬ termE sig t = 0
  · have HE := hid hE2
    have hne : (termE sig t != 0) = true := by rw [bne_iff_ne]; exact hE2
    clear hE2
    generalize hz : termE sig t = z at hne ⊢
    have HZ := hid hz
    clear hz
    go_wp2
    go_ret
    exact ⟨ret1b (gr_no (fun h => HE.out (may_term h.2).1)).symm, B2.out⟩
  have hE2 : termE sig t = 0 := Decidable.not_not.1 hE2
  have HE2 := hid hE2
  rw [hE2]
  clear hE2
  by_cases hl1 : 512 < s.length
  · have hd1 : decide ((512 : Int) < (s.length : Int)) = true := by simp; omega
    go_wp2
    go_ret
    exact ⟨ret1b (gr_no (fun h => by have := (may_term h.1).2; omega)).symm, B2.out⟩
  have hd1 : decide ((512 : Int) < (s.length : Int)) = false := by simp; omega
  by_cases hl2 : 512 < t.length
  · have hd2 : decide ((512 : Int) < (t.length : Int)) = true := by simp; omega
    go_wp2
    go_ret
    exact ⟨ret1b (gr_no (fun h => by have := (may_term h.2).2; omega)).symm, B2.out⟩
  have hd2 : decide ((512 : Int) < (t.length : Int)) = false := by simp; omega
  have HM1 := hid (may_of (by omega) HE1.out : mayB sig s = true)
  have HM2 := hid (may_of (by omega) HE2.out : mayB sig t = true)
  have hsp := may_pos HM1.out
  have htp := may_pos HM2.out
  have HRs := hid (term_parts HE1.out).2
  have HRt := hid (term_parts HE2.out).2
  have HAr : Hid (ArOk sig) := hid (sigE_ok (term_parts HE1.out).1)
  have hT0 := hid (tb_start w2 (.slice sgo sig.length sgc) (.pointer (some ⟨gp, 0, none⟩)) (.slice ao s.length ca) (.slice bo t.length cb) t.length)
  have hBs := hid (B2.out.trans ((below_alloc (w := w2) (.cells #[.slice sgo sig.length sgc, .pointer (some ⟨gp, 0, none⟩), .slice ao s.length ca, .slice bo t.length cb, .slice none 0 0, .slice none 0 0] 59)).mono B2.out.size))
  have hgx : w.heap.size ≤ w2.heap.size := B2.out.size
  go_wp2
  generalize hgg : w2.heap.size = gx at hT0 hBs hgx ⊢
  clear hgg
  go_loopw [10] (fun x wr => ∃ (k : Nat) (s4 s5 : Value) (rs rm : Nat → Nat), k ≤ s.length ∧ x = .int .i64 k ∧ TbW gx wr gx (.slice sgo sig.length sgc) (.pointer (some ⟨gp, 0, none⟩)) (.slice ao s.length ca) (.slice bo t.length cb) s4 s5 rs rm t.length k k (fun _ _ => false) (fun _ _ => false) ∧ Below w.heap.size w wr) (fun x _ => s.length - (intOf x).toNat)
  case atStart => exact ⟨0, _, _, _, _, by omega, rfl, hT0.out, hBs.out⟩
  case round =>
    clear hT0 hBs
    obtain ⟨k, s4, s5, rs, rm, hk, rfl, hR, hbl⟩ := hrel
    obtain ⟨ro4, rc4, rfl⟩ := hR.S.slice
    obtain ⟨ro5, rc5, rfl⟩ := hR.M.slice
    have HR := hid hR
    have BR := hid hbl
    clear hR hbl
    by_cases hk2 : k < s.length
    · go_wp2_with fail
      refine wp_region_held_drew (S := fun _ => True) (by kernel_rfl) trivial (fun _ => ?_)
      obtain ⟨wd4, hwd⟩ : ∃ X, X = wr.drew := ⟨_, rfl⟩
      have HT4 := hid (HR.out.later (Below.refl wr.heap.size wr).drew)
      have BT4 := hid (BR.out.drew)
      rw [← hwd] at HT4 BT4 ⊢
      clear hwd HR BR
      obtain ⟨v4, w3, hr3, c2, c3, hR3, hB3⟩ := tb_grow4 HT4.out (Nat.le_of_lt (Array.getElem?_eq_some_iff.1 HT4.out.ptr).1) (by omega) BT4.out hgx
      obtain ⟨ron4, rcn4, rfl⟩ := hR3.S.slice
      have c1 := HT4.out.cells.2.2.2.1
      have c1b := (Kp.of_below (below_alloc (w := wd4) (.cells (rowB t.length (fun _ => false)) 4))).cell _ _ c1
      have c1c := (Kp.of_below (below_alloc (w := wd4.alloc (.cells (rowB t.length (fun _ => false)) 4)) (.cells #[.slice (some ⟨wd4.heap.size, 0, none⟩) t.length t.length] 60))).cell _ _ c1b
      have HR3 := hidP hr3
      have HM := hidP (run_make_bool11 wd4 t.length (by omega))
      have HU4 := hid hR3
      have BU4 := hid hB3
      clear hr3 hR3 hB3
      refine wpAnyH_take (i := 0) (v := .pointer (some ⟨gx, 0, none⟩)) rfl (by kernel_rfl) (by kernel_rfl) (by kernel_rfl) (fun _ _ _ h => h) (Or.inl ⟨by rfl, fun w' h => by go_simp⟩) trivial ?_
      simp only [Act.put, List.setIfInBounds_toArray]
      refine wpAnyH_take (i := 1) (v := .pointer (some ⟨gx, 0, none⟩)) rfl (by kernel_rfl) (by kernel_rfl) (by kernel_rfl) (fun _ _ _ h => h) (Or.inl ⟨by rfl, fun w' h => by go_simp⟩) trivial ?_
      simp only [Act.put]
      refine wpAnyH_take (i := 2) (v := .pointer (some ⟨gx, 0, none⟩)) rfl (by kernel_rfl) (by kernel_rfl) (by kernel_rfl) (fun _ _ _ h => h) (Or.inl ⟨by rfl, fun w' h => by go_simp⟩) trivial ?_
      simp only [Act.put]
      refine wpAnyH_take (i := 3) (v := .pointer (some ⟨gx, 4, none⟩)) rfl (by kernel_rfl) (by kernel_rfl) (by kernel_rfl) (fun _ _ _ h => h) (Or.inl ⟨by rfl, fun w' h => by go_simp⟩) trivial ?_
      simp only [Act.put]
      refine wpAnyH_take (i := 5) (v := .slice bo t.length cb) rfl (by kernel_rfl) (by kernel_rfl) (by kernel_rfl) (fun _ _ _ h => h) (Or.inl ⟨by rfl, fun w' h => by go_simp⟩) trivial ?_
      simp only [Act.put]
      refine wpAnyH_take (i := 6) (v := .int .i64 (t.length : Int)) rfl (by kernel_rfl) (by kernel_rfl) (by kernel_rfl) (fun _ _ _ h => h) (Or.inl ⟨by rfl, fun w' h => by go_simp⟩) trivial ?_
      simp only [Act.put]
      refine wpAnyH_ready (rs := [4, 7]) (by kernel_rfl) (by simp) (AllReadyH.cons rfl (fun K hK => ?_) (AllReadyH.cons rfl (fun K hK => ?_) AllReadyH.nil))
      · go_simp
        refine hK.out _ _ trivial (fun hS9 => ?_)
        clear hK K hS9
        try simp only [Act.put]
        refine wpAnyH_ready (rs := [7]) (by kernel_rfl) (by simp) (AllReadyH.cons rfl (fun K hK => ?_) AllReadyH.nil)
        · have hm := HM.out
          go_simp
          refine hK.out _ _ trivial (fun hS9 => ?_)
          clear hK K hS9 hm
          try simp only [Act.put]
          refine wpAnyH_ready (rs := [8]) (by kernel_rfl) (by simp) (AllReadyH.cons rfl (fun K hK => ?_) AllReadyH.nil)
          · go_simp
            refine hK.out _ _ trivial (fun hS9 => ?_)
            clear hK K hS9
            try simp only [Act.put]
            refine wpAnyH_ready (rs := [9]) (by kernel_rfl) (by simp) (AllReadyH.cons rfl (fun K hK => ?_) AllReadyH.nil)
            refine step_append_run rfl _ _ 57 rfl _ _ rfl rfl HR3.out ?_
            refine hK.out _ _ trivial (fun hS9 => ?_)
            clear hK K hS9
            try simp only [Act.put]
            refine wpAnyH_take (i := 10) (v := .pointer (some ⟨gx, 0, none⟩)) rfl (by kernel_rfl) (by kernel_rfl) (by kernel_rfl) (fun _ _ _ h => h) (Or.inl ⟨by rfl, fun w' h => by go_simp⟩) trivial ?_
            simp only [Act.put]
            refine wpAnyH_take (i := 11) (v := .pointer (some ⟨gx, 4, none⟩)) rfl (by kernel_rfl) (by kernel_rfl) (by kernel_rfl) (fun _ _ _ h => h) (Or.inl ⟨by rfl, fun w' h => by go_simp⟩) trivial ?_
            simp only [Act.put]
            refine wpAnyH_ready (rs := [12]) (by kernel_rfl) (by simp) (AllReadyH.cons rfl (fun K hK => ?_) AllReadyH.nil)
            go_simp
            refine hK.out _ _ trivial (fun hS9 => ?_)
            clear hK K hS9
            refine wpAnyH_done (by kernel_rfl) ?_ _
            clear HM HR3 c1 c2 c3 c1b c1c
            generalize w3.setCell ⟨gx, 4, none⟩ (.slice ron4 (k + 1) rcn4) = wn4 at HU4 BU4 ⊢
            go_wp2_with fail
            refine wp_region_held_drew (S := fun _ => True) (by kernel_rfl) trivial (fun _ => ?_)
            obtain ⟨wd5, hwd⟩ : ∃ X, X = wn4.drew := ⟨_, rfl⟩
            have HT5 := hid (HU4.out.later (Below.refl wn4.heap.size wn4).drew)
            have BT5 := hid (BU4.out.drew)
            rw [← hwd] at HT5 BT5 ⊢
            clear hwd HU4 BU4
            obtain ⟨v5, w3, hr3, c2, c3, hR3, hB3⟩ := tb_grow5 HT5.out (Nat.le_of_lt (Array.getElem?_eq_some_iff.1 HT5.out.ptr).1) (by omega) BT5.out hgx
            obtain ⟨ron5, rcn5, rfl⟩ := hR3.M.slice
            have c1 := HT5.out.cells.2.2.2.2
            have c1b := (Kp.of_below (below_alloc (w := wd5) (.cells (rowB t.length (fun _ => false)) 4))).cell _ _ c1
            have c1c := (Kp.of_below (below_alloc (w := wd5.alloc (.cells (rowB t.length (fun _ => false)) 4)) (.cells #[.slice (some ⟨wd5.heap.size, 0, none⟩) t.length t.length] 60))).cell _ _ c1b
            have HR3 := hidP hr3
            have HM := hidP (run_make_bool11 wd5 t.length (by omega))
            have HU5 := hid hR3
            have BU5 := hid hB3
            clear hr3 hR3 hB3
            refine wpAnyH_take (i := 0) (v := .pointer (some ⟨gx, 0, none⟩)) rfl (by kernel_rfl) (by kernel_rfl) (by kernel_rfl) (fun _ _ _ h => h) (Or.inl ⟨by rfl, fun w' h => by go_simp⟩) trivial ?_
            simp only [Act.put, List.setIfInBounds_toArray]
            refine wpAnyH_take (i := 1) (v := .pointer (some ⟨gx, 0, none⟩)) rfl (by kernel_rfl) (by kernel_rfl) (by kernel_rfl) (fun _ _ _ h => h) (Or.inl ⟨by rfl, fun w' h => by go_simp⟩) trivial ?_
            simp only [Act.put]
            refine wpAnyH_take (i := 2) (v := .pointer (some ⟨gx, 0, none⟩)) rfl (by kernel_rfl) (by kernel_rfl) (by kernel_rfl) (fun _ _ _ h => h) (Or.inl ⟨by rfl, fun w' h => by go_simp⟩) trivial ?_
            simp only [Act.put]
            refine wpAnyH_take (i := 3) (v := .pointer (some ⟨gx, 5, none⟩)) rfl (by kernel_rfl) (by kernel_rfl) (by kernel_rfl) (fun _ _ _ h => h) (Or.inl ⟨by rfl, fun w' h => by go_simp⟩) trivial ?_
            simp only [Act.put]
            refine wpAnyH_take (i := 5) (v := .slice bo t.length cb) rfl (by kernel_rfl) (by kernel_rfl) (by kernel_rfl) (fun _ _ _ h => h) (Or.inl ⟨by rfl, fun w' h => by go_simp⟩) trivial ?_
            simp only [Act.put]
            refine wpAnyH_take (i := 6) (v := .int .i64 (t.length : Int)) rfl (by kernel_rfl) (by kernel_rfl) (by kernel_rfl) (fun _ _ _ h => h) (Or.inl ⟨by rfl, fun w' h => by go_simp⟩) trivial ?_
            simp only [Act.put]
            refine wpAnyH_ready (rs := [4, 7]) (by kernel_rfl) (by simp) (AllReadyH.cons rfl (fun K hK => ?_) (AllReadyH.cons rfl (fun K hK => ?_) AllReadyH.nil))
            · go_simp
              refine hK.out _ _ trivial (fun hS9 => ?_)
              clear hK K hS9
              try simp only [Act.put]
              refine wpAnyH_ready (rs := [7]) (by kernel_rfl) (by simp) (AllReadyH.cons rfl (fun K hK => ?_) AllReadyH.nil)
              · have hm := HM.out
                go_simp
                refine hK.out _ _ trivial (fun hS9 => ?_)
                clear hK K hS9 hm
                try simp only [Act.put]
                refine wpAnyH_ready (rs := [8]) (by kernel_rfl) (by simp) (AllReadyH.cons rfl (fun K hK => ?_) AllReadyH.nil)
                · go_simp
                  refine hK.out _ _ trivial (fun hS9 => ?_)
                  clear hK K hS9
                  try simp only [Act.put]
                  refine wpAnyH_ready (rs := [9]) (by kernel_rfl) (by simp) (AllReadyH.cons rfl (fun K hK => ?_) AllReadyH.nil)
                  refine step_append_run rfl _ _ 57 rfl _ _ rfl rfl HR3.out ?_
                  refine hK.out _ _ trivial (fun hS9 => ?_)
                  clear hK K hS9
                  try simp only [Act.put]
                  refine wpAnyH_take (i := 10) (v := .pointer (some ⟨gx, 0, none⟩)) rfl (by kernel_rfl) (by kernel_rfl) (by kernel_rfl) (fun _ _ _ h => h) (Or.inl ⟨by rfl, fun w' h => by go_simp⟩) trivial ?_
                  simp only [Act.put]
                  refine wpAnyH_take (i := 11) (v := .pointer (some ⟨gx, 5, none⟩)) rfl (by kernel_rfl) (by kernel_rfl) (by kernel_rfl) (fun _ _ _ h => h) (Or.inl ⟨by rfl, fun w' h => by go_simp⟩) trivial ?_
                  simp only [Act.put]
                  refine wpAnyH_ready (rs := [12]) (by kernel_rfl) (by simp) (AllReadyH.cons rfl (fun K hK => ?_) AllReadyH.nil)
                  go_simp
                  refine hK.out _ _ trivial (fun hS9 => ?_)
                  clear hK K hS9
                  refine wpAnyH_done (by kernel_rfl) ?_ _
                  clear HM HR3 c1 c2 c3 c1b c1c
                  generalize w3.setCell ⟨gx, 5, none⟩ (.slice ron5 (k + 1) rcn5) = wn5 at HU5 BU5 ⊢
                  go_wp2
                  go_roundw
                  case rel => exact ⟨k + 1, _, _, _, _, by omega, by go_num, HU5.out, BU5.out⟩
                  case measure => simp [intOf]; omega
            · have hm := HM.out
              go_simp
              refine hK.out _ _ trivial (fun hS9 => ?_)
              clear hK K hS9 hm
              try simp only [Act.put]
              refine wpAnyH_ready (rs := [4, 8]) (by kernel_rfl) (by simp) (AllReadyH.cons rfl (fun K hK => ?_) (AllReadyH.cons rfl (fun K hK => ?_) AllReadyH.nil))
              · go_simp
                refine hK.out _ _ trivial (fun hS9 => ?_)
                clear hK K hS9
                try simp only [Act.put]
                refine wpAnyH_ready (rs := [8]) (by kernel_rfl) (by simp) (AllReadyH.cons rfl (fun K hK => ?_) AllReadyH.nil)
                · go_simp
                  refine hK.out _ _ trivial (fun hS9 => ?_)
                  clear hK K hS9
                  try simp only [Act.put]
                  refine wpAnyH_ready (rs := [9]) (by kernel_rfl) (by simp) (AllReadyH.cons rfl (fun K hK => ?_) AllReadyH.nil)
                  refine step_append_run rfl _ _ 57 rfl _ _ rfl rfl HR3.out ?_
                  refine hK.out _ _ trivial (fun hS9 => ?_)
                  clear hK K hS9
                  try simp only [Act.put]
                  refine wpAnyH_take (i := 10) (v := .pointer (some ⟨gx, 0, none⟩)) rfl (by kernel_rfl) (by kernel_rfl) (by kernel_rfl) (fun _ _ _ h => h) (Or.inl ⟨by rfl, fun w' h => by go_simp⟩) trivial ?_
                  simp only [Act.put]
                  refine wpAnyH_take (i := 11) (v := .pointer (some ⟨gx, 5, none⟩)) rfl (by kernel_rfl) (by kernel_rfl) (by kernel_rfl) (fun _ _ _ h => h) (Or.inl ⟨by rfl, fun w' h => by go_simp⟩) trivial ?_
                  simp only [Act.put]
                  refine wpAnyH_ready (rs := [12]) (by kernel_rfl) (by simp) (AllReadyH.cons rfl (fun K hK => ?_) AllReadyH.nil)
                  go_simp
                  refine hK.out _ _ trivial (fun hS9 => ?_)
                  clear hK K hS9
                  refine wpAnyH_done (by kernel_rfl) ?_ _
                  clear HM HR3 c1 c2 c3 c1b c1c
                  generalize w3.setCell ⟨gx, 5, none⟩ (.slice ron5 (k + 1) rcn5) = wn5 at HU5 BU5 ⊢
                  go_wp2
                  go_roundw
                  case rel => exact ⟨k + 1, _, _, _, _, by omega, by go_num, HU5.out, BU5.out⟩
                  case measure => simp [intOf]; omega
              · go_simp
                refine hK.out _ _ trivial (fun hS9 => ?_)
                clear hK K hS9
                try simp only [Act.put]
                refine wpAnyH_ready (rs := [4]) (by kernel_rfl) (by simp) (AllReadyH.cons rfl (fun K hK => ?_) AllReadyH.nil)
                · go_simp
                  refine hK.out _ _ trivial (fun hS9 => ?_)
                  clear hK K hS9
                  try simp only [Act.put]
                  refine wpAnyH_ready (rs := [9]) (by kernel_rfl) (by simp) (AllReadyH.cons rfl (fun K hK => ?_) AllReadyH.nil)
                  refine step_append_run rfl _ _ 57 rfl _ _ rfl rfl HR3.out ?_
                  refine hK.out _ _ trivial (fun hS9 => ?_)
                  clear hK K hS9
                  try simp only [Act.put]
                  refine wpAnyH_take (i := 10) (v := .pointer (some ⟨gx, 0, none⟩)) rfl (by kernel_rfl) (by kernel_rfl) (by kernel_rfl) (fun _ _ _ h => h) (Or.inl ⟨by rfl, fun w' h => by go_simp⟩) trivial ?_
                  simp only [Act.put]
                  refine wpAnyH_take (i := 11) (v := .pointer (some ⟨gx, 5, none⟩)) rfl (by kernel_rfl) (by kernel_rfl) (by kernel_rfl) (fun _ _ _ h => h) (Or.inl ⟨by rfl, fun w' h => by go_simp⟩) trivial ?_
                  simp only [Act.put]
                  refine wpAnyH_ready (rs := [12]) (by kernel_rfl) (by simp) (AllReadyH.cons rfl (fun K hK => ?_) AllReadyH.nil)
                  go_simp
                  refine hK.out _ _ trivial (fun hS9 => ?_)
                  clear hK K hS9
                  refine wpAnyH_done (by kernel_rfl) ?_ _
                  clear HM HR3 c1 c2 c3 c1b c1c
                  generalize w3.setCell ⟨gx, 5, none⟩ (.slice ron5 (k + 1) rcn5) = wn5 at HU5 BU5 ⊢
                  go_wp2
                  go_roundw
                  case rel => exact ⟨k + 1, _, _, _, _, by omega, by go_num, HU5.out, BU5.out⟩
                  case measure => simp [intOf]; omega
      · have hm := HM.out
        go_simp
        refine hK.out _ _ trivial (fun hS9 => ?_)
        clear hK K hS9 hm
        try simp only [Act.put]
        refine wpAnyH_ready (rs := [4, 8]) (by kernel_rfl) (by simp) (AllReadyH.cons rfl (fun K hK => ?_) (AllReadyH.cons rfl (fun K hK => ?_) AllReadyH.nil))
        · go_simp
          refine hK.out _ _ trivial (fun hS9 => ?_)
          clear hK K hS9
          try simp only [Act.put]
          refine wpAnyH_ready (rs := [8]) (by kernel_rfl) (by simp) (AllReadyH.cons rfl (fun K hK => ?_) AllReadyH.nil)
          · go_simp
            refine hK.out _ _ trivial (fun hS9 => ?_)
            clear hK K hS9
            try simp only [Act.put]
            refine wpAnyH_ready (rs := [9]) (by kernel_rfl) (by simp) (AllReadyH.cons rfl (fun K hK => ?_) AllReadyH.nil)
            refine step_append_run rfl _ _ 57 rfl _ _ rfl rfl HR3.out ?_
            refine hK.out _ _ trivial (fun hS9 => ?_)
            clear hK K hS9
            try simp only [Act.put]
            refine wpAnyH_take (i := 10) (v := .pointer (some ⟨gx, 0, none⟩)) rfl (by kernel_rfl) (by kernel_rfl) (by kernel_rfl) (fun _ _ _ h => h) (Or.inl ⟨by rfl, fun w' h => by go_simp⟩) trivial ?_
            simp only [Act.put]
            refine wpAnyH_take (i := 11) (v := .pointer (some ⟨gx, 4, none⟩)) rfl (by kernel_rfl) (by kernel_rfl) (by kernel_rfl) (fun _ _ _ h => h) (Or.inl ⟨by rfl, fun w' h => by go_simp⟩) trivial ?_
            simp only [Act.put]
            refine wpAnyH_ready (rs := [12]) (by kernel_rfl) (by simp) (AllReadyH.cons rfl (fun K hK => ?_) AllReadyH.nil)
            go_simp
            refine hK.out _ _ trivial (fun hS9 => ?_)
            clear hK K hS9
            refine wpAnyH_done (by kernel_rfl) ?_ _
            clear HM HR3 c1 c2 c3 c1b c1c
            generalize w3.setCell ⟨gx, 4, none⟩ (.slice ron4 (k + 1) rcn4) = wn4 at HU4 BU4 ⊢
            go_wp2_with fail
            refine wp_region_held_drew (S := fun _ => True) (by kernel_rfl) trivial (fun _ => ?_)
            obtain ⟨wd5, hwd⟩ : ∃ X, X = wn4.drew := ⟨_, rfl⟩
            have HT5 := hid (HU4.out.later (Below.refl wn4.heap.size wn4).drew)
            have BT5 := hid (BU4.out.drew)
            rw [← hwd] at HT5 BT5 ⊢
            clear hwd HU4 BU4
            obtain ⟨v5, w3, hr3, c2, c3, hR3, hB3⟩ := tb_grow5 HT5.out (Nat.le_of_lt (Array.getElem?_eq_some_iff.1 HT5.out.ptr).1) (by omega) BT5.out hgx
            obtain ⟨ron5, rcn5, rfl⟩ := hR3.M.slice
            have c1 := HT5.out.cells.2.2.2.2
            have c1b := (Kp.of_below (below_alloc (w := wd5) (.cells (rowB t.length (fun _ => false)) 4))).cell _ _ c1
            have c1c := (Kp.of_below (below_alloc (w := wd5.alloc (.cells (rowB t.length (fun _ => false)) 4)) (.cells #[.slice (some ⟨wd5.heap.size, 0, none⟩) t.length t.length] 60))).cell _ _ c1b
            have HR3 := hidP hr3
            have HM := hidP (run_make_bool11 wd5 t.length (by omega))
            have HU5 := hid hR3
            have BU5 := hid hB3
            clear hr3 hR3 hB3
            refine wpAnyH_take (i := 0) (v := .pointer (some ⟨gx, 0, none⟩)) rfl (by kernel_rfl) (by kernel_rfl) (by kernel_rfl) (fun _ _ _ h => h) (Or.inl ⟨by rfl, fun w' h => by go_simp⟩) trivial ?_
            simp only [Act.put, List.setIfInBounds_toArray]
            refine wpAnyH_take (i := 1) (v := .pointer (some ⟨gx, 0, none⟩)) rfl (by kernel_rfl) (by kernel_rfl) (by kernel_rfl) (fun _ _ _ h => h) (Or.inl ⟨by rfl, fun w' h => by go_simp⟩) trivial ?_
            simp only [Act.put]
            refine wpAnyH_take (i := 2) (v := .pointer (some ⟨gx, 0, none⟩)) rfl (by kernel_rfl) (by kernel_rfl) (by kernel_rfl) (fun _ _ _ h => h) (Or.inl ⟨by rfl, fun w' h => by go_simp⟩) trivial ?_
            simp only [Act.put]
            refine wpAnyH_take (i := 3) (v := .pointer (some ⟨gx, 5, none⟩)) rfl (by kernel_rfl) (by kernel_rfl) (by kernel_rfl) (fun _ _ _ h => h) (Or.inl ⟨by rfl, fun w' h => by go_simp⟩) trivial ?_
            simp only [Act.put]
            refine wpAnyH_take (i := 5) (v := .slice bo t.length cb) rfl (by kernel_rfl) (by kernel_rfl) (by kernel_rfl) (fun _ _ _ h => h) (Or.inl ⟨by rfl, fun w' h => by go_simp⟩) trivial ?_
            simp only [Act.put]
            refine wpAnyH_take (i := 6) (v := .int .i64 (t.length : Int)) rfl (by kernel_rfl) (by kernel_rfl) (by kernel_rfl) (fun _ _ _ h => h) (Or.inl ⟨by rfl, fun w' h => by go_simp⟩) trivial ?_
            simp only [Act.put]
            refine wpAnyH_ready (rs := [4, 7]) (by kernel_rfl) (by simp) (AllReadyH.cons rfl (fun K hK => ?_) (AllReadyH.cons rfl (fun K hK => ?_) AllReadyH.nil))
            · go_simp
              refine hK.out _ _ trivial (fun hS9 => ?_)
              clear hK K hS9
              try simp only [Act.put]
              refine wpAnyH_ready (rs := [7]) (by kernel_rfl) (by simp) (AllReadyH.cons rfl (fun K hK => ?_) AllReadyH.nil)
              · have hm := HM.out
                go_simp
                refine hK.out _ _ trivial (fun hS9 => ?_)
                clear hK K hS9 hm
                try simp only [Act.put]
                refine wpAnyH_ready (rs := [8]) (by kernel_rfl) (by simp) (AllReadyH.cons rfl (fun K hK => ?_) AllReadyH.nil)
                · go_simp
                  refine hK.out _ _ trivial (fun hS9 => ?_)
                  clear hK K hS9
                  try simp only [Act.put]
                  refine wpAnyH_ready (rs := [9]) (by kernel_rfl) (by simp) (AllReadyH.cons rfl (fun K hK => ?_) AllReadyH.nil)
                  refine step_append_run rfl _ _ 57 rfl _ _ rfl rfl HR3.out ?_
                  refine hK.out _ _ trivial (fun hS9 => ?_)
                  clear hK K hS9
                  try simp only [Act.put]
                  refine wpAnyH_take (i := 10) (v := .pointer (some ⟨gx, 0, none⟩)) rfl (by kernel_rfl) (by kernel_rfl) (by kernel_rfl) (fun _ _ _ h => h) (Or.inl ⟨by rfl, fun w' h => by go_simp⟩) trivial ?_
                  simp only [Act.put]
                  refine wpAnyH_take (i := 11) (v := .pointer (some ⟨gx, 5, none⟩)) rfl (by kernel_rfl) (by kernel_rfl) (by kernel_rfl) (fun _ _ _ h => h) (Or.inl ⟨by rfl, fun w' h => by go_simp⟩) trivial ?_
                  simp only [Act.put]
                  refine wpAnyH_ready (rs := [12]) (by kernel_rfl) (by simp) (AllReadyH.cons rfl (fun K hK => ?_) AllReadyH.nil)
                  go_simp
                  refine hK.out _ _ trivial (fun hS9 => ?_)
                  clear hK K hS9
                  refine wpAnyH_done (by kernel_rfl) ?_ _
                  clear HM HR3 c1 c2 c3 c1b c1c
                  generalize w3.setCell ⟨gx, 5, none⟩ (.slice ron5 (k + 1) rcn5) = wn5 at HU5 BU5 ⊢
                  go_wp2
                  go_roundw
                  case rel => exact ⟨k + 1, _, _, _, _, by omega, by go_num, HU5.out, BU5.out⟩
                  case measure => simp [intOf]; omega
            · have hm := HM.out
              go_simp
              refine hK.out _ _ trivial (fun hS9 => ?_)
              clear hK K hS9 hm
              try simp only [Act.put]
              refine wpAnyH_ready (rs := [4, 8]) (by kernel_rfl) (by simp) (AllReadyH.cons rfl (fun K hK => ?_) (AllReadyH.cons rfl (fun K hK => ?_) AllReadyH.nil))
              · go_simp
                refine hK.out _ _ trivial (fun hS9 => ?_)
                clear hK K hS9
                try simp only [Act.put]
                refine wpAnyH_ready (rs := [8]) (by kernel_rfl) (by simp) (AllReadyH.cons rfl (fun K hK => ?_) AllReadyH.nil)
                · go_simp
                  refine hK.out _ _ trivial (fun hS9 => ?_)
                  clear hK K hS9
                  try simp only [Act.put]
                  refine wpAnyH_ready (rs := [9]) (by kernel_rfl) (by simp) (AllReadyH.cons rfl (fun K hK => ?_) AllReadyH.nil)
                  refine step_append_run rfl _ _ 57 rfl _ _ rfl rfl HR3.out ?_
                  refine hK.out _ _ trivial (fun hS9 => ?_)
                  clear hK K hS9
                  try simp only [Act.put]
                  refine wpAnyH_take (i := 10) (v := .pointer (some ⟨gx, 0, none⟩)) rfl (by kernel_rfl) (by kernel_rfl) (by kernel_rfl) (fun _ _ _ h => h) (Or.inl ⟨by rfl, fun w' h => by go_simp⟩) trivial ?_
                  simp only [Act.put]
                  refine wpAnyH_take (i := 11) (v := .pointer (some ⟨gx, 5, none⟩)) rfl (by kernel_rfl) (by kernel_rfl) (by kernel_rfl) (fun _ _ _ h => h) (Or.inl ⟨by rfl, fun w' h => by go_simp⟩) trivial ?_
                  simp only [Act.put]
                  refine wpAnyH_ready (rs := [12]) (by kernel_rfl) (by simp) (AllReadyH.cons rfl (fun K hK => ?_) AllReadyH.nil)
                  go_simp
                  refine hK.out _ _ trivial (fun hS9 => ?_)
                  clear hK K hS9
                  refine wpAnyH_done (by kernel_rfl) ?_ _
                  clear HM HR3 c1 c2 c3 c1b c1c
                  generalize w3.setCell ⟨gx, 5, none⟩ (.slice ron5 (k + 1) rcn5) = wn5 at HU5 BU5 ⊢
                  go_wp2
                  go_roundw
                  case rel => exact ⟨k + 1, _, _, _, _, by omega, by go_num, HU5.out, BU5.out⟩
                  case measure => simp [intOf]; omega
              · go_simp
                refine hK.out _ _ trivial (fun hS9 => ?_)
                clear hK K hS9
                try simp only [Act.put]
                refine wpAnyH_ready (rs := [4]) (by kernel_rfl) (by simp) (AllReadyH.cons rfl (fun K hK => ?_) AllReadyH.nil)
                · go_simp
                  refine hK.out _ _ trivial (fun hS9 => ?_)
                  clear hK K hS9
                  try simp only [Act.put]
                  refine wpAnyH_ready (rs := [9]) (by kernel_rfl) (by simp) (AllReadyH.cons rfl (fun K hK => ?_) AllReadyH.nil)
                  refine step_append_run rfl _ _ 57 rfl _ _ rfl rfl HR3.out ?_
                  refine hK.out _ _ trivial (fun hS9 => ?_)
                  clear hK K hS9
                  try simp only [Act.put]
                  refine wpAnyH_take (i := 10) (v := .pointer (some ⟨gx, 0, none⟩)) rfl (by kernel_rfl) (by kernel_rfl) (by kernel_rfl) (fun _ _ _ h => h) (Or.inl ⟨by rfl, fun w' h => by go_simp⟩) trivial ?_
                  simp only [Act.put]
                  refine wpAnyH_take (i := 11) (v := .pointer (some ⟨gx, 5, none⟩)) rfl (by kernel_rfl) (by kernel_rfl) (by kernel_rfl) (fun _ _ _ h => h) (Or.inl ⟨by rfl, fun w' h => by go_simp⟩) trivial ?_
                  simp only [Act.put]
                  refine wpAnyH_ready (rs := [12]) (by kernel_rfl) (by simp) (AllReadyH.cons rfl (fun K hK => ?_) AllReadyH.nil)
                  go_simp
                  refine hK.out _ _ trivial (fun hS9 => ?_)
                  clear hK K hS9
                  refine wpAnyH_done (by kernel_rfl) ?_ _
                  clear HM HR3 c1 c2 c3 c1b c1c
                  generalize w3.setCell ⟨gx, 5, none⟩ (.slice ron5 (k + 1) rcn5) = wn5 at HU5 BU5 ⊢
                  go_wp2
                  go_roundw
                  case rel => exact ⟨k + 1, _, _, _, _, by omega, by go_num, HU5.out, BU5.out⟩
                  case measure => simp [intOf]; omega
        · go_simp
          refine hK.out _ _ trivial (fun hS9 => ?_)
          clear hK K hS9
          try simp only [Act.put]
          refine wpAnyH_ready (rs := [4]) (by kernel_rfl) (by simp) (AllReadyH.cons rfl (fun K hK => ?_) AllReadyH.nil)
          · go_simp
            refine hK.out _ _ trivial (fun hS9 => ?_)
            clear hK K hS9
            try simp only [Act.put]
            refine wpAnyH_ready (rs := [9]) (by kernel_rfl) (by simp) (AllReadyH.cons rfl (fun K hK => ?_) AllReadyH.nil)
            refine step_append_run rfl _ _ 57 rfl _ _ rfl rfl HR3.out ?_
            refine hK.out _ _ trivial (fun hS9 => ?_)
            clear hK K hS9
            try simp only [Act.put]
            refine wpAnyH_take (i := 10) (v := .pointer (some ⟨gx, 0, none⟩)) rfl (by kernel_rfl) (by kernel_rfl) (by kernel_rfl) (fun _ _ _ h => h) (Or.inl ⟨by rfl, fun w' h => by go_simp⟩) trivial ?_
            simp only [Act.put]
            refine wpAnyH_take (i := 11) (v := .pointer (some ⟨gx, 4, none⟩)) rfl (by kernel_rfl) (by kernel_rfl) (by kernel_rfl) (fun _ _ _ h => h) (Or.inl ⟨by rfl, fun w' h => by go_simp⟩) trivial ?_
            simp only [Act.put]
            refine wpAnyH_ready (rs := [12]) (by kernel_rfl) (by simp) (AllReadyH.cons rfl (fun K hK => ?_) AllReadyH.nil)
            go_simp
            refine hK.out _ _ trivial (fun hS9 => ?_)
            clear hK K hS9
            refine wpAnyH_done (by kernel_rfl) ?_ _
            clear HM HR3 c1 c2 c3 c1b c1c
            generalize w3.setCell ⟨gx, 4, none⟩ (.slice ron4 (k + 1) rcn4) = wn4 at HU4 BU4 ⊢
            go_wp2_with fail
            refine wp_region_held_drew (S := fun _ => True) (by kernel_rfl) trivial (fun _ => ?_)
            obtain ⟨wd5, hwd⟩ : ∃ X, X = wn4.drew := ⟨_, rfl⟩
            have HT5 := hid (HU4.out.later (Below.refl wn4.heap.size wn4).drew)
            have BT5 := hid (BU4.out.drew)
            rw [← hwd] at HT5 BT5 ⊢
            clear hwd HU4 BU4
            obtain ⟨v5, w3, hr3, c2, c3, hR3, hB3⟩ := tb_grow5 HT5.out (Nat.le_of_lt (Array.getElem?_eq_some_iff.1 HT5.out.ptr).1) (by omega) BT5.out hgx
            obtain ⟨ron5, rcn5, rfl⟩ := hR3.M.slice
            have c1 := HT5.out.cells.2.2.2.2
            have c1b := (Kp.of_below (below_alloc (w := wd5) (.cells (rowB t.length (fun _ => false)) 4))).cell _ _ c1
            have c1c := (Kp.of_below (below_alloc (w := wd5.alloc (.cells (rowB t.length (fun _ => false)) 4)) (.cells #[.slice (some ⟨wd5.heap.size, 0, none⟩) t.length t.length] 60))).cell _ _ c1b
            have HR3 := hidP hr3
            have HM := hidP (run_make_bool11 wd5 t.length (by omega))
            have HU5 := hid hR3
            have BU5 := hid hB3
            clear hr3 hR3 hB3
            refine wpAnyH_take (i := 0) (v := .pointer (some ⟨gx, 0, none⟩)) rfl (by kernel_rfl) (by kernel_rfl) (by kernel_rfl) (fun _ _ _ h => h) (Or.inl ⟨by rfl, fun w' h => by go_simp⟩) trivial ?_
            simp only [Act.put, List.setIfInBounds_toArray]
            refine wpAnyH_take (i := 1) (v := .pointer (some ⟨gx, 0, none⟩)) rfl (by kernel_rfl) (by kernel_rfl) (by kernel_rfl) (fun _ _ _ h => h) (Or.inl ⟨by rfl, fun w' h => by go_simp⟩) trivial ?_
            simp only [Act.put]
            refine wpAnyH_take (i := 2) (v := .pointer (some ⟨gx, 0, none⟩)) rfl (by kernel_rfl) (by kernel_rfl) (by kernel_rfl) (fun _ _ _ h => h) (Or.inl ⟨by rfl, fun w' h => by go_simp⟩) trivial ?_
            simp only [Act.put]
            refine wpAnyH_take (i := 3) (v := .pointer (some ⟨gx, 5, none⟩)) rfl (by kernel_rfl) (by kernel_rfl) (by kernel_rfl) (fun _ _ _ h => h) (Or.inl ⟨by rfl, fun w' h => by go_simp⟩) trivial ?_
            simp only [Act.put]
            refine wpAnyH_take (i := 5) (v := .slice bo t.length cb) rfl (by kernel_rfl) (by kernel_rfl) (by kernel_rfl) (fun _ _ _ h => h) (Or.inl ⟨by rfl, fun w' h => by go_simp⟩) trivial ?_
            simp only [Act.put]
            refine wpAnyH_take (i := 6) (v := .int .i64 (t.length : Int)) rfl (by kernel_rfl) (by kernel_rfl) (by kernel_rfl) (fun _ _ _ h => h) (Or.inl ⟨by rfl, fun w' h => by go_simp⟩) trivial ?_
            simp only [Act.put]
            refine wpAnyH_ready (rs := [4, 7]) (by kernel_rfl) (by simp) (AllReadyH.cons rfl (fun K hK => ?_) (AllReadyH.cons rfl (fun K hK => ?_) AllReadyH.nil))
            · go_simp
              refine hK.out _ _ trivial (fun hS9 => ?_)
              clear hK K hS9
              try simp only [Act.put]
              refine wpAnyH_ready (rs := [7]) (by kernel_rfl) (by simp) (AllReadyH.cons rfl (fun K hK => ?_) AllReadyH.nil)
              · have hm := HM.out
                go_simp
                refine hK.out _ _ trivial (fun hS9 => ?_)
                clear hK K hS9 hm
                try simp only [Act.put]
                refine wpAnyH_ready (rs := [8]) (by kernel_rfl) (by simp) (AllReadyH.cons rfl (fun K hK => ?_) AllReadyH.nil)
                · go_simp
                  refine hK.out _ _ trivial (fun hS9 => ?_)
                  clear hK K hS9
                  try simp only [Act.put]
                  refine wpAnyH_ready (rs := [9]) (by kernel_rfl) (by simp) (AllReadyH.cons rfl (fun K hK => ?_) AllReadyH.nil)
                  refine step_append_run rfl _ _ 57 rfl _ _ rfl rfl HR3.out ?_
                  refine hK.out _ _ trivial (fun hS9 => ?_)
                  clear hK K hS9
                  try simp only [Act.put]
                  refine wpAnyH_take (i := 10) (v := .pointer (some ⟨gx, 0, none⟩)) rfl (by kernel_rfl) (by kernel_rfl) (by kernel_rfl) (fun _ _ _ h => h) (Or.inl ⟨by rfl, fun w' h => by go_simp⟩) trivial ?_
                  simp only [Act.put]
                  refine wpAnyH_take (i := 11) (v := .pointer (some ⟨gx, 5, none⟩)) rfl (by kernel_rfl) (by kernel_rfl) (by kernel_rfl) (fun _ _ _ h => h) (Or.inl ⟨by rfl, fun w' h => by go_simp⟩) trivial ?_
                  simp only [Act.put]
                  refine wpAnyH_ready (rs := [12]) (by kernel_rfl) (by simp) (AllReadyH.cons rfl (fun K hK => ?_) AllReadyH.nil)
                  go_simp
                  refine hK.out _ _ trivial (fun hS9 => ?_)
                  clear hK K hS9
                  refine wpAnyH_done (by kernel_rfl) ?_ _
                  clear HM HR3 c1 c2 c3 c1b c1c
                  generalize w3.setCell ⟨gx, 5, none⟩ (.slice ron5 (k + 1) rcn5) = wn5 at HU5 BU5 ⊢
                  go_wp2
                  go_roundw
                  case rel => exact ⟨k + 1, _, _, _, _, by omega, by go_num, HU5.out, BU5.out⟩
                  case measure => simp [intOf]; omega
            · have hm := HM.out
              go_simp
              refine hK.out _ _ trivial (fun hS9 => ?_)
              clear hK K hS9 hm
              try simp only [Act.put]
              refine wpAnyH_ready (rs := [4, 8]) (by kernel_rfl) (by simp) (AllReadyH.cons rfl (fun K hK => ?_) (AllReadyH.cons rfl (fun K hK => ?_) AllReadyH.nil))
              · go_simp
                refine hK.out _ _ trivial (fun hS9 => ?_)
                clear hK K hS9
                try simp only [Act.put]
                refine wpAnyH_ready (rs := [8]) (by kernel_rfl) (by simp) (AllReadyH.cons rfl (fun K hK => ?_) AllReadyH.nil)
                · go_simp
                  refine hK.out _ _ trivial (fun hS9 => ?_)
                  clear hK K hS9
                  try simp only [Act.put]
                  refine wpAnyH_ready (rs := [9]) (by kernel_rfl) (by simp) (AllReadyH.cons rfl (fun K hK => ?_) AllReadyH.nil)
                  refine step_append_run rfl _ _ 57 rfl _ _ rfl rfl HR3.out ?_
                  refine hK.out _ _ trivial (fun hS9 => ?_)
                  clear hK K hS9
                  try simp only [Act.put]
                  refine wpAnyH_take (i := 10) (v := .pointer (some ⟨gx, 0, none⟩)) rfl (by kernel_rfl) (by kernel_rfl) (by kernel_rfl) (fun _ _ _ h => h) (Or.inl ⟨by rfl, fun w' h => by go_simp⟩) trivial ?_
                  simp only [Act.put]
                  refine wpAnyH_take (i := 11) (v := .pointer (some ⟨gx, 5, none⟩)) rfl (by kernel_rfl) (by kernel_rfl) (by kernel_rfl) (fun _ _ _ h => h) (Or.inl ⟨by rfl, fun w' h => by go_simp⟩) trivial ?_
                  simp only [Act.put]
                  refine wpAnyH_ready (rs := [12]) (by kernel_rfl) (by simp) (AllReadyH.cons rfl (fun K hK => ?_) AllReadyH.nil)
                  go_simp
                  refine hK.out _ _ trivial (fun hS9 => ?_)
                  clear hK K hS9
                  refine wpAnyH_done (by kernel_rfl) ?_ _
                  clear HM HR3 c1 c2 c3 c1b c1c
                  generalize w3.setCell ⟨gx, 5, none⟩ (.slice ron5 (k + 1) rcn5) = wn5 at HU5 BU5 ⊢
                  go_wp2
                  go_roundw
                  case rel => exact ⟨k + 1, _, _, _, _, by omega, by go_num, HU5.out, BU5.out⟩
                  case measure => simp [intOf]; omega
              · go_simp
                refine hK.out _ _ trivial (fun hS9 => ?_)
                clear hK K hS9
                try simp only [Act.put]
                refine wpAnyH_ready (rs := [4]) (by kernel_rfl) (by simp) (AllReadyH.cons rfl (fun K hK => ?_) AllReadyH.nil)
                · go_simp
                  refine hK.out _ _ trivial (fun hS9 => ?_)
                  clear hK K hS9
                  try simp only [Act.put]
                  refine wpAnyH_ready (rs := [9]) (by kernel_rfl) (by simp) (AllReadyH.cons rfl (fun K hK => ?_) AllReadyH.nil)
                  refine step_append_run rfl _ _ 57 rfl _ _ rfl rfl HR3.out ?_
                  refine hK.out _ _ trivial (fun hS9 => ?_)
                  clear hK K hS9
                  try simp only [Act.put]
                  refine wpAnyH_take (i := 10) (v := .pointer (some ⟨gx, 0, none⟩)) rfl (by kernel_rfl) (by kernel_rfl) (by kernel_rfl) (fun _ _ _ h => h) (Or.inl ⟨by rfl, fun w' h => by go_simp⟩) trivial ?_
                  simp only [Act.put]
                  refine wpAnyH_take (i := 11) (v := .pointer (some ⟨gx, 5, none⟩)) rfl (by kernel_rfl) (by kernel_rfl) (by kernel_rfl) (fun _ _ _ h => h) (Or.inl ⟨by rfl, fun w' h => by go_simp⟩) trivial ?_
                  simp only [Act.put]
                  refine wpAnyH_ready (rs := [12]) (by kernel_rfl) (by simp) (AllReadyH.cons rfl (fun K hK => ?_) AllReadyH.nil)
                  go_simp
                  refine hK.out _ _ trivial (fun hS9 => ?_)
                  clear hK K hS9
                  refine wpAnyH_done (by kernel_rfl) ?_ _
                  clear HM HR3 c1 c2 c3 c1b c1c
                  generalize w3.setCell ⟨gx, 5, none⟩ (.slice ron5 (k + 1) rcn5) = wn5 at HU5 BU5 ⊢
                  go_wp2
                  go_roundw
                  case rel => exact ⟨k + 1, _, _, _, _, by omega, by go_num, HU5.out, BU5.out⟩
                  case measure => simp [intOf]; omega
    · obtain rfl : k = s.length := by omega
      go_wp2
      go_loopw [11, 12] (fun y x wr => ∃ j : Nat, j ≤ t.length ∧ x = .int .i64 j ∧ KRo wr gx y ((List.range j).map fun q => kidsL sig t (q : Nat)) ∧ TbW gx wr gx (.slice sgo sig.length sgc) (.pointer (some ⟨gp, 0, none⟩)) (.slice ao s.length ca) (.slice bo t.length cb) (.slice ro4 s.length rc4) (.slice ro5 s.length rc5) rs rm t.length s.length s.length (fun _ _ => false) (fun _ _ => false) ∧ Below w.heap.size w wr) (fun _ x _ => t.length - (intOf x).toNat)
      case atStart => exact ⟨0, by omega, rfl, KRo.start _ _, HR.out, BR.out⟩
      case round =>
        clear HR BR
        obtain ⟨j, hj, rfl, hK, hR, hbl⟩ := hrel
        obtain ⟨yo, yc, rfl⟩ := hK.sliceN (show _ = j by simp)
        have HK := hid hK
        have HR := hid hR
        have BR := hid hbl
        have hgw : gx ≤ wr.heap.size := Nat.le_of_lt (Array.getElem?_eq_some_iff.1 hR.ptr).1
        clear hK hR hbl
        by_cases hj2 : j < t.length
        · go_wp2_with fail
          refine (kids11_any _ _ sig t j wr (HS.out.kp (Kp.of_below BR.out)) (H2.out.kp (Kp.of_below BR.out)) hb2 (by omega) (by omega)).mono ?_
          rintro e wk ⟨v', rfl, ho, hb9⟩
          obtain ⟨xo, xc, rfl, _, _⟩ := ho.shape
          have hbk := below_step hb9 (below_alloc (w := wk) (.cells #[.slice xo (kidsL sig t j).length xc] 24))
          obtain ⟨v6, w6, hr6, ho6, hg6⟩ := kr_join (HK.out.later hb9) (ho.mono hgw) (Nat.le_trans hgw hb9.size) (by simp; omega)
          have HR6 := hid hr6
          have HO6 : Hid (KRo w6 gx v6 ((List.range (j + 1)).map fun q => kidsL sig t (q : Nat))) := hid (by rw [List.range_succ, List.map_append]; exact ho6)
          have HT6 := hid ((HR.out.later hbk).grown (HK.out.later hbk) hg6)
          have HB6 := hid ((BR.out.trans (hbk.mono BR.out.size)).grown hg6 (Nat.le_trans BR.out.size hbk.size) (fun g hg => Nat.le_trans hgx (by obtain ⟨vs, _, q2, _⟩ := HK.out; exact own_blk q2 hg)))
          clear hr6 ho6 hg6 ho hb9 hbk HK HR BR
          go_wp2_with (at_builtin; refine wpList_append_run rfl _ _ _ rfl _ _ rfl rfl HR6.out ?_)
          go_roundw
          case rel => exact ⟨j + 1, by omega, by go_num, HO6.out, HT6.out, HB6.out⟩
          case measure => simp [intOf]; omega
        · obtain rfl : j = t.length := by omega
          obtain ⟨gs, gm, cs', cm', e4, e5, hc4, hc5, _⟩ := HR.out.rd hsp
          simp only [Value.slice.injEq, true_and] at e4 e5
          obtain ⟨rfl, rfl⟩ := e4
          obtain ⟨rfl, rfl⟩ := e5
          obtain ⟨ga, oa, _, rfl, _⟩ := H1.out.at hsp
          obtain ⟨gb, ob, _, rfl, _⟩ := H2.out.at htp
          obtain ⟨gy, yc', _, _, ey, _, _⟩ := HK.out.at (j := 0) (x := kidsL sig t (0 : Nat)) (by simp [htp])
          simp only [Value.slice.injEq, List.length_map, List.length_range, true_and] at ey
          obtain ⟨rfl, rfl⟩ := ey
          go_wp2
          go_loopw [13] (fun x wr => ∃ (k : Nat) (U V : Nat → Nat → Bool), k ≤ s.length ∧ x = .int .i64 ((k : Int) - 1) ∧ TbW gx wr gx (.slice sgo sig.length sgc) (.pointer (some ⟨gp, 0, none⟩)) (.slice (some ⟨ga, oa, none⟩) s.length ca) (.slice (some ⟨gb, ob, none⟩) t.length cb) (.slice (some ⟨gs, 0, none⟩) s.length rc4) (.slice (some ⟨gm, 0, none⟩) s.length rc5) rs rm t.length s.length s.length U V ∧ KRo wr gx (.slice (some ⟨gy, 0, none⟩) t.length yc) ((List.range t.length).map fun q => kidsL sig t (q : Nat)) ∧ Below w.heap.size w wr ∧ DnS sig s t U k ∧ DnM sig (abB ps) s t V k) (fun x _ => (intOf x + 1).toNat)
          case atStart => exact ⟨s.length, _, _, Nat.le_refl _, rfl, HR.out, HK.out, BR.out, fun p q h1 h2 => absurd h1 (by omega), fun p q h1 h2 => absurd h1 (by omega)⟩
          case round =>
            clear HR BR HK hgw
            obtain ⟨k, U, V, hk, rfl, hR, hK, hbl, hdS, hdM⟩ := hrel
            have HR := hid hR
            have HK := hid hK
            have BR := hid hbl
            have HDS := hid hdS
            have HDM := hid hdM
            have hgw : gx ≤ wr.heap.size := Nat.le_of_lt (Array.getElem?_eq_some_iff.1 hR.ptr).1
            clear hK hbl hdS hdM
            by_cases hk0 : k = 0
            · subst hk0
              have z1 := hR.cells.2.2.2.2
              obtain ⟨gm', rc', e6, _, z2⟩ := hR.M.form hsp
              simp only [Value.slice.injEq, Option.some.injEq, Addr.mk.injEq, true_and, and_true] at e6
              obtain ⟨rfl, rfl⟩ := e6
              have z2 := z2 0 hsp
              have z3 := hR.M.bit hsp htp
              have HV := hid (HDM.out 0 0 (Nat.le_refl _) hsp htp)
              clear hR
              generalize hb9 : V 0 0 = X at z3
              have HX := hid hb9
              clear hb9
              go_wp2
              go_ret
              exact ⟨ret1b (by rw [Bool.eq_iff_iff, gr_tA HM1.out HM2.out, ← HV.out, HX.out]), BR.out⟩
            · obtain ⟨i, rfl⟩ : ∃ i, k = i + 1 := ⟨k - 1, by omega⟩
              have e1 : (((i + 1 : Nat) : Int) - 1) = (i : Int) := by omega
              rw [e1]
              have hi : i < s.length := by omega
              obtain ⟨xw, xp, xf⟩ := tA_ok HAr.out HRs.out hi
              obtain ⟨n1, hn1⟩ : ∃ n, n = (tA sig s i).size := ⟨_, rfl⟩
              have hle1 := xp.len
              rw [← hn1] at xf hle1
              have HN1 := hid hn1
              have HF1 := hid xf
              clear hR hk0 e1 xw xp xf hn1
              go_wp2_with fail
              refine (kids11_any _ _ sig s i wr (HS.out.kp (Kp.of_below BR.out)) (H1.out.kp (Kp.of_below BR.out)) hb1 (by omega) (by omega)).mono ?_
              rintro e wk ⟨v', rfl, ho, hb9⟩
              obtain ⟨xo, xc, rfl, _, _⟩ := ho.shape
              have HOA := hid (ho.mono hgw)
              have HRk := hid (HR.out.later hb9)
              have HKk := hid (HK.out.later hb9)
              have BRk := hid (BR.out.trans (hb9.mono BR.out.size))
              clear ho hb9 HR HK BR
              go_wp2_with fail
              refine (refEnd_any _ _ sig s i n1 wk (HS.out.kp (Kp.of_below BRk.out)) (H1.out.kp (Kp.of_below BRk.out)) HAr.out hb1 HF1.out).mono ?_
              rintro e wz ⟨rfl, hwz⟩
              have hwz2 := hwz.symm
              subst hwz2
              clear hwz
              go_wp2
              go_loopw [16] (fun x wr => ∃ (m : Nat) (U V : Nat → Nat → Bool), m ≤ t.length ∧ x = .int .i64 ((m : Int) - 1) ∧ TbW gx wr gx (.slice sgo sig.length sgc) (.pointer (some ⟨gp, 0, none⟩)) (.slice (some ⟨ga, oa, none⟩) s.length ca) (.slice (some ⟨gb, ob, none⟩) t.length cb) (.slice (some ⟨gs, 0, none⟩) s.length rc4) (.slice (some ⟨gm, 0, none⟩) s.length rc5) rs rm t.length s.length s.length U V ∧ KRo wr gx (.slice (some ⟨gy, 0, none⟩) t.length yc) ((List.range t.length).map fun q => kidsL sig t (q : Nat)) ∧ OwI wr gx (.slice xo (kidsL sig s i).length xc) (kidsL sig s i) ∧ Below w.heap.size w wr ∧ DnS sig s t U (i + 1) ∧ DnM sig (abB ps) s t V (i + 1) ∧ RwS sig s t U i m ∧ RwM sig (abB ps) s t V i m) (fun x _ => (intOf x + 1).toNat)
              case atStart => exact ⟨t.length, _, _, Nat.le_refl _, rfl, HRk.out, HKk.out, HOA.out, BRk.out, HDS.out, HDM.out, fun q h1 h2 => absurd h1 (by omega), fun q h1 h2 => absurd h1 (by omega)⟩
              case round =>
                clear HRk BRk HKk HOA HDS HDM hgw
                obtain ⟨m, U, V, hm, rfl, hR, hK, hA, hbl, hdS, hdM, hrS, hrM⟩ := hrel
                have HR := hid hR
                have HK := hid hK
                have HA := hid hA
                have BR := hid hbl
                have HDS := hid hdS
                have HDM := hid hdM
                have HRS := hid hrS
                have HRM := hid hrM
                clear hR hK hA hbl hdS hdM hrS hrM
                by_cases hm0 : m = 0
                · subst hm0
                  have HD1 := hid (HDS.out.row HRS.out)
                  have HD2 := hid (HDM.out.row HRM.out)
                  clear HDS HDM HRS HRM
                  go_wp2
                  go_roundw
                  case rel => exact ⟨i, U, V, by omega, by go_num, HR.out, HK.out, BR.out, HD1.out, HD2.out⟩
                  case measure => simp [intOf] <;> omega
                · obtain ⟨j, rfl⟩ : ∃ j, m = j + 1 := ⟨m - 1, by omega⟩
                  have e1 : (((j + 1 : Nat) : Int) - 1) = (j : Int) := by omega
                  rw [e1]
                  have hj : j < t.length := by omega
                  obtain ⟨yw, yp, yf⟩ := tA_ok HAr.out HRt.out hj
                  obtain ⟨n2, hn2⟩ : ∃ n, n = (tA sig t j).size := ⟨_, rfl⟩
                  have hle2 := yp.len
                  rw [← hn2] at yf hle2
                  have HN2 := hid hn2
                  have HF2 := hid yf
                  clear hm0 e1 yw yp yf hn2
                  have c4 := HR.out.cells.2.2.2.1
                  obtain ⟨gs', rc', e6, _, z4⟩ := HR.out.S.form hsp
                  simp only [Value.slice.injEq, Option.some.injEq, Addr.mk.injEq, true_and, and_true] at e6
                  obtain ⟨rfl, rfl⟩ := e6
                  have r4 := z4 i hi
                  clear z4
                  have HU1 := hid (Is.mid (H1.out.kp (Kp.of_below BR.out)) hi hle1)
                  have HU2 := hid (Is.mid (H2.out.kp (Kp.of_below BR.out)) hj hle2)
                  have hsm := tA_same HAr.out HRs.out HRt.out hi hj
                  rw [← HN1.out, ← HN2.out] at hsm
                  have HSM := hid hsm
                  clear hsm
                  have hcapA : ¬ ca = i := by omega
                  have hknA : i + n1 ≤ ca := by omega
                  have hsubA : i + n1 - i = n1 := by omega
                  have hleA : i ≤ i + n1 := by omega
                  have hi1A : (0 : Int) ≤ (i : Int) + (n1 : Int) := by omega
                  have hi2A : (i : Int) + (n1 : Int) ≤ (ca : Int) := by omega
                  have hi3A : ((i : Int) + (n1 : Int)).toNat = i + n1 := by omega
                  have hcapB : ¬ cb = j := by omega
                  have hknB : j + n2 ≤ cb := by omega
                  have hsubB : j + n2 - j = n2 := by omega
                  have hleB : j ≤ j + n2 := by omega
                  have hi1B : (0 : Int) ≤ (j : Int) + (n2 : Int) := by omega
                  have hi2B : (j : Int) + (n2 : Int) ≤ (cb : Int) := by omega
                  have hi3B : ((j : Int) + (n2 : Int)).toNat = j + n2 := by omega
                  go_upto_region 22 with fail
                  refine wp_region_held_drew (S := fun w' => w'.cell? ⟨gx, 4, none⟩ = some (.slice (some ⟨gs, 0, none⟩) s.length rc4) ∧ w'.cell? ⟨gs, i, none⟩ = some (.slice (some ⟨rs i, 0, none⟩) t.length t.length)) (by kernel_rfl) ⟨c4, r4⟩ (fun _ => ?_)
                  obtain ⟨W0, hW0⟩ : ∃ X, X = wr.drew := ⟨_, rfl⟩
                  have bW0 : Below wr.heap.size wr W0 := by rw [hW0]; exact drawn_below1 wr
                  have HR0 := hid (HR.out.later bW0)
                  have HK0 := hid (HK.out.later bW0)
                  have HA0 := hid (HA.out.later bW0)
                  have BR0 := hid (BR.out.trans (bW0.mono BR.out.size))
                  have HU1b := hid (HU1.out.kp (Kp.of_below bW0))
                  have HU2b := hid (HU2.out.kp (Kp.of_below bW0))
                  rw [← hW0]
                  have hS : W0.cell? ⟨gx, 4, none⟩ = some (.slice (some ⟨gs, 0, none⟩) s.length rc4) ∧ W0.cell? ⟨gs, i, none⟩ = some (.slice (some ⟨rs i, 0, none⟩) t.length t.length) := by rw [hW0]; exact ⟨c4, r4⟩
                  clear hW0 HR HK HA BR HU1 HU2 c4 r4 bW0
                  refine wpAnyH_take (i := 0) (v := .pointer (some ⟨gx, 0, none⟩)) rfl (by kernel_rfl) (by kernel_rfl) (by kernel_rfl) (fun _ _ _ h => h) (Or.inl ⟨by rfl, fun w' h => by go_simp⟩) hS ?_
                  simp only [Act.put, List.setIfInBounds_toArray]
                  refine wpAnyH_take (i := 1) (v := .pointer (some ⟨gx, 0, none⟩)) rfl (by kernel_rfl) (by kernel_rfl) (by kernel_rfl) (fun _ _ _ h => h) (Or.inl ⟨by rfl, fun w' h => by go_simp⟩) hS ?_
                  simp only [Act.put]
                  refine wpAnyH_take (i := 2) (v := .pointer (some ⟨gx, 4, none⟩)) rfl (by kernel_rfl) (by kernel_rfl) (by kernel_rfl) (fun _ _ _ h => h) (Or.inl ⟨by rfl, fun w' h => by go_simp⟩) hS ?_
                  simp only [Act.put]
                  refine wpAnyH_take (i := 3) (v := .slice (some ⟨gs, 0, none⟩) s.length rc4) rfl (by kernel_rfl) (by kernel_rfl) (by kernel_rfl) (fun _ _ _ h => h) (Or.inl ⟨by rfl, fun w' h => by have hh0 := h.1; have hh1 := h.2; go_simp⟩) hS ?_
                  simp only [Act.put]
                  refine wpAnyH_take (i := 4) (v := .int .i64 (i : Int)) rfl (by kernel_rfl) (by kernel_rfl) (by kernel_rfl) (fun _ _ _ h => h) (Or.inl ⟨by rfl, fun w' h => by go_simp⟩) hS ?_
                  simp only [Act.put]
                  refine wpAnyH_take (i := 5) (v := .pointer (some ⟨gs, i, none⟩)) rfl (by kernel_rfl) (by kernel_rfl) (by kernel_rfl) (fun _ _ _ h => h) (Or.inl ⟨by rfl, fun w' h => by go_simp⟩) hS ?_
                  simp only [Act.put]
                  refine wpAnyH_take (i := 6) (v := .slice (some ⟨rs i, 0, none⟩) t.length t.length) rfl (by kernel_rfl) (by kernel_rfl) (by kernel_rfl) (fun _ _ _ h => h) (Or.inl ⟨by rfl, fun w' h => by have hh0 := h.1; have hh1 := h.2; go_simp⟩) hS ?_
                  simp only [Act.put]
                  refine wpAnyH_take (i := 7) (v := .int .i64 (j : Int)) rfl (by kernel_rfl) (by kernel_rfl) (by kernel_rfl) (fun _ _ _ h => h) (Or.inl ⟨by rfl, fun w' h => by go_simp⟩) hS ?_
                  simp only [Act.put]
                  refine wpAnyH_take (i := 8) (v := .slice (some ⟨ga, oa, none⟩) s.length ca) rfl (by kernel_rfl) (by kernel_rfl) (by kernel_rfl) (fun _ _ _ h => h) (Or.inl ⟨by rfl, fun w' h => by go_simp⟩) hS ?_
                  simp only [Act.put]
                  refine wpAnyH_take (i := 9) (v := .int .i64 (i : Int)) rfl (by kernel_rfl) (by kernel_rfl) (by kernel_rfl) (fun _ _ _ h => h) (Or.inl ⟨by rfl, fun w' h => by go_simp⟩) hS ?_
                  simp only [Act.put]
                  refine wpAnyH_take (i := 10) (v := .int .i64 ((i + n1 : Nat) : Int)) rfl (by kernel_rfl) (by kernel_rfl) (by kernel_rfl) (fun _ _ _ h => h) (Or.inl ⟨by rfl, fun w' h => by go_simp⟩) hS ?_
                  simp only [Act.put]
                  refine wpAnyH_take (i := 11) (v := .slice (some ⟨ga, oa + i, none⟩) n1 (ca - i)) rfl (by kernel_rfl) (by kernel_rfl) (by kernel_rfl) (fun _ _ _ h => h) (Or.inl ⟨by rfl, fun w' h => by go_simp⟩) hS ?_
                  simp only [Act.put]
                  refine wpAnyH_take (i := 12) (v := .slice (some ⟨gb, ob, none⟩) t.length cb) rfl (by kernel_rfl) (by kernel_rfl) (by kernel_rfl) (fun _ _ _ h => h) (Or.inl ⟨by rfl, fun w' h => by go_simp⟩) hS ?_
                  simp only [Act.put]
                  refine wpAnyH_take (i := 13) (v := .int .i64 (j : Int)) rfl (by kernel_rfl) (by kernel_rfl) (by kernel_rfl) (fun _ _ _ h => h) (Or.inl ⟨by rfl, fun w' h => by go_simp⟩) hS ?_
                  simp only [Act.put]
                  refine wpAnyH_take (i := 14) (v := .slice sgo sig.length sgc) rfl (by kernel_rfl) (by kernel_rfl) (by kernel_rfl) (fun _ _ _ h => h) (Or.inl ⟨by rfl, fun w' h => by go_simp⟩) hS ?_
                  simp only [Act.put]
                  refine wpAnyH_take (i := 15) (v := .slice (some ⟨gb, ob, none⟩) t.length cb) rfl (by kernel_rfl) (by kernel_rfl) (by kernel_rfl) (fun _ _ _ h => h) (Or.inl ⟨by rfl, fun w' h => by go_simp⟩) hS ?_
                  simp only [Act.put]
                  refine wpAnyH_take (i := 16) (v := .int .i64 (j : Int)) rfl (by kernel_rfl) (by kernel_rfl) (by kernel_rfl) (fun _ _ _ h => h) (Or.inl ⟨by rfl, fun w' h => by go_simp⟩) hS ?_
                  simp only [Act.put]
                  refine wpAnyH_ready (rs := [17]) (by kernel_rfl) (by simp) (AllReadyH.cons rfl (fun K hK => ?_) (AllReadyH.nil))
                  go_simp
                  refine (refEnd_any _ _ sig t j n2 W0 (HS.out.kp (Kp.of_below BR0.out)) (H2.out.kp (Kp.of_below BR0.out)) HAr.out hb2 HF2.out).mono ?_
                  rintro e wz ⟨rfl, hwz⟩
                  have hwz2 := hwz.symm
                  subst hwz2
                  clear hwz
                  refine hK.out _ _ hS (fun hS => ?_)
                  clear hK K
                  try simp only [Act.put, List.setIfInBounds_toArray]
                  refine wpAnyH_take (i := 18) (v := .slice (some ⟨gb, ob + j, none⟩) n2 (cb - j)) rfl (by kernel_rfl) (by kernel_rfl) (by kernel_rfl) (fun _ _ _ h => h) (Or.inl ⟨by rfl, fun w' h => by go_simp⟩) hS ?_
                  simp only [Act.put]
                  refine wpAnyH_ready (rs := [19]) (by kernel_rfl) (by simp) (AllReadyH.cons rfl (fun K hK => ?_) (AllReadyH.nil))
                  go_simp
                  refine (sameRow11_any _ _ _ _ W0 HU1b.out HU2b.out).mono ?_
                  rintro e w5 ⟨rfl, q5, rfl⟩
                  generalize hbb : decide ((s.drop i).take n1 = (t.drop j).take n2) = b
                  have HB : Hid (b = true ↔ tA sig s i = tA sig t j) := hid (by rw [← hbb, decide_eq_true_iff]; exact HSM.out)
                  clear hbb
                  have bq : Below W0.heap.size W0 (W0.drewN q5) := ⟨rfl, rfl, rfl, Nat.le_refl _, fun _ _ => rfl⟩
                  have HR5 := hid (HR0.out.later bq)
                  have HK5 := hid (HK0.out.later bq)
                  have HA5 := hid (HA0.out.later bq)
                  have BR5 := hid (BR0.out.trans (bq.mono BR0.out.size))
                  have hS5 : (W0.drewN q5).cell? ⟨gx, 4, none⟩ = some (.slice (some ⟨gs, 0, none⟩) s.length rc4) ∧ (W0.drewN q5).cell? ⟨gs, i, none⟩ = some (.slice (some ⟨rs i, 0, none⟩) t.length t.length) := hS
                  generalize W0.drewN q5 = W5 at HR5 HK5 HA5 BR5 hS5 ⊢
                  refine hK.out _ _ hS5 (fun _ => ?_)
                  clear hK K hS bq HR0 HK0 HA0 BR0 HU1b HU2b
                  have hS := hS5
                  clear hS5
                  try simp only [Act.put, List.setIfInBounds_toArray]
                  refine wpAnyH_take (i := 20) (v := .pointer (some ⟨rs i, j, none⟩)) rfl (by kernel_rfl) (by kernel_rfl) (by kernel_rfl) (fun _ _ _ h => h) (Or.inl ⟨by rfl, fun w' h => by go_simp⟩) hS ?_
                  simp only [Act.put]
                  have b4 := HR5.out.S.bit hi hj
                  have fr4 : W5.frozen? ⟨rs i, j, none⟩ = false := frozen_of_row W5 _ _ _ _ (HR5.out.S.rows i hi)
                  have HR6 := hid (HR5.out.set4 hi j b)
                  have HK6 := hid (HK5.out.put (HR5.out.S.rows i hi) j (.bool b))
                  have HA6 := hid (HA5.out.put11 (HR5.out.S.rows i hi) j (.bool b))
                  have BR6 := hid (BR5.out.setCell (p := ⟨rs i, j, none⟩) (Nat.le_trans hgx (HR5.out.S.low i hi)) (.bool b))
                  have c4 := HR6.out.cells.2.2.2.1
                  obtain ⟨gs', rc', e6, _, z4⟩ := HR6.out.S.form hsp
                  simp only [Value.slice.injEq, Option.some.injEq, Addr.mk.injEq, true_and, and_true] at e6
                  obtain ⟨rfl, rfl⟩ := e6
                  have r4 := z4 i hi
                  clear z4
                  refine wpAnyH_ready (rs := [21]) (by kernel_rfl) (by simp) (AllReadyH.cons rfl (fun K hK => ?_) (AllReadyH.nil))
                  go_simp
                  refine hK.out _ _ ⟨c4, r4⟩ (fun _ => ?_)
                  clear hK K
                  refine wpAnyH_done (by kernel_rfl) ?_ _
                  try simp only [List.getElem_toArray, List.getElem_cons_succ, List.getElem_cons_zero, List.setIfInBounds_toArray, List.set_cons_succ, List.set_cons_zero]
                  clear hS b4 fr4 HR5 HK5 HA5 BR5 c4 r4
                  generalize W5.setCell ⟨rs i, j, none⟩ (.bool b) = W6 at HR6 HK6 HA6 BR6 ⊢
                  have c5 := HR6.out.cells.2.2.2.2
                  obtain ⟨gm', rc', e6, _, z5⟩ := HR6.out.M.form hsp
                  simp only [Value.slice.injEq, Option.some.injEq, Addr.mk.injEq, true_and, and_true] at e6
                  obtain ⟨rfl, rfl⟩ := e6
                  have r5 := z5 i hi
                  clear z5
                  obtain ⟨gy', yc', ko, kc, ey, k5, hok⟩ := HK6.out.at (j := j) (x := kidsL sig t (j : Nat)) (by simp [hj])
                  simp only [Value.slice.injEq, Option.some.injEq, Addr.mk.injEq, List.length_map, List.length_range, true_and, and_true] at ey
                  obtain ⟨rfl, rfl⟩ := ey
                  have HOK := hid hok
                  clear hok
                  go_upto_region 23 with fail
                  refine wp_region_held_drew (S := fun w' => w'.cell? ⟨gx, 5, none⟩ = some (.slice (some ⟨gm, 0, none⟩) s.length rc5) ∧ w'.cell? ⟨gm, i, none⟩ = some (.slice (some ⟨rm i, 0, none⟩) t.length t.length) ∧ w'.cell? ⟨gy, j, none⟩ = some (.slice ko (kidsL sig t j).length kc)) (by kernel_rfl) ⟨c5, r5, k5⟩ (fun _ => ?_)
                  obtain ⟨W7, hW7⟩ : ∃ X, X = W6.drew := ⟨_, rfl⟩
                  have bW7 : Below W6.heap.size W6 W7 := by rw [hW7]; exact drawn_below1 W6
                  have HR7 := hid (HR6.out.later bW7)
                  have HK7 := hid (HK6.out.later bW7)
                  have HA7 := hid (HA6.out.later bW7)
                  have BR7 := hid (BR6.out.trans (bW7.mono BR6.out.size))
                  have HOK7 := hid (HOK.out.later bW7)
                  rw [← hW7]
                  have hS : W7.cell? ⟨gx, 5, none⟩ = some (.slice (some ⟨gm, 0, none⟩) s.length rc5) ∧ W7.cell? ⟨gm, i, none⟩ = some (.slice (some ⟨rm i, 0, none⟩) t.length t.length) ∧ W7.cell? ⟨gy, j, none⟩ = some (.slice ko (kidsL sig t j).length kc) := by rw [hW7]; exact ⟨c5, r5, k5⟩
                  clear hW7 HR6 HK6 HA6 BR6 HOK c5 r5 k5 bW7
                  refine wpAnyH_take (i := 0) (v := .pointer (some ⟨gx, 0, none⟩)) rfl (by kernel_rfl) (by kernel_rfl) (by kernel_rfl) (fun _ _ _ h => h) (Or.inl ⟨by rfl, fun w' h => by go_simp⟩) hS ?_
                  simp only [Act.put, List.setIfInBounds_toArray]
                  refine wpAnyH_take (i := 1) (v := .pointer (some ⟨gx, 0, none⟩)) rfl (by kernel_rfl) (by kernel_rfl) (by kernel_rfl) (fun _ _ _ h => h) (Or.inl ⟨by rfl, fun w' h => by go_simp⟩) hS ?_
                  simp only [Act.put]
                  refine wpAnyH_take (i := 2) (v := .pointer (some ⟨gx, 5, none⟩)) rfl (by kernel_rfl) (by kernel_rfl) (by kernel_rfl) (fun _ _ _ h => h) (Or.inl ⟨by rfl, fun w' h => by go_simp⟩) hS ?_
                  simp only [Act.put]
                  refine wpAnyH_take (i := 3) (v := .slice (some ⟨gm, 0, none⟩) s.length rc5) rfl (by kernel_rfl) (by kernel_rfl) (by kernel_rfl) (fun _ _ _ h => h) (Or.inl ⟨by rfl, fun w' h => by have hh0 := h.1; have hh1 := h.2.1; have hh2 := h.2.2; go_simp⟩) hS ?_
                  simp only [Act.put]
                  refine wpAnyH_take (i := 4) (v := .int .i64 (i : Int)) rfl (by kernel_rfl) (by kernel_rfl) (by kernel_rfl) (fun _ _ _ h => h) (Or.inl ⟨by rfl, fun w' h => by go_simp⟩) hS ?_
                  simp only [Act.put]
                  refine wpAnyH_take (i := 5) (v := .pointer (some ⟨gm, i, none⟩)) rfl (by kernel_rfl) (by kernel_rfl) (by kernel_rfl) (fun _ _ _ h => h) (Or.inl ⟨by rfl, fun w' h => by go_simp⟩) hS ?_
                  simp only [Act.put]
                  refine wpAnyH_take (i := 6) (v := .slice (some ⟨rm i, 0, none⟩) t.length t.length) rfl (by kernel_rfl) (by kernel_rfl) (by kernel_rfl) (fun _ _ _ h => h) (Or.inl ⟨by rfl, fun w' h => by have hh0 := h.1; have hh1 := h.2.1; have hh2 := h.2.2; go_simp⟩) hS ?_
                  simp only [Act.put]
                  refine wpAnyH_take (i := 7) (v := .int .i64 (j : Int)) rfl (by kernel_rfl) (by kernel_rfl) (by kernel_rfl) (fun _ _ _ h => h) (Or.inl ⟨by rfl, fun w' h => by go_simp⟩) hS ?_
                  simp only [Act.put]
                  refine wpAnyH_take (i := 8) (v := .pointer (some ⟨gx, 0, none⟩)) rfl (by kernel_rfl) (by kernel_rfl) (by kernel_rfl) (fun _ _ _ h => h) (Or.inl ⟨by rfl, fun w' h => by go_simp⟩) hS ?_
                  simp only [Act.put]
                  refine wpAnyH_take (i := 9) (v := .int .i64 (i : Int)) rfl (by kernel_rfl) (by kernel_rfl) (by kernel_rfl) (fun _ _ _ h => h) (Or.inl ⟨by rfl, fun w' h => by go_simp⟩) hS ?_
                  simp only [Act.put]
                  refine wpAnyH_take (i := 10) (v := .int .i64 (j : Int)) rfl (by kernel_rfl) (by kernel_rfl) (by kernel_rfl) (fun _ _ _ h => h) (Or.inl ⟨by rfl, fun w' h => by go_simp⟩) hS ?_
                  simp only [Act.put]
                  refine wpAnyH_take (i := 11) (v := .slice xo (kidsL sig s i).length xc) rfl (by kernel_rfl) (by kernel_rfl) (by kernel_rfl) (fun _ _ _ h => h) (Or.inl ⟨by rfl, fun w' h => by go_simp⟩) hS ?_
                  simp only [Act.put]
                  refine wpAnyH_take (i := 12) (v := .slice (some ⟨gy, 0, none⟩) t.length yc) rfl (by kernel_rfl) (by kernel_rfl) (by kernel_rfl) (fun _ _ _ h => h) (Or.inl ⟨by rfl, fun w' h => by go_simp⟩) hS ?_
                  simp only [Act.put]
                  refine wpAnyH_take (i := 13) (v := .int .i64 (j : Int)) rfl (by kernel_rfl) (by kernel_rfl) (by kernel_rfl) (fun _ _ _ h => h) (Or.inl ⟨by rfl, fun w' h => by go_simp⟩) hS ?_
                  simp only [Act.put]
                  refine wpAnyH_take (i := 14) (v := .pointer (some ⟨gy, j, none⟩)) rfl (by kernel_rfl) (by kernel_rfl) (by kernel_rfl) (fun _ _ _ h => h) (Or.inl ⟨by rfl, fun w' h => by go_simp⟩) hS ?_
                  simp only [Act.put]
                  refine wpAnyH_take (i := 15) (v := .slice ko (kidsL sig t j).length kc) rfl (by kernel_rfl) (by kernel_rfl) (by kernel_rfl) (fun _ _ _ h => h) (Or.inl ⟨by rfl, fun w' h => by have hh0 := h.1; have hh1 := h.2.1; have hh2 := h.2.2; go_simp⟩) hS ?_
                  simp only [Act.put]
                  have HCall := hid (tab_call gx _ (.pointer (some ⟨gp, 0, none⟩)) (.slice (some ⟨ga, oa, none⟩) s.length ca) (.slice (some ⟨gb, ob, none⟩) t.length cb) s t (updB U i j b) V gs gm rc4 rc5 rs rm i j (.slice xo (kidsL sig s i).length xc) (.slice ko (kidsL sig t j).length kc) sig ps W7 HR7.out (HP.out.later BR7.out) (H1.out.kp (Kp.of_below BR7.out)) (H2.out.kp (Kp.of_below BR7.out)) HA7.out.is HOK7.out.is hi hj HC.out HAr.out HE1.out HE2.out HDS.out.set HDM.out HRM.out)
                  refine wpAnyH_ready (rs := [16]) (by kernel_rfl) (by simp) (AllReadyH.cons rfl (fun K hK => ?_) (AllReadyH.nil))
                  go_simp
                  refine HCall.out.mono ?_
                  clear HCall
                  rintro e w8 ⟨r, rfl, hr, q8, rfl⟩
                  have HRr := hid hr
                  clear hr
                  have bq : Below W7.heap.size W7 (W7.drewN q8) := ⟨rfl, rfl, rfl, Nat.le_refl _, fun _ _ => rfl⟩
                  have HR8 := hid (HR7.out.later bq)
                  have HK8 := hid (HK7.out.later bq)
                  have HA8 := hid (HA7.out.later bq)
                  have BR8 := hid (BR7.out.trans (bq.mono BR7.out.size))
                  have hS8 : (W7.drewN q8).cell? ⟨gx, 5, none⟩ = some (.slice (some ⟨gm, 0, none⟩) s.length rc5) ∧ (W7.drewN q8).cell? ⟨gm, i, none⟩ = some (.slice (some ⟨rm i, 0, none⟩) t.length t.length) ∧ (W7.drewN q8).cell? ⟨gy, j, none⟩ = some (.slice ko (kidsL sig t j).length kc) := hS
                  generalize W7.drewN q8 = W8 at HR8 HK8 HA8 BR8 hS8 ⊢
                  refine hK.out _ _ hS8 (fun _ => ?_)
                  clear hK K hS bq HR7 HK7 HA7 BR7 HOK7
                  have hS := hS8
                  clear hS8
                  try simp only [Act.put, List.setIfInBounds_toArray]
                  refine wpAnyH_take (i := 17) (v := .pointer (some ⟨rm i, j, none⟩)) rfl (by kernel_rfl) (by kernel_rfl) (by kernel_rfl) (fun _ _ _ h => h) (Or.inl ⟨by rfl, fun w' h => by go_simp⟩) hS ?_
                  simp only [Act.put]
                  have b5 := HR8.out.M.bit hi hj
                  have fr5 : W8.frozen? ⟨rm i, j, none⟩ = false := frozen_of_row W8 _ _ _ _ (HR8.out.M.rows i hi)
                  have HR9 := hid (HR8.out.set5 hi j r)
                  have HK9 := hid (HK8.out.put (HR8.out.M.rows i hi) j (.bool r))
                  have HA9 := hid (HA8.out.put11 (HR8.out.M.rows i hi) j (.bool r))
                  have BR9 := hid (BR8.out.setCell (p := ⟨rm i, j, none⟩) (Nat.le_trans hgx (HR8.out.M.low i hi)) (.bool r))
                  have c5 := HR9.out.cells.2.2.2.2
                  obtain ⟨gm', rc', e6, _, z5⟩ := HR9.out.M.form hsp
                  simp only [Value.slice.injEq, Option.some.injEq, Addr.mk.injEq, true_and, and_true] at e6
                  obtain ⟨rfl, rfl⟩ := e6
                  have r5 := z5 i hi
                  clear z5
                  have k5 : (W8.setCell ⟨rm i, j, none⟩ (.bool r)).cell? ⟨gy, j, none⟩ = some (.slice ko (kidsL sig t j).length kc) := by rw [World.cell?_setCell_other _ _ _ _ (fun e => by obtain ⟨vs, _, q2, _⟩ := HK8.out; obtain ⟨cy, hcy⟩ := own_blk11 q2 (g := gy) rfl; exact type_ne hcy (HR8.out.M.rows i hi) (by decide) (by injection e with e1; exact e1.symm))]; exact hS.2.2
                  refine wpAnyH_ready (rs := [18]) (by kernel_rfl) (by simp) (AllReadyH.cons rfl (fun K hK => ?_) (AllReadyH.nil))
                  go_simp
                  refine hK.out _ _ ⟨c5, r5, k5⟩ (fun _ => ?_)
                  clear hK K
                  refine wpAnyH_done (by kernel_rfl) ?_ _
                  try simp only [List.getElem_toArray, List.getElem_cons_succ, List.getElem_cons_zero, List.setIfInBounds_toArray, List.set_cons_succ, List.set_cons_zero]
                  clear hS b5 fr5 HR8 HK8 HA8 BR8 c5 r5 k5
                  generalize W8.setCell ⟨rm i, j, none⟩ (.bool r) = W9 at HR9 HK9 HA9 BR9 ⊢
                  go_wp2
                  go_roundw
                  case rel => exact ⟨j, _, _, by omega, by go_num, HR9.out, HK9.out, HA9.out, BR9.out, HDS.out.set, HDM.out.set, HRS.out.set HB.out, HRM.out.set HRr.out⟩
                  case measure => simp [intOf] <;> omega

end Go.Proofs.YtcoaabgaolblfaaDoor
