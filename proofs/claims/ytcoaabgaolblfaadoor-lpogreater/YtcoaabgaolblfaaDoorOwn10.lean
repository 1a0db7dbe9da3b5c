/- Texts of the proof, one behind the other. -/
import Derived.Test.YtcoaabgaolblfaaDoorOwn9
import Derived.Test.YtcoaabgaolblfaaDoorOwn8
import Derived.Test.YtcoaabgaolblfaaDoorOwn3
/- The path order of package lpo: greater. -/
namespace Go.Proofs.YtcoaabgaolblfaaDoor
open Go.RowKit Go.Maps Go.BigFrame

theorem Kp.set {w W : World} (hk : Kp w W) {g o : Nat} (hg : w.heap.size ≤ g) (v : Value) : Kp w (W.setCell ⟨g, o, none⟩ v) := by
  refine ⟨?_, fun a x hx => ?_⟩
  · have : (W.setCell ⟨g, o, none⟩ v).heap.size = W.heap.size := by simp [World.setCell]
    rw [this]
    exact hk.size
  · have hlt := World.block_lt_of_cell? w a hx
    rw [World.cell?_setCell_far _ _ _ _ (by simp only; omega)]
    exact hk.cell _ _ hx

theorem grownL_set {w W : World} {row : Option Nat} (hg : w.grownBy W row) {g o : Nat} (hlt : w.heap.size ≤ g) (v : Value) : w.grownBy (W.setCell ⟨g, o, none⟩ v) row := by
  have h := set_grownT W g o v
  exact ⟨h.os.trans hg.os, h.tape.trans hg.tape, h.output.trans hg.output, Nat.le_trans hg.size h.size, fun k hk hne => (h.block k (Nat.lt_of_lt_of_le hk hg.size) (fun e => by cases e; omega)).trans (hg.block k hk hne)⟩

section
variable {sig : List Sy} {ps : List (Int × Int)} {s t : List Int} {A : Nat → Prop} {w : World} {mb : Nat} {pv : Value} {b0 o0 c0 b1 o1 c1 : Nat}

set_option maxRecDepth 100000 in
set_option maxHeartbeats 6400000 in
theorem greaterL_step (H : Ord sig ps s t A w mb pv b0 o0 c0 b1 o1 c1) {n : Nat} (HG : GrOk sig ps s t A w mb pv b0 o0 c0 b1 o1 c1 n) : GrOk sig ps s t A w mb pv b0 o0 c0 b1 o1 c1 (n + 1) := by
  intro x y i j vx vy L W hsz wx wy ax ay tx ty hg hm hk
  obtain ⟨pg, rfl⟩ := H.ptr
  have HH := hid H
  have HGr := hid HG
  have HWx := hid wx
  have HWy := hid wy
  have HAx := hid ax
  have HAy := hid ay
  have HTx := hid tx
  have HTy := hid ty
  have HSz := hid hsz
  have hi := ax.len
  have hj := ay.len
  have hxp := size_pos x
  have hyp := size_pos y
  have hls := H.ls
  have hlt := H.lt
  have HGw := hid (grown_trans hg (grown_of_below (below_alloc (w := W) (.cells #[.pointer (some ⟨pg, 0, none⟩), .map (some mb)] 49)) (some mb)))
  have HM := hid (hm.later (below_alloc (w := W) (.cells #[.pointer (some ⟨pg, 0, none⟩), .map (some mb)] 49)))
  have HK := hid hk
  have HMW := hid hm
  have HB1 := hid (below_alloc (w := W) (.cells #[.pointer (some ⟨pg, 0, none⟩), .map (some mb)] 49))
  have HB0 : Hid ((W.alloc (.cells #[.pointer (some ⟨pg, 0, none⟩), .map (some mb)] 49)).cell? ⟨W.heap.size, 0, none⟩ = some (.pointer (some ⟨pg, 0, none⟩))) := by show _ = _; rw [cell_of_row _ _ _ _ _ _ (heap_alloc_new _ _)]; rfl
  have HBm : Hid ((W.alloc (.cells #[.pointer (some ⟨pg, 0, none⟩), .map (some mb)] 49)).cell? ⟨W.heap.size, 1, none⟩ = some (.map (some mb))) := by show _ = _; rw [cell_of_row _ _ _ _ _ _ (heap_alloc_new _ _)]; rfl
  clear H HG wx wy ax ay tx ty hg hm hk hsz
  cases x with
  | v c =>
    go_enter Tryd.func16, Tryd.ntmps16
    go_wp2_with fail
    refine (isVariableL_any A b0 o0 c0 vx (.v c) i w _ HTx.out).mono ?_
    rintro e w2 ⟨rfl, hb2⟩
    have HB2 := hid (below_step HB1.out hb2)
    have HM2 := hid (HM.out.later hb2)
    clear hb2
    go_wp2
    go_ret
    exact ⟨false, rfl, ⟨fun h => (by cases h), fun h => absurd h LG.var⟩, grown_of_below HB2.out (some mb), L, HM2.out, HK.out, Nw.refl _ _ _ _⟩
  | a c ss =>
    obtain ⟨bx, hvx⟩ : ∃ b, vx = .iface 88 (.pointer (some ⟨b, 0, none⟩)) := by have h := HTx.out; unfold TL at h; obtain ⟨b, _, _, h, _⟩ := h; exact ⟨b, h⟩
    subst hvx
    obtain ⟨ao, ca, hx0, hx1, _, _, _, _⟩ := HTx.out.app
    have X0 := hid hx0
    have X1 := hid hx1
    clear hx0 hx1
    go_enter Tryd.func16, Tryd.ntmps16
    go_wp2_with fail
    generalize hW1 : W.alloc (.cells #[.pointer (some ⟨pg, 0, none⟩), .map (some mb)] 49) = W1 at HGw HM HB1 HB0 HBm ⊢
    clear hW1
    refine (isVariableL_any A b0 o0 c0 _ (.a c ss) i w _ HTx.out).mono ?_
    rintro e w2 ⟨rfl, hb2⟩
    have HB2 := hid hb2
    have q0 := ((HH.out.kp HGw.out).trans (Kp.of_below hb2)).cell _ _ X0.out
    have q1 := ((HH.out.kp HGw.out).trans (Kp.of_below hb2)).cell _ _ X1.out
    clear hb2
    go_wp2_with fail
    rw [run_placeA _ q0 q1]
    simp only [Result.andThen_ok]
    refine (nodePlace_any _ _ w2).mono ?_
    rintro e w3 ⟨rfl, hb3⟩
    have HB3 := hid (below_step HB2.out hb3)
    clear hb3 q0 q1
    cases y with

    | v d =>
      have hty := HTy.out
      unfold TL cdL at hty
      subst hty
      go_wp2_with fail
      refine (nodePlace_any _ _ w3).mono ?_
      rintro e w4 ⟨rfl, hb4⟩
      have HB4 := hid (below_step HB3.out hb4)
      clear hb4
      have HBp := hid (below_step HB4.out (below_alloc (w := w4) (.cells #[.int .i64 (i : Int), .int .i64 (j : Int)] 83)))
      have hlk := (HM.out.later HBp.out).look (k := ((i : Int), (j : Int))) ⟨⟨by simp only; omega, by simp only; omega⟩, ⟨by simp only; omega, by simp only; omega⟩⟩
      unfold plV ansV at hlk
      simp only at hlk
      have HP0 : Hid ((w4.alloc (.cells #[.int .i64 (i : Int), .int .i64 (j : Int)] 83)).cell? ⟨w4.heap.size, 0, none⟩ = some (.int .i64 (i : Int))) := by show _ = _; rw [cell_of_row _ _ _ _ _ _ (heap_alloc_new _ _)]; rfl
      have HP1 : Hid ((w4.alloc (.cells #[.int .i64 (i : Int), .int .i64 (j : Int)] 83)).cell? ⟨w4.heap.size, 1, none⟩ = some (.int .i64 (j : Int))) := by show _ = _; rw [cell_of_row _ _ _ _ _ _ (heap_alloc_new _ _)]; rfl
      have z0 := (Kp.of_below HBp.out).cell _ _ HB0.out
      have z1 := (Kp.of_below HBp.out).cell _ _ HBm.out
      cases hlo : L.lookup ((i : Int), (j : Int)) with
      | some b =>
        have HE := hid (HK.out.ok _ (lookup_memL hlo) i j rfl _ _ HWx.out HWy.out HAx.out HAy.out)
        rw [hlo] at hlk
        simp only [Option.getD_some, Option.isSome_some] at hlk
        simp only at HE
        go_wp2
        go_ret
        refine ⟨b, rfl, HE.out, ?_, L, ?_, HK.out, Nw.refl _ _ _ _⟩
        · exact grown_of_below (below_step (below_step HB1.out HBp.out) (below_alloc _)) (some mb)
        · exact (HM.out.later HBp.out).later (below_alloc _)
      | none =>
        have HNo := hid (lookup_noneL hlo)
        rw [hlo] at hlk
        simp only [Option.getD_none, Option.isSome_none] at hlk
        have HBa := hid (below_step HBp.out (below_alloc (w := w4.alloc (.cells #[.int .i64 (i : Int), .int .i64 (j : Int)] 83)) (.cells #[.bool false] 85)))
        have HPa := hid ((Kp.of_below (below_alloc (w := w4.alloc (.cells #[.int .i64 (i : Int), .int .i64 (j : Int)] 83)) (.cells #[.bool false] 85))).cell _ _ HP0.out)
        have HPb := hid ((Kp.of_below (below_alloc (w := w4.alloc (.cells #[.int .i64 (i : Int), .int .i64 (j : Int)] 83)) (.cells #[.bool false] 85))).cell _ _ HP1.out)
        have has := as_appL (.pointer (some ⟨bx, 0, none⟩))
        go_upto_region 7 with fail
        generalize hWA : (w4.alloc (.cells #[.int .i64 (i : Int), .int .i64 (j : Int)] 83)).alloc (.cells #[.bool false] 85) = WA at HBa HPa HPb ⊢
        clear hlk z0 z1 HP0 HP1 HBp
        have z0 := (Kp.of_below HBa.out).cell _ _ HB0.out
        have z1 := (Kp.of_below HBa.out).cell _ _ HBm.out
        have HWa : Hid (w4.heap.size < WA.heap.size) := by show _ < _; rw [← hWA]; simp; omega
        clear hWA
        have hS : Kp WA WA.drew := Kp.of_below (drawn_below1 WA)
        refine wp_region_held_drew (S := fun w' => Kp WA w') (by kernel_rfl) hS (fun _ => ?_)
        obtain ⟨W0, hW0⟩ : ∃ X, X = WA.drew := ⟨_, rfl⟩
        have bW0 : Below WA.heap.size WA W0 := by rw [hW0]; exact drawn_below1 WA
        rw [← hW0] at hS ⊢
        clear hW0
        refine wpAnyH_take (i := 0) (v := .agg #[.pointer (some ⟨pg, 0, none⟩), .map (some mb)]) rfl (by kernel_rfl) (by kernel_rfl) (by kernel_rfl) (fun _ _ _ h => h) (Or.inl ⟨by rfl, fun w' h => by have hh0 := h.cell _ _ z0; have hh1 := h.cell _ _ z1; go_simp⟩) hS ?_
        simp only [Act.put, List.setIfInBounds_toArray]
        refine wpAnyH_take (i := 1) (v := .iface 88 (.pointer (some ⟨bx, 0, none⟩))) rfl (by kernel_rfl) (by kernel_rfl) (by kernel_rfl) (fun _ _ _ h => h) (Or.inl ⟨by rfl, fun w' h => by go_simp⟩) hS ?_
        simp only [Act.put]
        refine wpAnyH_take (i := 2) (v := .pointer (some ⟨bx, 0, none⟩)) rfl (by kernel_rfl) (by kernel_rfl) (by kernel_rfl) (fun _ _ _ h => h) (Or.inl ⟨by rfl, fun w' h => by go_simp⟩) hS ?_
        simp only [Act.put]
        refine wpAnyH_take (i := 3) (v := .iface 96 (.agg #[.int .i64 (j : Int), .slice (some ⟨b1, o1 + j, none⟩) 1 (c1 - j)])) rfl (by kernel_rfl) (by kernel_rfl) (by kernel_rfl) (fun _ _ _ h => h) (Or.inl ⟨by rfl, fun w' h => by go_simp⟩) hS ?_
        simp only [Act.put]
        have HBw := hid (below_step HBa.out bW0)
        have HS := hid hS
        have HWs : Hid (WA.heap.size ≤ W0.heap.size) := bW0.size
        clear bW0
        refine wpAnyH_ready (rs := [4, 6]) (by kernel_rfl) (by simp) (AllReadyH.cons rfl (fun K hK => ?_) (AllReadyH.cons rfl (fun K hK => ?_) (AllReadyH.nil)))
        · skip
          go_simp
          refine (compareL_any HH.out HGr.out HSz.out HWx.out HWy.out HAx.out HAy.out HTx.out HTy.out W0 (grown_trans HGw.out (grown_of_below HBw.out (some mb))) (HM.out.later HBw.out) HK.out).mono ?_
          rintro e w5 ⟨b, rfl, hb, hg5, L5, hm5, hk5, hn5⟩
          have HXs : Hid (L5.length ≤ 262144) := hk5.few HH.out.ls HH.out.lt
          have HK5 := hid hk5
          have HN5 := hid hn5
          have HBb := hid hb
          have HAbs : Hid (∀ e ∈ L5, e.1 ≠ ((i : Int), (j : Int))) := fun e he => (hn5 e he).elim (fun h => HNo.out e h) (fun h => h.2.2 rfl)
          have HG5 := hid hg5
          have HM5 := hid hm5
          have hsw := hg5.size
          clear hb hk5 hn5
          refine hK.out _ _ (hS.trans (Kp.of_map hg5 (HM.out.later HBw.out).isMap.choose_spec.choose_spec)) (fun hS5 => ?_)
          clear hK K
          try simp only [Act.put, List.setIfInBounds_toArray]
          clear hg5 hm5
          refine wpAnyH_take (i := 5) (v := .agg #[.bool b]) rfl (by kernel_rfl) (by kernel_rfl) (by kernel_rfl) (fun _ _ _ h => h) (Or.inl ⟨by rfl, fun w' h => by go_simp⟩) hS5 ?_
          simp only [Act.put]
          refine wpAnyH_ready (rs := [6]) (by kernel_rfl) (by simp) (AllReadyH.cons rfl (fun K hK => ?_) (AllReadyH.nil))
          go_simp
          refine hK.out _ _ (hS5.trans (Kp.of_below (below_alloc _))) (fun hS6 => ?_)
          clear hK K
          try simp only [Act.put, List.setIfInBounds_toArray]
          have hc6 : (w5.alloc (.cells #[.bool false] 85)).cell? ⟨w5.heap.size, 0, none⟩ = some (.bool false) := cell_newg' rfl rfl
          have hf6 : (w5.alloc (.cells #[.bool false] 85)).frozen? ⟨w5.heap.size, 0, none⟩ = false := frozen_newg rfl
          have HM6 := hid (HM5.out.later (below_alloc (w := w5) (.cells #[.bool false] 85)))
          have HG6 := hid (grown_trans HG5.out (grown_of_below (below_alloc (w := w5) (.cells #[.bool false] 85)) (some mb)))
          obtain ⟨X5, hX5⟩ : ∃ X, X = w5.alloc (.cells #[.bool false] 85) := ⟨_, rfl⟩
          obtain ⟨bn, hbn⟩ : ∃ bn, bn = w5.heap.size := ⟨_, rfl⟩
          have hbl : W0.heap.size ≤ bn := by rw [hbn]; exact hsw
          rw [← hX5, ← hbn] at hc6 hf6
          rw [← hX5] at HM6 HG6 hS6
          rw [← hX5, ← hbn]
          clear hX5 hbn
          refine wpAnyH_ready (rs := [7]) (by kernel_rfl) (by simp) (AllReadyH.cons rfl (fun K hK => ?_) (AllReadyH.nil))
          go_simp
          have hwl := HWs.out
          have hwa := HWa.out
          have hbs := HBa.out.size
          have hbw := HBw.out.size
          have hb1 := HB1.out.size
          have HKs := hid (hS6.set (g := bn) (o := 0) (by omega) (.bool b))
          refine hK.out _ _ HKs.out (fun _ => ?_)
          clear hK K
          try simp only [Act.put, List.setIfInBounds_toArray]
          refine wpAnyH_done (by kernel_rfl) ?_ _
          try simp only [List.getElem_toArray, List.getElem_cons_succ, List.getElem_cons_zero, List.setIfInBounds_toArray, List.set_cons_succ, List.set_cons_zero]
          have HKf := hid True.intro
          have HY0 := hid (HKs.out.cell _ _ z0)
          have HY1 := hid (HKs.out.cell _ _ z1)
          have HY2 := hid (HKs.out.cell _ _ HPa.out)
          have HY3 := hid (HKs.out.cell _ _ HPb.out)
          have HCb : Hid ((X5.setCell ⟨bn, 0, none⟩ (.bool b)).cell? ⟨bn, 0, none⟩ = some (.bool b)) := World.cell?_setCell_same' _ _ _ (by rw [hc6]; rfl)
          have hmbl : mb < W.heap.size := by obtain ⟨es, cl, h9⟩ := HMW.out.isMap; exact (Array.getElem?_eq_some_iff.1 h9).1
          have HMs : Hid (MapL (X5.setCell ⟨bn, 0, none⟩ (.bool b)) mb L5) := HM6.out.kept (set_grownT X5 bn 0 (.bool b)) (fun e => by cases e; omega)
          have HGs := hid (grownL_set (grown_trans (grown_of_below (below_step HB1.out HBw.out) (some mb)) HG6.out) (g := bn) (o := 0) (by omega) (.bool b))
          clear hS z0 z1 hc6 hf6 hmbl hwl hwa hbs hbw hb1 hbl
          have hw9 := HKf.out
          have hsz9 := HXs.out
          obtain ⟨w9, hst, hm9, hg9⟩ := MapL.store (w := X5.setCell ⟨bn, 0, none⟩ (.bool b)) (b := mb) (L := L5) (k := ((i : Int), (j : Int))) HMs.out ⟨⟨by simp only; omega, by simp only; omega⟩, ⟨by simp only; omega, by simp only; omega⟩⟩ (by unfold maxLen; omega) b
          have HC9 := hid ((Kp.of_map hg9 HMs.out.isMap.choose_spec.choose_spec).cell _ _ HCb.out)
          unfold plV ansV at hst
          simp only at hst
          have HM9 := hid hm9
          have HG9 := hid hg9
          clear hm9 hg9
          have y0 := HY0.out
          have y1 := HY1.out
          have y2 := HY2.out
          have y3 := HY3.out
          have y4 := HCb.out
          have y5 := HC9.out
          generalize X5.setCell ⟨bn, 0, none⟩ (.bool b) = X6 at HG9 HGs HY0 HY1 HY2 HY3 HCb HMs hst y0 y1 y2 y3 y4 ⊢
          go_wp2
          go_ret
          refine ⟨b, rfl, HBb.out, grown_trans HGs.out HG9.out, _, HM9.out, HK5.out.more (by omega) (by omega) HWx.out HWy.out HAx.out HAy.out HBb.out HAbs.out, fun z hz => ?_⟩
          rcases List.mem_cons.1 hz with rfl | hz
          · exact .inr ⟨Int.le_refl _, Int.le_refl _, fun h => (by cases h)⟩
          · rcases HN5.out z hz with h | ⟨k1, k2, _⟩
            · exact .inl h
            · exact .inr ⟨k1, k2, fun h => (by cases h)⟩
        · skip
          go_simp
          refine hK.out _ _ (hS.trans (Kp.of_below (below_alloc _))) (fun hS5 => ?_)
          clear hK K
          try simp only [Act.put, List.setIfInBounds_toArray]
          have hc5 : (W0.alloc (.cells #[.bool false] 85)).cell? ⟨W0.heap.size, 0, none⟩ = some (.bool false) := cell_newg' rfl rfl
          have hf5 : (W0.alloc (.cells #[.bool false] 85)).frozen? ⟨W0.heap.size, 0, none⟩ = false := frozen_newg rfl
          have HBx := hid (below_step HBw.out (below_alloc (w := W0) (.cells #[.bool false] 85)))
          have hnl : W0.heap.size < (W0.alloc (.cells #[.bool false] 85)).heap.size := by simp
          obtain ⟨X, hX⟩ : ∃ X, X = W0.alloc (.cells #[.bool false] 85) := ⟨_, rfl⟩
          obtain ⟨bn, hbn⟩ : ∃ bn, bn = W0.heap.size := ⟨_, rfl⟩
          have hbl : W0.heap.size ≤ bn := by omega
          rw [← hX, ← hbn] at hc5 hf5 hnl
          rw [← hX] at HBx hS5
          rw [← hX, ← hbn]
          clear hX hbn
          refine wpAnyH_ready (rs := [4]) (by kernel_rfl) (by simp) (AllReadyH.cons rfl (fun K hK => ?_) (AllReadyH.nil))
          go_simp
          refine (compareL_any HH.out HGr.out HSz.out HWx.out HWy.out HAx.out HAy.out HTx.out HTy.out X (grown_trans HGw.out (grown_of_below HBx.out (some mb))) (HM.out.later HBx.out) HK.out).mono ?_
          rintro e X5 ⟨b, rfl, hb, hg5, L5, hm5, hk5, hn5⟩
          have HXs : Hid (L5.length ≤ 262144) := hk5.few HH.out.ls HH.out.lt
          have HK5 := hid hk5
          have HN5 := hid hn5
          have HBb := hid hb
          have HAbs : Hid (∀ e ∈ L5, e.1 ≠ ((i : Int), (j : Int))) := fun e he => (hn5 e he).elim (fun h => HNo.out e h) (fun h => h.2.2 rfl)
          have HG5 := hid hg5
          have HM6 := hid hm5
          clear hb hk5 hn5
          refine hK.out _ _ (hS5.trans (Kp.of_map hg5 (HM.out.later HBx.out).isMap.choose_spec.choose_spec)) (fun hS6 => ?_)
          clear hK K
          try simp only [Act.put, List.setIfInBounds_toArray]
          refine wpAnyH_take (i := 5) (v := .agg #[.bool b]) rfl (by kernel_rfl) (by kernel_rfl) (by kernel_rfl) (fun _ _ _ h => h) (Or.inl ⟨by rfl, fun w' h => by go_simp⟩) hS6 ?_
          simp only [Act.put]
          have hc6 := (Kp.of_map hg5 (HM.out.later HBx.out).isMap.choose_spec.choose_spec).cell _ _ hc5
          have hmbx : mb < W.heap.size := by obtain ⟨es, cl, h9⟩ := HMW.out.isMap; exact (Array.getElem?_eq_some_iff.1 h9).1
          have hf6 : X5.frozen? ⟨bn, 0, none⟩ = false := by rw [frozen_same (hg5.block bn hnl (fun e => by cases e; have := HB1.out.size; have := HBw.out.size; omega))]; exact hf5
          clear hg5 hm5 hmbx
          refine wpAnyH_ready (rs := [7]) (by kernel_rfl) (by simp) (AllReadyH.cons rfl (fun K hK => ?_) (AllReadyH.nil))
          go_simp
          have hwl := HWs.out
          have hwa := HWa.out
          have hbs := HBa.out.size
          have hbw := HBw.out.size
          have hb1 := HB1.out.size
          have HKs := hid (hS6.set (g := bn) (o := 0) (by omega) (.bool b))
          refine hK.out _ _ HKs.out (fun _ => ?_)
          clear hK K
          try simp only [Act.put, List.setIfInBounds_toArray]
          refine wpAnyH_done (by kernel_rfl) ?_ _
          try simp only [List.getElem_toArray, List.getElem_cons_succ, List.getElem_cons_zero, List.setIfInBounds_toArray, List.set_cons_succ, List.set_cons_zero]
          have HKf := hid True.intro
          have HY0 := hid (HKs.out.cell _ _ z0)
          have HY1 := hid (HKs.out.cell _ _ z1)
          have HY2 := hid (HKs.out.cell _ _ HPa.out)
          have HY3 := hid (HKs.out.cell _ _ HPb.out)
          have HCb : Hid ((X5.setCell ⟨bn, 0, none⟩ (.bool b)).cell? ⟨bn, 0, none⟩ = some (.bool b)) := World.cell?_setCell_same' _ _ _ (by rw [hc6]; rfl)
          have hmbl : mb < W.heap.size := by obtain ⟨es, cl, h9⟩ := HMW.out.isMap; exact (Array.getElem?_eq_some_iff.1 h9).1
          have HMs : Hid (MapL (X5.setCell ⟨bn, 0, none⟩ (.bool b)) mb L5) := HM6.out.kept (set_grownT X5 bn 0 (.bool b)) (fun e => by cases e; omega)
          have HGs := hid (grownL_set (grown_trans (grown_of_below (below_step HB1.out HBx.out) (some mb)) HG5.out) (g := bn) (o := 0) (by omega) (.bool b))
          clear hS z0 z1 hc6 hf6 hc5 hf5 hnl hmbl hwl hwa hbs hbw hb1 hbl
          have hw9 := HKf.out
          have hsz9 := HXs.out
          obtain ⟨w9, hst, hm9, hg9⟩ := MapL.store (w := X5.setCell ⟨bn, 0, none⟩ (.bool b)) (b := mb) (L := L5) (k := ((i : Int), (j : Int))) HMs.out ⟨⟨by simp only; omega, by simp only; omega⟩, ⟨by simp only; omega, by simp only; omega⟩⟩ (by unfold maxLen; omega) b
          have HC9 := hid ((Kp.of_map hg9 HMs.out.isMap.choose_spec.choose_spec).cell _ _ HCb.out)
          unfold plV ansV at hst
          simp only at hst
          have HM9 := hid hm9
          have HG9 := hid hg9
          clear hm9 hg9
          have y0 := HY0.out
          have y1 := HY1.out
          have y2 := HY2.out
          have y3 := HY3.out
          have y4 := HCb.out
          have y5 := HC9.out
          generalize X5.setCell ⟨bn, 0, none⟩ (.bool b) = X6 at HG9 HGs HY0 HY1 HY2 HY3 HCb HMs hst y0 y1 y2 y3 y4 ⊢
          go_wp2
          go_ret
          refine ⟨b, rfl, HBb.out, grown_trans HGs.out HG9.out, _, HM9.out, HK5.out.more (by omega) (by omega) HWx.out HWy.out HAx.out HAy.out HBb.out HAbs.out, fun z hz => ?_⟩
          rcases List.mem_cons.1 hz with rfl | hz
          · exact .inr ⟨Int.le_refl _, Int.le_refl _, fun h => (by cases h)⟩
          · rcases HN5.out z hz with h | ⟨k1, k2, _⟩
            · exact .inl h
            · exact .inr ⟨k1, k2, fun h => (by cases h)⟩
    | a d ts =>
      obtain ⟨by', hvy⟩ : ∃ b, vy = .iface 88 (.pointer (some ⟨b, 0, none⟩)) := by have h := HTy.out; unfold TL at h; obtain ⟨b, _, _, h, _⟩ := h; exact ⟨b, h⟩
      subst hvy
      obtain ⟨bo, cb, hy0, hy1, _, _, _, _⟩ := HTy.out.app
      have r0 := ((HH.out.kp HGw.out).trans (Kp.of_below HB3.out)).cell _ _ hy0
      have r1 := ((HH.out.kp HGw.out).trans (Kp.of_below HB3.out)).cell _ _ hy1
      clear hy0 hy1
      go_wp2_with fail
      rw [run_placeA _ r0 r1]
      simp only [Result.andThen_ok]
      refine (nodePlace_any _ _ w3).mono ?_
      rintro e w4 ⟨rfl, hb4⟩
      have HB4 := hid (below_step HB3.out hb4)
      clear hb4 r0 r1
      have HBp := hid (below_step HB4.out (below_alloc (w := w4) (.cells #[.int .i64 (i : Int), .int .i64 (j : Int)] 83)))
      have hlk := (HM.out.later HBp.out).look (k := ((i : Int), (j : Int))) ⟨⟨by simp only; omega, by simp only; omega⟩, ⟨by simp only; omega, by simp only; omega⟩⟩
      unfold plV ansV at hlk
      simp only at hlk
      have HP0 : Hid ((w4.alloc (.cells #[.int .i64 (i : Int), .int .i64 (j : Int)] 83)).cell? ⟨w4.heap.size, 0, none⟩ = some (.int .i64 (i : Int))) := by show _ = _; rw [cell_of_row _ _ _ _ _ _ (heap_alloc_new _ _)]; rfl
      have HP1 : Hid ((w4.alloc (.cells #[.int .i64 (i : Int), .int .i64 (j : Int)] 83)).cell? ⟨w4.heap.size, 1, none⟩ = some (.int .i64 (j : Int))) := by show _ = _; rw [cell_of_row _ _ _ _ _ _ (heap_alloc_new _ _)]; rfl
      have z0 := (Kp.of_below HBp.out).cell _ _ HB0.out
      have z1 := (Kp.of_below HBp.out).cell _ _ HBm.out
      cases hlo : L.lookup ((i : Int), (j : Int)) with
      | some b =>
        have HE := hid (HK.out.ok _ (lookup_memL hlo) i j rfl _ _ HWx.out HWy.out HAx.out HAy.out)
        rw [hlo] at hlk
        simp only [Option.getD_some, Option.isSome_some] at hlk
        simp only at HE
        go_wp2
        go_ret
        refine ⟨b, rfl, HE.out, ?_, L, ?_, HK.out, Nw.refl _ _ _ _⟩
        · exact grown_of_below (below_step (below_step HB1.out HBp.out) (below_alloc _)) (some mb)
        · exact (HM.out.later HBp.out).later (below_alloc _)
      | none =>
        have HNo := hid (lookup_noneL hlo)
        rw [hlo] at hlk
        simp only [Option.getD_none, Option.isSome_none] at hlk
        have HBa := hid (below_step HBp.out (below_alloc (w := w4.alloc (.cells #[.int .i64 (i : Int), .int .i64 (j : Int)] 83)) (.cells #[.bool false] 85)))
        have HPa := hid ((Kp.of_below (below_alloc (w := w4.alloc (.cells #[.int .i64 (i : Int), .int .i64 (j : Int)] 83)) (.cells #[.bool false] 85))).cell _ _ HP0.out)
        have HPb := hid ((Kp.of_below (below_alloc (w := w4.alloc (.cells #[.int .i64 (i : Int), .int .i64 (j : Int)] 83)) (.cells #[.bool false] 85))).cell _ _ HP1.out)
        have has := as_appL (.pointer (some ⟨bx, 0, none⟩))
        go_upto_region 7 with fail
        generalize hWA : (w4.alloc (.cells #[.int .i64 (i : Int), .int .i64 (j : Int)] 83)).alloc (.cells #[.bool false] 85) = WA at HBa HPa HPb ⊢
        clear hlk z0 z1 HP0 HP1 HBp
        have z0 := (Kp.of_below HBa.out).cell _ _ HB0.out
        have z1 := (Kp.of_below HBa.out).cell _ _ HBm.out
        have HWa : Hid (w4.heap.size < WA.heap.size) := by show _ < _; rw [← hWA]; simp; omega
        clear hWA
        have hS : Kp WA WA.drew := Kp.of_below (drawn_below1 WA)
        refine wp_region_held_drew (S := fun w' => Kp WA w') (by kernel_rfl) hS (fun _ => ?_)
        obtain ⟨W0, hW0⟩ : ∃ X, X = WA.drew := ⟨_, rfl⟩
        have bW0 : Below WA.heap.size WA W0 := by rw [hW0]; exact drawn_below1 WA
        rw [← hW0] at hS ⊢
        clear hW0
        refine wpAnyH_take (i := 0) (v := .agg #[.pointer (some ⟨pg, 0, none⟩), .map (some mb)]) rfl (by kernel_rfl) (by kernel_rfl) (by kernel_rfl) (fun _ _ _ h => h) (Or.inl ⟨by rfl, fun w' h => by have hh0 := h.cell _ _ z0; have hh1 := h.cell _ _ z1; go_simp⟩) hS ?_
        simp only [Act.put, List.setIfInBounds_toArray]
        refine wpAnyH_take (i := 1) (v := .iface 88 (.pointer (some ⟨bx, 0, none⟩))) rfl (by kernel_rfl) (by kernel_rfl) (by kernel_rfl) (fun _ _ _ h => h) (Or.inl ⟨by rfl, fun w' h => by go_simp⟩) hS ?_
        simp only [Act.put]
        refine wpAnyH_take (i := 2) (v := .pointer (some ⟨bx, 0, none⟩)) rfl (by kernel_rfl) (by kernel_rfl) (by kernel_rfl) (fun _ _ _ h => h) (Or.inl ⟨by rfl, fun w' h => by go_simp⟩) hS ?_
        simp only [Act.put]
        refine wpAnyH_take (i := 3) (v := .iface 88 (.pointer (some ⟨by', 0, none⟩))) rfl (by kernel_rfl) (by kernel_rfl) (by kernel_rfl) (fun _ _ _ h => h) (Or.inl ⟨by rfl, fun w' h => by go_simp⟩) hS ?_
        simp only [Act.put]
        have HBw := hid (below_step HBa.out bW0)
        have HS := hid hS
        have HWs : Hid (WA.heap.size ≤ W0.heap.size) := bW0.size
        clear bW0
        refine wpAnyH_ready (rs := [4, 6]) (by kernel_rfl) (by simp) (AllReadyH.cons rfl (fun K hK => ?_) (AllReadyH.cons rfl (fun K hK => ?_) (AllReadyH.nil)))
        · skip
          go_simp
          refine (compareL_any HH.out HGr.out HSz.out HWx.out HWy.out HAx.out HAy.out HTx.out HTy.out W0 (grown_trans HGw.out (grown_of_below HBw.out (some mb))) (HM.out.later HBw.out) HK.out).mono ?_
          rintro e w5 ⟨b, rfl, hb, hg5, L5, hm5, hk5, hn5⟩
          have HXs : Hid (L5.length ≤ 262144) := hk5.few HH.out.ls HH.out.lt
          have HK5 := hid hk5
          have HN5 := hid hn5
          have HBb := hid hb
          have HAbs : Hid (∀ e ∈ L5, e.1 ≠ ((i : Int), (j : Int))) := fun e he => (hn5 e he).elim (fun h => HNo.out e h) (fun h => h.2.2 rfl)
          have HG5 := hid hg5
          have HM5 := hid hm5
          have hsw := hg5.size
          clear hb hk5 hn5
          refine hK.out _ _ (hS.trans (Kp.of_map hg5 (HM.out.later HBw.out).isMap.choose_spec.choose_spec)) (fun hS5 => ?_)
          clear hK K
          try simp only [Act.put, List.setIfInBounds_toArray]
          clear hg5 hm5
          refine wpAnyH_take (i := 5) (v := .agg #[.bool b]) rfl (by kernel_rfl) (by kernel_rfl) (by kernel_rfl) (fun _ _ _ h => h) (Or.inl ⟨by rfl, fun w' h => by go_simp⟩) hS5 ?_
          simp only [Act.put]
          refine wpAnyH_ready (rs := [6]) (by kernel_rfl) (by simp) (AllReadyH.cons rfl (fun K hK => ?_) (AllReadyH.nil))
          go_simp
          refine hK.out _ _ (hS5.trans (Kp.of_below (below_alloc _))) (fun hS6 => ?_)
          clear hK K
          try simp only [Act.put, List.setIfInBounds_toArray]
          have hc6 : (w5.alloc (.cells #[.bool false] 85)).cell? ⟨w5.heap.size, 0, none⟩ = some (.bool false) := cell_newg' rfl rfl
          have hf6 : (w5.alloc (.cells #[.bool false] 85)).frozen? ⟨w5.heap.size, 0, none⟩ = false := frozen_newg rfl
          have HM6 := hid (HM5.out.later (below_alloc (w := w5) (.cells #[.bool false] 85)))
          have HG6 := hid (grown_trans HG5.out (grown_of_below (below_alloc (w := w5) (.cells #[.bool false] 85)) (some mb)))
          obtain ⟨X5, hX5⟩ : ∃ X, X = w5.alloc (.cells #[.bool false] 85) := ⟨_, rfl⟩
          obtain ⟨bn, hbn⟩ : ∃ bn, bn = w5.heap.size := ⟨_, rfl⟩
          have hbl : W0.heap.size ≤ bn := by rw [hbn]; exact hsw
          rw [← hX5, ← hbn] at hc6 hf6
          rw [← hX5] at HM6 HG6 hS6
          rw [← hX5, ← hbn]
          clear hX5 hbn
          refine wpAnyH_ready (rs := [7]) (by kernel_rfl) (by simp) (AllReadyH.cons rfl (fun K hK => ?_) (AllReadyH.nil))
          go_simp
          have hwl := HWs.out
          have hwa := HWa.out
          have hbs := HBa.out.size
          have hbw := HBw.out.size
          have hb1 := HB1.out.size
          have HKs := hid (hS6.set (g := bn) (o := 0) (by omega) (.bool b))
          refine hK.out _ _ HKs.out (fun _ => ?_)
          clear hK K
          try simp only [Act.put, List.setIfInBounds_toArray]
          refine wpAnyH_done (by kernel_rfl) ?_ _
          try simp only [List.getElem_toArray, List.getElem_cons_succ, List.getElem_cons_zero, List.setIfInBounds_toArray, List.set_cons_succ, List.set_cons_zero]
          have HKf := hid True.intro
          have HY0 := hid (HKs.out.cell _ _ z0)
          have HY1 := hid (HKs.out.cell _ _ z1)
          have HY2 := hid (HKs.out.cell _ _ HPa.out)
          have HY3 := hid (HKs.out.cell _ _ HPb.out)
          have HCb : Hid ((X5.setCell ⟨bn, 0, none⟩ (.bool b)).cell? ⟨bn, 0, none⟩ = some (.bool b)) := World.cell?_setCell_same' _ _ _ (by rw [hc6]; rfl)
          have hmbl : mb < W.heap.size := by obtain ⟨es, cl, h9⟩ := HMW.out.isMap; exact (Array.getElem?_eq_some_iff.1 h9).1
          have HMs : Hid (MapL (X5.setCell ⟨bn, 0, none⟩ (.bool b)) mb L5) := HM6.out.kept (set_grownT X5 bn 0 (.bool b)) (fun e => by cases e; omega)
          have HGs := hid (grownL_set (grown_trans (grown_of_below (below_step HB1.out HBw.out) (some mb)) HG6.out) (g := bn) (o := 0) (by omega) (.bool b))
          clear hS z0 z1 hc6 hf6 hmbl hwl hwa hbs hbw hb1 hbl
          have hw9 := HKf.out
          have hsz9 := HXs.out
          obtain ⟨w9, hst, hm9, hg9⟩ := MapL.store (w := X5.setCell ⟨bn, 0, none⟩ (.bool b)) (b := mb) (L := L5) (k := ((i : Int), (j : Int))) HMs.out ⟨⟨by simp only; omega, by simp only; omega⟩, ⟨by simp only; omega, by simp only; omega⟩⟩ (by unfold maxLen; omega) b
          have HC9 := hid ((Kp.of_map hg9 HMs.out.isMap.choose_spec.choose_spec).cell _ _ HCb.out)
          unfold plV ansV at hst
          simp only at hst
          have HM9 := hid hm9
          have HG9 := hid hg9
          clear hm9 hg9
          have y0 := HY0.out
          have y1 := HY1.out
          have y2 := HY2.out
          have y3 := HY3.out
          have y4 := HCb.out
          have y5 := HC9.out
          generalize X5.setCell ⟨bn, 0, none⟩ (.bool b) = X6 at HG9 HGs HY0 HY1 HY2 HY3 HCb HMs hst y0 y1 y2 y3 y4 ⊢
          go_wp2
          go_ret
          refine ⟨b, rfl, HBb.out, grown_trans HGs.out HG9.out, _, HM9.out, HK5.out.more (by omega) (by omega) HWx.out HWy.out HAx.out HAy.out HBb.out HAbs.out, fun z hz => ?_⟩
          rcases List.mem_cons.1 hz with rfl | hz
          · exact .inr ⟨Int.le_refl _, Int.le_refl _, fun h => (by cases h)⟩
          · rcases HN5.out z hz with h | ⟨k1, k2, _⟩
            · exact .inl h
            · exact .inr ⟨k1, k2, fun h => (by cases h)⟩
        · skip
          go_simp
          refine hK.out _ _ (hS.trans (Kp.of_below (below_alloc _))) (fun hS5 => ?_)
          clear hK K
          try simp only [Act.put, List.setIfInBounds_toArray]
          have hc5 : (W0.alloc (.cells #[.bool false] 85)).cell? ⟨W0.heap.size, 0, none⟩ = some (.bool false) := cell_newg' rfl rfl
          have hf5 : (W0.alloc (.cells #[.bool false] 85)).frozen? ⟨W0.heap.size, 0, none⟩ = false := frozen_newg rfl
          have HBx := hid (below_step HBw.out (below_alloc (w := W0) (.cells #[.bool false] 85)))
          have hnl : W0.heap.size < (W0.alloc (.cells #[.bool false] 85)).heap.size := by simp
          obtain ⟨X, hX⟩ : ∃ X, X = W0.alloc (.cells #[.bool false] 85) := ⟨_, rfl⟩
          obtain ⟨bn, hbn⟩ : ∃ bn, bn = W0.heap.size := ⟨_, rfl⟩
          have hbl : W0.heap.size ≤ bn := by omega
          rw [← hX, ← hbn] at hc5 hf5 hnl
          rw [← hX] at HBx hS5
          rw [← hX, ← hbn]
          clear hX hbn
          refine wpAnyH_ready (rs := [4]) (by kernel_rfl) (by simp) (AllReadyH.cons rfl (fun K hK => ?_) (AllReadyH.nil))
          go_simp
          refine (compareL_any HH.out HGr.out HSz.out HWx.out HWy.out HAx.out HAy.out HTx.out HTy.out X (grown_trans HGw.out (grown_of_below HBx.out (some mb))) (HM.out.later HBx.out) HK.out).mono ?_
          rintro e X5 ⟨b, rfl, hb, hg5, L5, hm5, hk5, hn5⟩
          have HXs : Hid (L5.length ≤ 262144) := hk5.few HH.out.ls HH.out.lt
          have HK5 := hid hk5
          have HN5 := hid hn5
          have HBb := hid hb
          have HAbs : Hid (∀ e ∈ L5, e.1 ≠ ((i : Int), (j : Int))) := fun e he => (hn5 e he).elim (fun h => HNo.out e h) (fun h => h.2.2 rfl)
          have HG5 := hid hg5
          have HM6 := hid hm5
          clear hb hk5 hn5
          refine hK.out _ _ (hS5.trans (Kp.of_map hg5 (HM.out.later HBx.out).isMap.choose_spec.choose_spec)) (fun hS6 => ?_)
          clear hK K
          try simp only [Act.put, List.setIfInBounds_toArray]
          refine wpAnyH_take (i := 5) (v := .agg #[.bool b]) rfl (by kernel_rfl) (by kernel_rfl) (by kernel_rfl) (fun _ _ _ h => h) (Or.inl ⟨by rfl, fun w' h => by go_simp⟩) hS6 ?_
          simp only [Act.put]
          have hc6 := (Kp.of_map hg5 (HM.out.later HBx.out).isMap.choose_spec.choose_spec).cell _ _ hc5
          have hmbx : mb < W.heap.size := by obtain ⟨es, cl, h9⟩ := HMW.out.isMap; exact (Array.getElem?_eq_some_iff.1 h9).1
          have hf6 : X5.frozen? ⟨bn, 0, none⟩ = false := by rw [frozen_same (hg5.block bn hnl (fun e => by cases e; have := HB1.out.size; have := HBw.out.size; omega))]; exact hf5
          clear hg5 hm5 hmbx
          refine wpAnyH_ready (rs := [7]) (by kernel_rfl) (by simp) (AllReadyH.cons rfl (fun K hK => ?_) (AllReadyH.nil))
          go_simp
          have hwl := HWs.out
          have hwa := HWa.out
          have hbs := HBa.out.size
          have hbw := HBw.out.size
          have hb1 := HB1.out.size
          have HKs := hid (hS6.set (g := bn) (o := 0) (by omega) (.bool b))
          refine hK.out _ _ HKs.out (fun _ => ?_)
          clear hK K
          try simp only [Act.put, List.setIfInBounds_toArray]
          refine wpAnyH_done (by kernel_rfl) ?_ _
          try simp only [List.getElem_toArray, List.getElem_cons_succ, List.getElem_cons_zero, List.setIfInBounds_toArray, List.set_cons_succ, List.set_cons_zero]
          have HKf := hid True.intro
          have HY0 := hid (HKs.out.cell _ _ z0)
          have HY1 := hid (HKs.out.cell _ _ z1)
          have HY2 := hid (HKs.out.cell _ _ HPa.out)
          have HY3 := hid (HKs.out.cell _ _ HPb.out)
          have HCb : Hid ((X5.setCell ⟨bn, 0, none⟩ (.bool b)).cell? ⟨bn, 0, none⟩ = some (.bool b)) := World.cell?_setCell_same' _ _ _ (by rw [hc6]; rfl)
          have hmbl : mb < W.heap.size := by obtain ⟨es, cl, h9⟩ := HMW.out.isMap; exact (Array.getElem?_eq_some_iff.1 h9).1
          have HMs : Hid (MapL (X5.setCell ⟨bn, 0, none⟩ (.bool b)) mb L5) := HM6.out.kept (set_grownT X5 bn 0 (.bool b)) (fun e => by cases e; omega)
          have HGs := hid (grownL_set (grown_trans (grown_of_below (below_step HB1.out HBx.out) (some mb)) HG5.out) (g := bn) (o := 0) (by omega) (.bool b))
          clear hS z0 z1 hc6 hf6 hc5 hf5 hnl hmbl hwl hwa hbs hbw hb1 hbl
          have hw9 := HKf.out
          have hsz9 := HXs.out
          obtain ⟨w9, hst, hm9, hg9⟩ := MapL.store (w := X5.setCell ⟨bn, 0, none⟩ (.bool b)) (b := mb) (L := L5) (k := ((i : Int), (j : Int))) HMs.out ⟨⟨by simp only; omega, by simp only; omega⟩, ⟨by simp only; omega, by simp only; omega⟩⟩ (by unfold maxLen; omega) b
          have HC9 := hid ((Kp.of_map hg9 HMs.out.isMap.choose_spec.choose_spec).cell _ _ HCb.out)
          unfold plV ansV at hst
          simp only at hst
          have HM9 := hid hm9
          have HG9 := hid hg9
          clear hm9 hg9
          have y0 := HY0.out
          have y1 := HY1.out
          have y2 := HY2.out
          have y3 := HY3.out
          have y4 := HCb.out
          have y5 := HC9.out
          generalize X5.setCell ⟨bn, 0, none⟩ (.bool b) = X6 at HG9 HGs HY0 HY1 HY2 HY3 HCb HMs hst y0 y1 y2 y3 y4 ⊢
          go_wp2
          go_ret
          refine ⟨b, rfl, HBb.out, grown_trans HGs.out HG9.out, _, HM9.out, HK5.out.more (by omega) (by omega) HWx.out HWy.out HAx.out HAy.out HBb.out HAbs.out, fun z hz => ?_⟩
          rcases List.mem_cons.1 hz with rfl | hz
          · exact .inr ⟨Int.le_refl _, Int.le_refl _, fun h => (by cases h)⟩
          · rcases HN5.out z hz with h | ⟨k1, k2, _⟩
            · exact .inl h
            · exact .inr ⟨k1, k2, fun h => (by cases h)⟩

theorem greaterL_all (H : Ord sig ps s t A w mb pv b0 o0 c0 b1 o1 c1) : ∀ n, GrOk sig ps s t A w mb pv b0 o0 c0 b1 o1 c1 n
  | 0 => fun x y i j vx vy L W hsz => by have := size_pos x; omega
  | n + 1 => greaterL_step H (greaterL_all H n)

end

end Go.Proofs.YtcoaabgaolblfaaDoor

/- Greater and Orient of package lpo. -/
namespace Go.Proofs.YtcoaabgaolblfaaDoor
open Go.RowKit Go.Maps Go.BigFrame

def mayB (sig : List Sy) (t : List Int) : Bool := decide (t.length ≤ 512) && decide (termE sig t = 0)

/-- The path order on rows. -/
def gtR (sig : List Sy) (ab : Int → Int → Bool) (s t : List Int) : Prop := ∃ x y, growE sig s = [x] ∧ growE sig t = [y] ∧ LG ab x y

open Classical in
/-- What Greater answers. -/
noncomputable def grB (sig : List Sy) (ps : List (Int × Int)) (s t : List Int) : Bool := decide (mayB sig s = true ∧ mayB sig t = true ∧ gtR sig (abB ps) s t)

noncomputable def orI (sig : List Sy) (ps : List (Int × Int)) (l r : List Int) : Int := if grB sig ps l r = true then 1 else if grB sig ps r l = true then -1 else 0

theorem abB_tr (ps : List (Int × Int)) (f g h : Int) (h1 : abB ps f g = true) (h2 : abB ps g h = true) : abB ps f h = true := by
  rw [abB_iff] at h1 h2 ⊢
  exact ⟨h1.1, h2.2.1, Up.tr ps _ _ _ h1.2.2 h2.2.2⟩

theorem abB_ir {ps : List (Int × Int)} (hc : ∀ i, ¬ Up ps i i) (f : Int) : abB ps f f = false := by
  cases h : abB ps f f with
  | false => rfl
  | true => rw [abB_iff] at h; exact absurd h.2.2 (hc _)

theorem LG.no {ps : List (Int × Int)} (hc : ∀ i, ¬ Up ps i i) (x : Te) : ¬ LG (abB ps) x x := LG.irrefl (abB_tr ps) (abB_ir hc) _ (Nat.le_refl _)

set_option maxRecDepth 100000 in
set_option maxHeartbeats 800000 in
theorem mayStand_any (sv v : Value) (sig : List Sy) (t : List Int) (w : World) (hs : Sg w sv sig) (h : Is w v t) (hT : Tabs w) :
    Calls Tryd.prog 14 #[sv, v] w fun e w' => e = .returned (.bool (mayB sig t)) ∧ Below w.heap.size w w' := by
  obtain ⟨ao, cap, rfl, hao, hca, _⟩ := h.flatI
  have HS := hid hs
  have HI := hid h
  have HT := hid hT
  clear hs h hT
  by_cases hl : t.length ≤ 512
  · have hd : decide ((t.length : Int) ≤ 512) = true := decide_eq_true (by omega)
    have HD : Hid (mayB sig t = decide (termE sig t = 0)) := by show _ = _; unfold mayB; rw [decide_eq_true hl, Bool.true_and]
    go_enter Tryd.func14, Tryd.ntmps14
    go_wp2_with fail
    refine (check_any sv _ sig t w HS.out HI.out HT.out (by omega)).mono ?_
    rintro e w1 ⟨rfl, hb1⟩
    have HB1 := hid hb1
    clear hb1
    obtain ⟨E, hE⟩ : ∃ E, E = termE sig t := ⟨_, rfl⟩
    rw [← hE] at HD ⊢
    clear hE
    by_cases h0 : E = 0
    · subst h0
      go_wp2
      go_ret
      exact ⟨by rw [HD.out]; rfl, HB1.out⟩
    · have heb : (E == 0) = false := by simpa using h0
      go_wp2
      go_ret
      exact ⟨by rw [HD.out, decide_eq_false h0]; rfl, HB1.out⟩
  · have hd : decide ((t.length : Int) ≤ 512) = false := decide_eq_false (by omega)
    have HD : Hid (mayB sig t = false) := by show _ = _; unfold mayB; rw [decide_eq_false hl, Bool.false_and]
    have hl2 : ¬ ((t.length : Int) ≤ 512) := by omega
    go_enter Tryd.func14, Tryd.ntmps14
    go_wp2
    go_ret
    exact ⟨by rw [HD.out]; rfl, Below.refl _ _⟩

theorem results_oneL {P : Program} {fn : Func} {w : World} {tmps : Array Value} {t : Tmp} {ty : TypeId} {ad : Addr} {v : Value} (h : fn.results = #[.cell t ty]) (ht : tmps.getD t undef = .pointer (some ad)) (hl : (loadVar ty ad).run P w = .ok v w) : (results fn tmps).run P w = .ok v w := by
  have ht2 : tmps[t]?.getD undef = .pointer (some ad) := by simpa using ht
  simp [results, h, ht2, hl, asAddr]

theorem run_loadOrder {w : World} {b : Nat} {x s : Value} (h0 : w.cell? ⟨b, 0, none⟩ = some x) (h1 : w.cell? ⟨b, 1, none⟩ = some s) : (loadVar 49 ⟨b, 0, none⟩).run Tryd.prog w = .ok (.agg #[x, s]) w := by
  have h := run_loadCells_list (P := Tryd.prog) (w := w) ⟨b, 0, none⟩ [x, s] (fun j v hj => by
    rw [Addr.add_lit, Nat.zero_add]
    match j, hj with
    | 0, hj => simp at hj; subst hj; exact h0
    | 1, hj => simp at hj; subst hj; exact h1)
  simp only [List.length_cons, List.length_nil, Nat.zero_add, Nat.reduceAdd] at h
  simp [loadVar, Sem.run_bind, h]

set_option maxRecDepth 100000 in
set_option maxHeartbeats 800000 in
theorem newOrder_any (g : Nat) (w : World) :
    Calls Tryd.prog 15 #[.pointer (some ⟨g, 0, none⟩)] w fun e w' => ∃ mb, e = .returned (.agg #[.pointer (some ⟨g, 0, none⟩), .map (some mb)]) ∧ w.heap.size ≤ mb ∧ MapL w' mb [] ∧ Below w.heap.size w w' := by
  have hmm : ∀ W : World, (Instr.makeMap 47 none).run Tryd.prog W = .ok (.map (some W.heap.size)) (W.alloc (.map #[] 0)) := fun W => by
    simp [Instr.makeMap, Result.andThen]
  have HMd := hid (MapL.made (w.alloc (.cells #[.pointer none, .map none] 49)))
  have c0 : ((w.alloc (.cells #[.pointer none, .map none] 49)).alloc (.map #[] 0)).cell? ⟨w.heap.size, 0, none⟩ = some (.pointer none) := (Kp.of_below (below_alloc _)).cell _ _ (by rw [cell_of_row _ _ _ _ _ _ (heap_alloc_new _ _)]; rfl)
  have c1 : ((w.alloc (.cells #[.pointer none, .map none] 49)).alloc (.map #[] 0)).cell? ⟨w.heap.size, 1, none⟩ = some (.map none) := (Kp.of_below (below_alloc _)).cell _ _ (by rw [cell_of_row _ _ _ _ _ _ (heap_alloc_new _ _)]; rfl)
  have f0 : ∀ o, ((w.alloc (.cells #[.pointer none, .map none] 49)).alloc (.map #[] 0)).frozen? ⟨w.heap.size, o, none⟩ = false := fun o => by
    rw [frozen_same (Below.heap_alloc _ _ _ (by simp))]
    exact frozen_of_row _ _ _ _ _ (heap_alloc_new _ _)
  have HB := hid (below_step (below_alloc (w := w) (.cells #[.pointer none, .map none] 49)) (below_alloc (.map #[] 0)))
  have hsz : (w.alloc (.cells #[.pointer none, .map none] 49)).heap.size = w.heap.size + 1 := by simp
  rw [hsz] at HMd
  generalize hWm : (w.alloc (.cells #[.pointer none, .map none] 49)).alloc (.map #[] 0) = Wm at HMd c0 c1 f0 HB
  go_enter Tryd.func15, Tryd.ntmps15
  go_wp2
  have d1 : ((Wm.setCell ⟨w.heap.size, 0, none⟩ (.pointer (some ⟨g, 0, none⟩))).setCell ⟨w.heap.size, 1, none⟩ (.map (some (w.heap.size + 1)))).cell? ⟨w.heap.size, 1, none⟩ = some (.map (some (w.heap.size + 1))) := World.cell?_setCell_same' _ _ _ (by rw [World.cell?_setCell_other _ _ _ _ (by simp), c1]; rfl)
  have d0 : ((Wm.setCell ⟨w.heap.size, 0, none⟩ (.pointer (some ⟨g, 0, none⟩))).setCell ⟨w.heap.size, 1, none⟩ (.map (some (w.heap.size + 1)))).cell? ⟨w.heap.size, 0, none⟩ = some (.pointer (some ⟨g, 0, none⟩)) := by
    rw [World.cell?_setCell_other _ _ _ _ (by simp)]
    exact World.cell?_setCell_same' _ _ _ (by rw [c0]; rfl)
  refine bodyPost_ret (results_oneL (t := 2) (ty := 49) (ad := ⟨w.heap.size, 0, none⟩) rfl rfl (run_loadOrder d0 d1)) rfl ?_
  refine ⟨w.heap.size + 1, rfl, by omega, ?_, ?_⟩
  · exact (HMd.out.kept (set_grownT _ _ _ _) (by simp)).kept (set_grownT _ _ _ _) (by simp)
  · exact (HB.out.setCell (p := ⟨w.heap.size, 0, none⟩) (Nat.le_refl _) _).setCell (p := ⟨w.heap.size, 1, none⟩) (Nat.le_refl _) _

theorem may_parts {sig : List Sy} {t : List Int} (h : mayB sig t = true) : t.length ≤ 512 ∧ sigE sig = 0 ∧ rowE sig t = 0 := by
  unfold mayB at h
  rw [Bool.and_eq_true, decide_eq_true_iff, decide_eq_true_iff] at h
  have h2 := h.2
  unfold termE at h2
  split at h2
  · next h3 => exact ⟨h.1, h3, h2⟩
  · next h3 => exact absurd h2 h3

open Classical in
theorem gr_no {sig : List Sy} {ps : List (Int × Int)} {s t : List Int} (h : ¬ (mayB sig s = true ∧ mayB sig t = true)) : grB sig ps s t = false := by
  unfold grB
  exact decide_eq_false (fun h9 => h ⟨h9.1, h9.2.1⟩)

open Classical in
theorem gr_yes {sig : List Sy} {ps : List (Int × Int)} {s t : List Int} (h1 : mayB sig s = true) (h2 : mayB sig t = true) {x y : Te} (hx : growE sig s = [x]) (hy : growE sig t = [y]) : grB sig ps s t = true ↔ LG (abB ps) x y := by
  unfold grB
  rw [decide_eq_true_iff]
  constructor
  · rintro ⟨_, _, x', y', e1, e2, h⟩
    rw [hx] at e1
    rw [hy] at e2
    cases e1
    cases e2
    exact h
  · exact fun h => ⟨h1, h2, x, y, hx, hy, h⟩

set_option maxRecDepth 100000 in
set_option maxHeartbeats 1600000 in
theorem lpoGreater_any (sv pv v1 v2 : Value) (sig : List Sy) (ps : List (Int × Int)) (s t : List Int) (w : World) (hs : Sg w sv sig) (hp : Pc w pv ps) (h1 : Is w v1 s) (h2 : Is w v2 t) (hT : Tabs w) (hc : ∀ i, ¬ Up ps i i) :
    Calls Tryd.prog 7 #[sv, pv, v1, v2] w fun e w' => e = .returned (.bool (grB sig ps s t)) ∧ Below w.heap.size w w' := by
  have HS := hid hs
  have HP := hid hp
  have H1 := hid h1
  have H2 := hid h2
  have HT := hid hT
  have HC := hid hc
  clear hs hp h1 h2 hT hc
  go_enter Tryd.func7, Tryd.ntmps7
  go_wp2_with fail
  refine (mayStand_any sv v1 sig s w HS.out H1.out HT.out).mono ?_
  rintro e w1 ⟨rfl, hb1⟩
  have HB1 := hid hb1
  clear hb1
  cases hm1 : mayB sig s with
  | false =>
    have HN := hid (gr_no (ps := ps) (t := t) (fun h : mayB sig s = true ∧ mayB sig t = true => by rw [hm1] at h; cases h.1))
    clear hm1
    go_wp2
    go_ret
    exact ⟨by rw [HN.out]; rfl, HB1.out⟩
  | true =>
    have HM1 := hid hm1
    clear hm1
    go_wp2_with fail
    refine (mayStand_any sv v2 sig t w1 (HS.out.kp (Kp.of_below HB1.out)) (H2.out.kp (Kp.of_below HB1.out)) (HT.out.below HB1.out)).mono ?_
    rintro e w2 ⟨rfl, hb2⟩
    have HB2 := hid (below_step HB1.out hb2)
    clear hb2
    cases hm2 : mayB sig t with
    | false =>
      have HN := hid (gr_no (ps := ps) (s := s) (fun h : mayB sig s = true ∧ mayB sig t = true => by rw [hm2] at h; cases h.2))
      clear hm2
      go_wp2
      go_ret
      exact ⟨by rw [HN.out]; rfl, HB2.out⟩
    | true =>
      have HM2 := hid hm2
      clear hm2
      obtain ⟨ls, hsg, hrs⟩ := may_parts HM1.out
      obtain ⟨lt, _, hrt⟩ := may_parts HM2.out
      have ha := sigE_ok hsg
      obtain ⟨x, hx, rx, wx⟩ := growE_one ha hrs
      obtain ⟨y, hy, ry, wy⟩ := growE_one ha hrt
      have HA := hid ha
      have HRs := hid hrs
      have HRt := hid hrt
      have HX := hid hx
      have HY := hid hy
      have HWx := hid wx
      have HWy := hid wy
      have HAx : Hid (AtP s x 0) := ⟨[], by rw [rx]; simp⟩
      have HAy : Hid (AtP t y 0) := ⟨[], by rw [ry]; simp⟩
      have HGy := hid (gr_yes (ps := ps) HM1.out HM2.out hx hy)
      have hps : 0 < s.length := by rw [← rx, size_row]; exact size_pos x
      have hpt : 0 < t.length := by rw [← ry, size_row]; exact size_pos y
      clear hsg hrs hrt ha hx hy rx ry wx wy
      obtain ⟨a1, c1, rfl, _, _, _⟩ := H1.out.flatI
      obtain ⟨g1, f1, _, rfl, _⟩ := H1.out.at hps
      obtain ⟨a2, c2, rfl, _, _, _⟩ := H2.out.flatI
      obtain ⟨g2, f2, _, rfl, _⟩ := H2.out.at hpt
      obtain ⟨gp, T, rfl, _⟩ := HP.out
      go_wp2_with fail
      refine (newOrder_any gp w2).mono ?_
      rintro e w3 ⟨mb, rfl, hmb, hm3, hb3⟩
      have HB3 := hid (below_step HB2.out hb3)
      have HMb : Hid (w.heap.size ≤ mb) := Nat.le_trans HB2.out.size hmb
      have HM3 := hid hm3
      clear hb3 hmb hm3
      go_wp2_with fail
      refine (growL_any sv g1 f1 c1 sig s w3 (HS.out.kp (Kp.of_below HB3.out)) (H1.out.kp (Kp.of_below HB3.out)) HA.out HRs.out (by omega)).mono ?_
      rintro e w4 ⟨u1, T1, A1, rfl, hg1, ht1, hA1, hb4⟩
      rw [HX.out] at hg1
      cases hg1
      have HB4 := hid (below_step HB3.out hb4)
      have HM4 := hid (HM3.out.later hb4)
      have HT1 := hid ht1
      clear ht1 hA1 hb4
      go_wp2_with fail
      refine (growL_any sv g2 f2 c2 sig t w4 (HS.out.kp (Kp.of_below HB4.out)) (H2.out.kp (Kp.of_below HB4.out)) HA.out HRt.out (by omega)).mono ?_
      rintro e w5 ⟨u2, T2, A2, rfl, hg2, ht2, hA2, hb5⟩
      rw [HY.out] at hg2
      cases hg2
      have HB5 := hid (below_step HB4.out hb5)
      have HM5 := hid (HM4.out.later hb5)
      have HT5 : Hid (TL w5 (fun b => A1 b ∨ A2 b) (cdL g1 f1 c1) u1 x 0) := HT1.out.keep (fun _ _ _ _ hx => (Kp.of_below hb5).cell _ _ hx) (fun _ h => .inl h)
      have HT6 : Hid (TL w5 (fun b => A1 b ∨ A2 b) (cdL g2 f2 c2) u2 y 0) := ht2.keep (fun _ _ _ _ hx => hx) (fun _ h => .inr h)
      have HO : Hid (Ord sig ps s t (fun b => A1 b ∨ A2 b) w5 mb (.pointer (some ⟨gp, 0, none⟩)) g1 f1 c1 g2 f2 c2) := ⟨H1.out.kp (Kp.of_below HB5.out), H2.out.kp (Kp.of_below HB5.out), ls, lt, HP.out.later HB5.out, HM5.out.isMap, LG.no HC.out, abB_ir HC.out⟩
      have HCall := hid (greaterL_all HO.out (x.size + y.size) x y 0 0 u1 u2 [] w5 (Nat.le_refl _) HWx.out HWy.out HAx.out HAy.out HT5.out HT6.out (World.grownBy.refl _ _) HM5.out (Kn.nil _ _ _ _))
      clear ht2 hA2 hb5
      go_wp2_with fail
      refine HCall.out.mono ?_
      rintro e w6 ⟨b, rfl, hb, hg6, _⟩
      have HE : Hid (grB sig ps s t = b) := by show _ = _; rw [Bool.eq_iff_iff]; exact HGy.out.trans hb.symm
      have HB6 := hid (grown_below HB5.out hg6 HMb.out)
      clear hb hg6
      go_wp2
      go_ret
      exact ⟨by rw [HE.out]; rfl, HB6.out⟩

set_option maxRecDepth 100000 in
set_option maxHeartbeats 1600000 in
theorem lpoOrient_any (sv pv v1 v2 : Value) (sig : List Sy) (ps : List (Int × Int)) (s t : List Int) (w : World) (hs : Sg w sv sig) (hp : Pc w pv ps) (h1 : Is w v1 s) (h2 : Is w v2 t) (hT : Tabs w) (hc : ∀ i, ¬ Up ps i i) :
    Calls Tryd.prog 9 #[sv, pv, .agg #[v1, v2]] w fun e w' => e = .returned (.int .i64 (orI sig ps s t)) ∧ Below w.heap.size w w' := by
  obtain ⟨a1, c1, rfl, _, _, _⟩ := h1.flatI
  obtain ⟨a2, c2, rfl, _, _, _⟩ := h2.flatI
  have HB0 := hid (below_alloc (w := w) (.cells #[.slice a1 s.length c1, .slice a2 t.length c2] 35))
  have HS := hid hs
  have HP := hid hp
  have H1 := hid h1
  have H2 := hid h2
  have HT := hid hT
  have HC := hid hc
  have k0 : (w.alloc (.cells #[.slice a1 s.length c1, .slice a2 t.length c2] 35)).cell? ⟨w.heap.size, 0, none⟩ = some (.slice a1 s.length c1) := by rw [cell_of_row _ _ _ _ _ _ (heap_alloc_new _ _)]; rfl
  have k1 : (w.alloc (.cells #[.slice a1 s.length c1, .slice a2 t.length c2] 35)).cell? ⟨w.heap.size, 1, none⟩ = some (.slice a2 t.length c2) := by rw [cell_of_row _ _ _ _ _ _ (heap_alloc_new _ _)]; rfl
  have K0 := hid k0
  have K1 := hid k1
  clear hs hp h1 h2 hT hc k0 k1
  go_enter Tryd.func9, Tryd.ntmps9
  go_wp2_with fail
  generalize w.alloc (.cells #[.slice a1 s.length c1, .slice a2 t.length c2] 35) = W1 at HB0 K0 K1 ⊢
  refine (lpoGreater_any sv pv _ _ sig ps s t W1 (HS.out.kp (Kp.of_below HB0.out)) (HP.out.later HB0.out) (H1.out.kp (Kp.of_below HB0.out)) (H2.out.kp (Kp.of_below HB0.out)) (HT.out.below HB0.out) HC.out).mono ?_
  rintro e w2 ⟨rfl, hb2⟩
  have HB2 := hid (below_step HB0.out hb2)
  have k2 := (Kp.of_below hb2).cell _ _ K0.out
  have k3 := (Kp.of_below hb2).cell _ _ K1.out
  clear hb2
  cases hg : grB sig ps s t with
  | true =>
    have HO : Hid (orI sig ps s t = 1) := by show _ = _; unfold orI; rw [if_pos hg]
    clear hg
    go_wp2
    go_ret
    exact ⟨by rw [HO.out]; rfl, HB2.out⟩
  | false =>
    go_wp2_with fail
    refine (lpoGreater_any sv pv _ _ sig ps t s w2 (HS.out.kp (Kp.of_below HB2.out)) (HP.out.later HB2.out) (H2.out.kp (Kp.of_below HB2.out)) (H1.out.kp (Kp.of_below HB2.out)) (HT.out.below HB2.out) HC.out).mono ?_
    rintro e w3 ⟨rfl, hb3⟩
    have HB3 := hid (below_step HB2.out hb3)
    clear hb3
    cases hg2 : grB sig ps t s with
    | true =>
      have HO : Hid (orI sig ps s t = -1) := by show _ = _; unfold orI; rw [hg, if_neg (by decide), if_pos hg2]
      clear hg hg2
      go_wp2
      go_ret
      exact ⟨by rw [HO.out]; rfl, HB3.out⟩
    | false =>
      have HO : Hid (orI sig ps s t = 0) := by show _ = _; unfold orI; rw [hg, if_neg (by decide), if_neg (by rw [hg2]; decide)]
      clear hg hg2
      go_wp2
      go_ret
      exact ⟨by rw [HO.out]; rfl, HB3.out⟩

end Go.Proofs.YtcoaabgaolblfaaDoor

/- Kids and Sub walked. -/
namespace Go.Proofs.YtcoaabgaolblfaaDoor
open Go.RowKit Go.Maps

theorem empty_ints (w : World) {base : Nat} (hb : base ≤ w.heap.size) : (w.alloc (.cells #[] 3)).ownsRow base 3 1 (.slice (some ⟨w.heap.size, 0, none⟩) 0 0) 0 [] :=
  ⟨rfl, .inr ⟨w.heap.size, 0, #[], rfl, hb, heap_alloc_new _ _, Nat.le_refl _, by simp [maxLen], by simp, by simp⟩⟩

/-- What is wrong with a term and a place; the term there; its arguments' places. -/
def placeE (sig : List Sy) (t : List Int) (p : Int) : Int := if termE sig t = 0 then (endP sig t p).2 else termE sig t

def subL (sig : List Sy) (t : List Int) (p : Int) : List Int := if placeE sig t p = 0 then (t.drop p.toNat).take ((endP sig t p).1.toNat - p.toNat) else []

def kidsL (sig : List Sy) (t : List Int) (p : Int) : List Int := match growR sig (subL sig t p) with | [T] => kidsR p.toNat T | _ => []

theorem placeE_ok {sig : List Sy} {t : List Int} {p : Int} (h : placeE sig t p = 0) : ArOk sig ∧ rowE sig t = 0 ∧ ∃ k m : Nat, p = k ∧ k < t.length ∧ 1 ≤ m ∧ endP sig t p = (((k + m : Nat) : Int), 0) ∧ k + m ≤ t.length ∧ subL sig t p = (t.drop k).take m ∧ rowE sig ((t.drop k).take m) = 0 := by
  have h0 := h
  unfold placeE at h
  by_cases ht : termE sig t = 0
  · rw [if_pos ht] at h
    have hsg : sigE sig = 0 := by
      unfold termE at ht
      by_cases hs : sigE sig = 0
      · exact hs
      · rw [if_neg hs] at ht; exact ht
    have hrw : rowE sig t = 0 := by unfold termE at ht; rw [if_pos hsg] at ht; exact ht
    obtain ⟨k, m, h1, h2, h3, h4, h5, h6⟩ := endP_ok (Prod.ext rfl h : endP sig t p = ((endP sig t p).1, 0))
    refine ⟨sigE_ok hsg, hrw, k, m, h1, h2, h3, Prod.ext h4 h, h5, ?_, h6⟩
    unfold subL
    rw [if_pos h0, h4, h1, Int.toNat_natCast, Int.toNat_natCast, show k + m - k = m by omega]
  · rw [if_neg ht] at h
    exact absurd h ht

theorem kidsL_bad {sig : List Sy} {t : List Int} {p : Int} (h : placeE sig t p ≠ 0) : kidsL sig t p = [] := by
  unfold kidsL subL
  rw [if_neg h]
  rfl

theorem subL_bad {sig : List Sy} {t : List Int} {p : Int} (h : placeE sig t p ≠ 0) : subL sig t p = [] := by
  unfold subL
  rw [if_neg h]

end Go.Proofs.YtcoaabgaolblfaaDoor
