/- Texts of the proof, one behind the other. -/
import Derived.Test.YtcoaabgaolblfaaDoorOwn8
/- The path order of package lpo: its loops, further. -/
namespace Go.Proofs.YtcoaabgaolblfaaDoor
open Go.RowKit Go.Maps Go.BigFrame

theorem firstG_at {ab : Int → Int → Bool} : ∀ {ss ts : List Te} {k : Nat} {u v : Te}, ss.take k = ts.take k → ss[k]? = some u → ts[k]? = some v → u ≠ v → (FirstG ab ss ts ↔ LG ab u v)
  | [], _, _, _, _, _, h, _, _ => by simp at h
  | _ :: _, [], _, _, _, _, _, h, _ => by simp at h
  | x :: xs, y :: ys, 0, u, v, _, h1, h2, hne => by
    simp only [List.getElem?_cons_zero, Option.some.injEq] at h1 h2
    subst h1
    subst h2
    simp only [FirstG]
    exact ⟨fun h => h.elim (fun h => absurd h.1 hne) (fun h => h.2), fun h => .inr ⟨hne, h⟩⟩
  | x :: xs, y :: ys, k + 1, u, v, h, h1, h2, hne => by
    simp only [List.take_succ_cons, List.cons.injEq, List.getElem?_cons_succ] at h h1 h2
    obtain ⟨rfl, h⟩ := h
    simp only [FirstG]
    rw [← firstG_at h h1 h2 hne]
    exact ⟨fun h => h.elim (fun h => h.2) (fun h => absurd rfl h.1), fun h => .inl ⟨trivial, h⟩⟩

theorem firstG_same {ab : Int → Int → Bool} : ∀ (ss : List Te), ¬ FirstG ab ss ss
  | [] => by simp [FirstG]
  | x :: xs => by
    simp only [FirstG]
    rintro (⟨_, h⟩ | ⟨h, _⟩)
    · exact firstG_same xs h
    · exact h rfl

theorem symbolL_any (B b o c q n : Nat) (x : Int) (w : World) (h0 : w.cell? ⟨B, 1, none⟩ = some (cdL b o c q (1 + n))) (h : w.cell? ⟨b, o + q, none⟩ = some (.int .i64 x)) :
    Calls Tryd.prog 54 #[.pointer (some ⟨B, 0, none⟩)] w fun e w' => e = .returned (.int .i64 x) ∧ w' = w := by
  unfold cdL at h0
  have hn : 0 < 1 + n := by omega
  have hni : (0 : Int) < 1 + (n : Int) := by omega
  go_enter Tryd.func54, Tryd.ntmps54
  go_wp2
  go_ret
  exact ⟨rfl, rfl⟩

section
variable {sig : List Sy} {ps : List (Int × Int)} {s t : List Int} {A : Nat → Prop} {w : World} {mb : Nat} {pv : Value} {b0 o0 c0 b1 o1 c1 : Nat}


set_option maxRecDepth 100000 in
set_option maxHeartbeats 3200000 in
theorem greaterThanAll_any (H : Ord sig ps s t A w mb pv b0 o0 c0 b1 o1 c1) {n : Nat} (HG : GrOk sig ps s t A w mb pv b0 o0 c0 b1 o1 c1 n) {x : Te} {d : Int} {ts : List Te} {i j : Nat} {ao : Option Addr} {cap : Nat} {vx : Value} (hsz : x.size + (Te.a d ts).size ≤ n + 1) (wx : WfT sig x) (wy : WfT sig (.a d ts)) (ax : AtP s x i) (ay : AtP t (.a d ts) j) (ha : ts = [] ∨ ∃ g off, ao = some ⟨g, off, none⟩ ∧ A g ∧ TLs w A (cdL b1 o1 c1) g off ts (j + 1)) (_hc : ts.length ≤ cap) (_hcm : cap ≤ maxLen) (tx : TL w A (cdL b0 o0 c0) vx x i) {L : List (Pl × Bool)} (W : World)
    (hg : w.grownBy W (some mb)) (hm : MapL W mb L) (hk : Kn sig (abB ps) s t L) :
    Calls Tryd.prog 45 #[.agg #[pv, .map (some mb)], vx, .slice ao ts.length cap] W (OrdO sig ps s t mb i j true L (∀ u ∈ ts, LG (abB ps) x u) W) := by
  obtain ⟨pg, rfl⟩ := H.ptr
  have HH := hid H
  have HGr := hid HG
  have HWx := hid wx
  have HWy := hid (wf_kids wy)
  have HAx := hid ax
  have HAy := hid ay
  have HAa := hid ha
  have HTx := hid tx
  have hlen := len_sizeL ts
  simp only [Te.size] at hsz
  have hal := ay.len
  simp only [Te.size] at hal
  have hls := H.lt
  unfold maxLen at _hcm
  have HGw := hid (grown_trans hg (grown_of_below (below_alloc (w := W) (.cells #[.pointer (some ⟨pg, 0, none⟩), .map (some mb)] 49)) (some mb)))
  have HM := hid (hm.later (below_alloc (w := W) (.cells #[.pointer (some ⟨pg, 0, none⟩), .map (some mb)] 49)))
  have HK := hid hk
  have HB1 := hid (below_alloc (w := W) (.cells #[.pointer (some ⟨pg, 0, none⟩), .map (some mb)] 49))
  have hx0 : (W.alloc (.cells #[.pointer (some ⟨pg, 0, none⟩), .map (some mb)] 49)).cell? ⟨W.heap.size, 0, none⟩ = some (.pointer (some ⟨pg, 0, none⟩)) := by rw [cell_of_row _ _ _ _ _ _ (heap_alloc_new _ _)]; rfl
  have hx1 : (W.alloc (.cells #[.pointer (some ⟨pg, 0, none⟩), .map (some mb)] 49)).cell? ⟨W.heap.size, 1, none⟩ = some (.map (some mb)) := by rw [cell_of_row _ _ _ _ _ _ (heap_alloc_new _ _)]; rfl
  have HX0 := hid hx0
  have HX1 := hid hx1
  clear H HG wx wy ax ay ha tx hg hm hk hx0 hx1
  go_enter Tryd.func45, Tryd.ntmps45
  go_wp2
  generalize hW1 : W.alloc (.cells #[.pointer (some ⟨pg, 0, none⟩), .map (some mb)] 49) = W1 at HGw HM HB1 HX0 HX1 ⊢
  clear hW1
  go_loopw [11] (fun iv wr => ∃ (k : Nat) (L' : List (Pl × Bool)), k ≤ ts.length ∧ iv = .int .i64 k ∧ W1.grownBy wr (some mb) ∧ MapL wr mb L' ∧ Kn sig (abB ps) s t L' ∧ Nw i j true L L' ∧ ∀ u ∈ ts.take k, LG (abB ps) x u) (fun iv _ => ts.length - (intOf iv).toNat)
  case atStart => exact ⟨0, L, Nat.zero_le _, rfl, World.grownBy.refl _ _, HM.out, HK.out, Nw.refl _ _ _ _, fun u hu => by simp at hu⟩
  case round =>
    obtain ⟨k, L', hkl, rfl, hgr, hmr, hkr, hnw, hall⟩ := hrel
    have HGr1 := hid hgr
    have HMr := hid hmr
    have HKr := hid hkr
    have HNw := hid hnw
    have HAll := hid hall
    have HGw2 := hid (grown_trans HGw.out hgr)
    clear hgr hmr hkr hnw hall
    by_cases hlt : k < ts.length
    · obtain ⟨u, hu⟩ : ∃ u, ts[k]? = some u := ⟨_, List.getElem?_eq_getElem hlt⟩
      obtain ⟨g, off, rfl, hAg, hts⟩ := HAa.out.resolve_left (fun e => by rw [e] at hlt; simp at hlt)
      obtain ⟨vu, hcl, htu⟩ := hts.get hu
      have HU := hid hu
      have hks := kid_size hu
      have hkp := HH.out.kp HGw2.out
      have hcl2 := hkp.cell _ _ hcl
      have hm1 := (Kp.of_map HGr1.out HM.out.isMap.choose_spec.choose_spec).cell _ _ HX0.out
      have hm2 := (Kp.of_map HGr1.out HM.out.isMap.choose_spec.choose_spec).cell _ _ HX1.out
      have HCall := hid (HGr.out x u i (j + 1 + sizeL (ts.take k)) vx vu L' wr (by omega) HWx.out (HWy.out.2.2 u (List.mem_of_getElem? hu)) HAx.out (HAy.out.kid hu) HTx.out htu HGw2.out HMr.out HKr.out)
      clear hu hcl hts htu hkp
      go_wp2_with fail
      refine HCall.out.mono ?_
      rintro e w3 ⟨b, rfl, hb, hg3, L3, hm3, hk3, hn3⟩
      have HG3 := hid (grown_trans HGr1.out hg3)
      have HM3 := hid hm3
      have HK3 := hid hk3
      have HN3 := hid (HNw.out.step hn3 (Nat.le_refl i) (by omega) (.inr (by omega)))
      clear hg3 hm3 hk3 hn3
      cases b with
      | true =>
        have HE2 := hid (hb.1 rfl)
        clear hb
        go_wp2
        go_roundw
        case rel =>
          refine ⟨k + 1, L3, by omega, by go_num, HG3.out, HM3.out, HK3.out, HN3.out, fun z hz => ?_⟩
          rw [take_get HU.out, List.mem_append, List.mem_singleton] at hz
          rcases hz with hz | rfl
          · exact HAll.out z hz
          · exact HE2.out
        case measure => simp [intOf]; omega
      | false =>
        have HE2 : Hid (¬ LG (abB ps) x u) := fun h => by have := hb.2 h; cases this
        clear hb
        go_wp2
        go_ret
        exact ⟨false, rfl, ⟨fun h => (by cases h), fun h => absurd (h u (List.mem_of_getElem? HU.out)) HE2.out⟩, grown_trans (grown_of_below HB1.out (some mb)) HG3.out, L3, HM3.out, HK3.out, HN3.out⟩
    · have hke : k = ts.length := by omega
      go_wp2
      go_ret
      exact ⟨true, rfl, ⟨fun _ u hu => HAll.out u (by rw [hke, List.take_length]; exact hu), fun _ => rfl⟩, grown_trans (grown_of_below HB1.out (some mb)) HGr1.out, L', HMr.out, HKr.out, HNw.out⟩


set_option maxRecDepth 100000 in
set_option maxHeartbeats 3200000 in
theorem firstUnlike_any (H : Ord sig ps s t A w mb pv b0 o0 c0 b1 o1 c1) {n : Nat} (HG : GrOk sig ps s t A w mb pv b0 o0 c0 b1 o1 c1 n) {c d : Int} {ss ts : List Te} {i j : Nat} {ao bo : Option Addr} {ca cb : Nat} (hsz : (Te.a c ss).size + (Te.a d ts).size ≤ n + 1) (wx : WfT sig (.a c ss)) (wy : WfT sig (.a d ts)) (ax : AtP s (.a c ss) i) (ay : AtP t (.a d ts) j) (hll : ss.length = ts.length) (ha : ss = [] ∨ ∃ g off, ao = some ⟨g, off, none⟩ ∧ A g ∧ TLs w A (cdL b0 o0 c0) g off ss (i + 1)) (hb : ts = [] ∨ ∃ g off, bo = some ⟨g, off, none⟩ ∧ A g ∧ TLs w A (cdL b1 o1 c1) g off ts (j + 1)) (_hc : ss.length ≤ ca) (_hcm : ca ≤ maxLen) (_hd : ts.length ≤ cb) (_hdm : cb ≤ maxLen) {L : List (Pl × Bool)} (W : World)
    (hg : w.grownBy W (some mb)) (hm : MapL W mb L) (hk : Kn sig (abB ps) s t L) :
    Calls Tryd.prog 55 #[.agg #[pv, .map (some mb)], .slice ao ss.length ca, .slice bo ts.length cb] W (OrdO sig ps s t mb i j true L (FirstG (abB ps) ss ts) W) := by
  obtain ⟨pg, rfl⟩ := H.ptr
  have HH := hid H
  have HGr := hid HG
  have HWx := hid (wf_kids wx)
  have HWy := hid (wf_kids wy)
  have HAx := hid ax
  have HAy := hid ay
  have HAa := hid ha
  have HAb := hid hb
  have hlen := len_sizeL ss
  have hlen2 := len_sizeL ts
  simp only [Te.size] at hsz
  have hal := ax.len
  simp only [Te.size] at hal
  have hls := H.ls
  have HLl := hid hll
  unfold maxLen at _hcm _hdm
  have HGw := hid (grown_trans hg (grown_of_below (below_alloc (w := W) (.cells #[.pointer (some ⟨pg, 0, none⟩), .map (some mb)] 49)) (some mb)))
  have HM := hid (hm.later (below_alloc (w := W) (.cells #[.pointer (some ⟨pg, 0, none⟩), .map (some mb)] 49)))
  have HK := hid hk
  have HB1 := hid (below_alloc (w := W) (.cells #[.pointer (some ⟨pg, 0, none⟩), .map (some mb)] 49))
  have hx0 : (W.alloc (.cells #[.pointer (some ⟨pg, 0, none⟩), .map (some mb)] 49)).cell? ⟨W.heap.size, 0, none⟩ = some (.pointer (some ⟨pg, 0, none⟩)) := by rw [cell_of_row _ _ _ _ _ _ (heap_alloc_new _ _)]; rfl
  have hx1 : (W.alloc (.cells #[.pointer (some ⟨pg, 0, none⟩), .map (some mb)] 49)).cell? ⟨W.heap.size, 1, none⟩ = some (.map (some mb)) := by rw [cell_of_row _ _ _ _ _ _ (heap_alloc_new _ _)]; rfl
  have HX0 := hid hx0
  have HX1 := hid hx1
  clear H HG wx wy ax ay ha hb hg hm hk hx0 hx1
  go_enter Tryd.func55, Tryd.ntmps55
  go_wp2
  generalize hW1 : W.alloc (.cells #[.pointer (some ⟨pg, 0, none⟩), .map (some mb)] 49) = W1 at HGw HM HB1 HX0 HX1 ⊢
  clear hW1
  go_loopw [10] (fun iv wr => ∃ k : Nat, k ≤ ss.length ∧ iv = .int .i64 k ∧ Below W1.heap.size W1 wr ∧ ss.take k = ts.take k) (fun iv _ => ss.length - (intOf iv).toNat)
  case atStart => exact ⟨0, Nat.zero_le _, rfl, Below.refl _ _, rfl⟩
  case round =>
    obtain ⟨k, hkl, rfl, hbl, hall⟩ := hrel
    have HBl := hid hbl
    have HAll := hid hall
    have HGw2 := hid (grown_trans HGw.out (grown_of_below hbl (some mb)))
    clear hall
    by_cases hlt : k < ss.length
    · have hlt2 : k < ts.length := by have := HLl.out; omega
      obtain ⟨u, hu⟩ : ∃ u, ss[k]? = some u := ⟨_, List.getElem?_eq_getElem hlt⟩
      obtain ⟨v, hv⟩ : ∃ v, ts[k]? = some v := ⟨_, List.getElem?_eq_getElem hlt2⟩
      obtain ⟨g, off, rfl, hAg, hts⟩ := HAa.out.resolve_left (fun e => by rw [e] at hlt; simp at hlt)
      obtain ⟨g', off', rfl, hAg', hts'⟩ := HAb.out.resolve_left (fun e => by rw [e] at hlt2; simp at hlt2)
      obtain ⟨vu, hcl, htu⟩ := hts.get hu
      obtain ⟨vv, hcl', htv⟩ := hts'.get hv
      have HU := hid hu
      have HV := hid hv
      have hks := kid_size hu
      have hks' := kid_size hv
      have hkp := HH.out.kp HGw2.out
      have hcl2 := hkp.cell _ _ hcl
      have hcl3 := hkp.cell _ _ hcl'
      have HTu := hid htu
      have HTv := hid htv
      have HAu := hid (HAx.out.kid hu)
      have HAv := hid (HAy.out.kid hv)
      have HWu := hid (HWx.out.2.2 u (List.mem_of_getElem? hu))
      have HWv := hid (HWy.out.2.2 v (List.mem_of_getElem? hv))
      have HKp := hid hkp
      have hm1 := (Kp.of_below hbl).cell _ _ HX0.out
      have hm2 := (Kp.of_below hbl).cell _ _ HX1.out
      clear hu hv hcl hcl' hts hts' htu htv hkp hbl
      go_upto_region 4 with fail
      have hS : Kp wr wr.drew := Kp.of_below (drawn_below1 wr)
      refine wp_region_held_drew (S := fun w' => Kp wr w') (by kernel_rfl) hS (fun _ => ?_)
      obtain ⟨W0, hW0⟩ : ∃ X, X = wr.drew := ⟨_, rfl⟩
      have bW0 : Below wr.heap.size wr W0 := by rw [hW0]; exact drawn_below1 wr
      rw [← hW0] at hS ⊢
      clear hW0
      refine wpAnyH_take (i := 0) (v := .slice (some ⟨g, off, none⟩) ss.length ca) rfl (by kernel_rfl) (by kernel_rfl) (by kernel_rfl) (fun _ _ _ h => h) (Or.inl ⟨by rfl, fun w' h => by go_simp⟩) hS ?_
      simp only [Act.put, List.setIfInBounds_toArray]
      refine wpAnyH_take (i := 1) (v := .int .i64 (k : Int)) rfl (by kernel_rfl) (by kernel_rfl) (by kernel_rfl) (fun _ _ _ h => h) (Or.inl ⟨by rfl, fun w' h => by go_simp⟩) hS ?_
      simp only [Act.put]
      refine wpAnyH_take (i := 2) (v := .pointer (some ⟨g, off + k, none⟩)) rfl (by kernel_rfl) (by kernel_rfl) (by kernel_rfl) (fun _ _ _ h => h) (Or.inl ⟨by rfl, fun w' h => by go_simp⟩) hS ?_
      simp only [Act.put]
      refine wpAnyH_take (i := 3) (v := vu) rfl (by kernel_rfl) (by kernel_rfl) (by kernel_rfl) (fun _ _ _ h => h) (Or.inl ⟨by rfl, fun w' h => by have hh0 := h.cell _ _ hcl2; go_simp⟩) hS ?_
      simp only [Act.put]
      refine wpAnyH_take (i := 4) (v := .slice (some ⟨g', off', none⟩) ts.length cb) rfl (by kernel_rfl) (by kernel_rfl) (by kernel_rfl) (fun _ _ _ h => h) (Or.inl ⟨by rfl, fun w' h => by go_simp⟩) hS ?_
      simp only [Act.put]
      refine wpAnyH_take (i := 5) (v := .int .i64 (k : Int)) rfl (by kernel_rfl) (by kernel_rfl) (by kernel_rfl) (fun _ _ _ h => h) (Or.inl ⟨by rfl, fun w' h => by go_simp⟩) hS ?_
      simp only [Act.put]
      refine wpAnyH_take (i := 6) (v := .pointer (some ⟨g', off' + k, none⟩)) rfl (by kernel_rfl) (by kernel_rfl) (by kernel_rfl) (fun _ _ _ h => h) (Or.inl ⟨by rfl, fun w' h => by go_simp⟩) hS ?_
      simp only [Act.put]
      refine wpAnyH_take (i := 7) (v := vv) rfl (by kernel_rfl) (by kernel_rfl) (by kernel_rfl) (fun _ _ _ h => h) (Or.inl ⟨by rfl, fun w' h => by have hh0 := h.cell _ _ hcl3; go_simp⟩) hS ?_
      simp only [Act.put]
      have HSame := hid (lpoSameD_any (A := A) W0 (HH.out.hs.kp (HKp.out.trans hS)) (HH.out.ht.kp (HKp.out.trans hS)) HAu.out HAv.out (HTu.out.kp (HKp.out.trans hS)) (HTv.out.kp (HKp.out.trans hS)))
      have HEq : Hid (decide (u.row = v.row) = true ↔ u = v) := by show _ ↔ _; rw [decide_eq_true_iff]; exact ⟨fun h => wf_inj HWu.out HWv.out h, fun h => by rw [h]⟩
      obtain ⟨B, hB⟩ : ∃ B, B = decide (u.row = v.row) := ⟨_, rfl⟩
      rw [← hB] at HSame HEq
      clear hB
      refine wpAnyH_ready (rs := [8]) (by kernel_rfl) (by simp) (AllReadyH.cons rfl (fun K hK => ?_) (AllReadyH.nil))
      go_simp
      refine HSame.out.mono ?_
      rintro e w2 ⟨rfl, hb2⟩
      refine hK.out _ _ (hS.trans (Kp.of_below hb2)) (fun hS2 => ?_)
      clear hK K
      try simp only [Act.put, List.setIfInBounds_toArray]
      refine wpAnyH_take (i := 9) (v := .bool (!B)) rfl (by kernel_rfl) (by kernel_rfl) (by kernel_rfl) (fun _ _ _ h => h) (Or.inl ⟨by rfl, fun w' h => by go_simp⟩) hS2 ?_
      simp only [Act.put]
      refine wpAnyH_done (by kernel_rfl) ?_ _
      try simp only [List.getElem_toArray, List.getElem_cons_succ, List.getElem_cons_zero, List.setIfInBounds_toArray, List.set_cons_succ, List.set_cons_zero]
      have HB2 := hid (below_step bW0 hb2)
      have hn1 := hS2.cell _ _ hm1
      have hn2 := hS2.cell _ _ hm2
      have hn3 := hS2.cell _ _ hcl2
      have hn4 := hS2.cell _ _ hcl3
      clear hS hS2 hb2 bW0 hm1 hm2 hcl2 hcl3 HSame
      cases B with
      | true =>
        have HE := hid (HEq.out.1 rfl)
        go_wp2
        go_roundw
        case rel => exact ⟨k + 1, by omega, by go_num, below_step HBl.out HB2.out, by rw [take_get HU.out, take_get HV.out, HAll.out, HE.out]⟩
        case measure => simp [intOf]; omega
      | false =>
        have HE : Hid (¬ u = v) := fun h => by have := HEq.out.2 h; cases this
        go_wp2_with fail
        go_upto_region 5 with fail
        have hS : Kp w2 w2.drew := Kp.of_below (drawn_below1 w2)
        refine wp_region_held_drew (S := fun w' => Kp w2 w') (by kernel_rfl) hS (fun _ => ?_)
        obtain ⟨W0, hW0⟩ : ∃ X, X = w2.drew := ⟨_, rfl⟩
        have bW0 : Below w2.heap.size w2 W0 := by rw [hW0]; exact drawn_below1 w2
        rw [← hW0] at hS ⊢
        clear hW0
        refine wpAnyH_take (i := 0) (v := .agg #[.pointer (some ⟨pg, 0, none⟩), .map (some mb)]) rfl (by kernel_rfl) (by kernel_rfl) (by kernel_rfl) (fun _ _ _ h => h) (Or.inl ⟨by rfl, fun w' h => by have hh0 := h.cell _ _ hn1; have hh1 := h.cell _ _ hn2; go_simp⟩) hS ?_
        simp only [Act.put, List.setIfInBounds_toArray]
        refine wpAnyH_take (i := 1) (v := .slice (some ⟨g, off, none⟩) ss.length ca) rfl (by kernel_rfl) (by kernel_rfl) (by kernel_rfl) (fun _ _ _ h => h) (Or.inl ⟨by rfl, fun w' h => by go_simp⟩) hS ?_
        simp only [Act.put]
        refine wpAnyH_take (i := 2) (v := .int .i64 (k : Int)) rfl (by kernel_rfl) (by kernel_rfl) (by kernel_rfl) (fun _ _ _ h => h) (Or.inl ⟨by rfl, fun w' h => by go_simp⟩) hS ?_
        simp only [Act.put]
        refine wpAnyH_take (i := 3) (v := .pointer (some ⟨g, off + k, none⟩)) rfl (by kernel_rfl) (by kernel_rfl) (by kernel_rfl) (fun _ _ _ h => h) (Or.inl ⟨by rfl, fun w' h => by go_simp⟩) hS ?_
        simp only [Act.put]
        refine wpAnyH_take (i := 4) (v := vu) rfl (by kernel_rfl) (by kernel_rfl) (by kernel_rfl) (fun _ _ _ h => h) (Or.inl ⟨by rfl, fun w' h => by have hh0 := h.cell _ _ hn3; go_simp⟩) hS ?_
        simp only [Act.put]
        refine wpAnyH_take (i := 5) (v := .slice (some ⟨g', off', none⟩) ts.length cb) rfl (by kernel_rfl) (by kernel_rfl) (by kernel_rfl) (fun _ _ _ h => h) (Or.inl ⟨by rfl, fun w' h => by go_simp⟩) hS ?_
        simp only [Act.put]
        refine wpAnyH_take (i := 6) (v := .int .i64 (k : Int)) rfl (by kernel_rfl) (by kernel_rfl) (by kernel_rfl) (fun _ _ _ h => h) (Or.inl ⟨by rfl, fun w' h => by go_simp⟩) hS ?_
        simp only [Act.put]
        refine wpAnyH_take (i := 7) (v := .pointer (some ⟨g', off' + k, none⟩)) rfl (by kernel_rfl) (by kernel_rfl) (by kernel_rfl) (fun _ _ _ h => h) (Or.inl ⟨by rfl, fun w' h => by go_simp⟩) hS ?_
        simp only [Act.put]
        refine wpAnyH_take (i := 8) (v := vv) rfl (by kernel_rfl) (by kernel_rfl) (by kernel_rfl) (fun _ _ _ h => h) (Or.inl ⟨by rfl, fun w' h => by have hh0 := h.cell _ _ hn4; go_simp⟩) hS ?_
        simp only [Act.put]
        have HB3 := hid (below_step HB2.out bW0)
        have HCall := hid (HGr.out u v (i + 1 + sizeL (ss.take k)) (j + 1 + sizeL (ts.take k)) vu vv L W0 (by omega) HWu.out HWv.out HAu.out HAv.out HTu.out HTv.out (grown_trans HGw2.out (grown_of_below HB3.out (some mb))) ((HM.out.later HBl.out).later HB3.out) HK.out)
        refine wpAnyH_ready (rs := [9]) (by kernel_rfl) (by simp) (AllReadyH.cons rfl (fun K hK => ?_) (AllReadyH.nil))
        go_simp
        refine HCall.out.mono ?_
        rintro e w3 ⟨b, rfl, hb, hg3, L3, hm3, hk3, hn3z⟩
        refine hK.out _ _ (hS.trans (Kp.of_map hg3 ((HM.out.later HBl.out).later HB3.out).isMap.choose_spec.choose_spec)) (fun hS3 => ?_)
        clear hK K
        try simp only [Act.put, List.setIfInBounds_toArray]
        refine wpAnyH_take (i := 10) (v := .bool b) rfl (by kernel_rfl) (by kernel_rfl) (by kernel_rfl) (fun _ _ _ h => h) (Or.inl ⟨by rfl, fun w' h => by go_simp⟩) hS3 ?_
        simp only [Act.put]
        refine wpAnyH_done (by kernel_rfl) ?_ _
        try simp only [List.getElem_toArray, List.getElem_cons_succ, List.getElem_cons_zero, List.setIfInBounds_toArray, List.set_cons_succ, List.set_cons_zero]
        have HG3 := hid hg3
        have HM3 := hid hm3
        have HK3 := hid hk3
        have HN3 := hid hn3z
        have HBb := hid hb
        clear hg3 hm3 hk3 hn3z hb hS hS3
        go_wp2
        go_ret
        refine ⟨b, rfl, HBb.out.trans (firstG_at HAll.out HU.out HV.out HE.out).symm, ?_, L3, HM3.out, HK3.out, (Nw.refl i j true L).step HN3.out (by omega) (by omega) (.inl (by omega))⟩
        exact grown_trans (grown_of_below (below_step (below_step HB1.out HBl.out) HB3.out) (some mb)) HG3.out
    · have hke : k = ss.length := by omega
      have HEq : Hid (ss = ts) := by
        have h := HAll.out
        have := HLl.out
        rw [hke, List.take_length, List.take_of_length_le (by omega)] at h
        exact h
      clear hbl
      go_wp2
      go_ret
      exact ⟨false, rfl, ⟨fun h => (by cases h), fun h => absurd h (by rw [← HEq.out]; exact firstG_same ss)⟩, grown_of_below (below_step HB1.out HBl.out) (some mb), L, HM.out.later HBl.out, HK.out, Nw.refl _ _ _ _⟩

end

end Go.Proofs.YtcoaabgaolblfaaDoor

/- The path order of package lpo: leads, compare. -/
namespace Go.Proofs.YtcoaabgaolblfaaDoor
open Go.RowKit Go.Maps Go.BigFrame

theorem code_at {w : World} {b o c : Nat} {s : List Int} (h : Is w (.slice (some ⟨b, o, none⟩) s.length c) s) {f : Int} {ts : List Te} {i : Nat} (hx : AtP s (.a f ts) i) : w.cell? ⟨b, o + i, none⟩ = some (.int .i64 f) := by
  have hl := hx.len
  have hp := size_pos (.a f ts)
  obtain ⟨g, off, x, e, h1, h2, _⟩ := h.at (k := i) (by omega)
  simp only [Option.some.injEq, Addr.mk.injEq, and_true] at e
  obtain ⟨rfl, rfl⟩ := e
  obtain ⟨r, hr⟩ := hx
  have h3 : s[i]? = some f := by
    have h4 : (s.drop i)[0]? = some f := by rw [hr]; rfl
    rw [List.getElem?_drop] at h4
    exact h4
  rw [h1] at h3
  cases h3
  exact h2

theorem TL.app {w : World} {A : Nat → Prop} {S : Nat → Nat → Value} {b : Nat} {c : Int} {ts : List Te} {p : Nat} (h : TL w A S (.iface 88 (.pointer (some ⟨b, 0, none⟩))) (.a c ts) p) :
    ∃ a cap, w.cell? ⟨b, 0, none⟩ = some (.int .i64 (p : Int)) ∧ w.cell? ⟨b, 1, none⟩ = some (S p (1 + sizeL ts)) ∧ w.cell? ⟨b, 2, none⟩ = some (.slice a ts.length cap) ∧ ts.length ≤ cap ∧ cap ≤ maxLen ∧ (ts = [] ∨ ∃ g off, a = some ⟨g, off, none⟩ ∧ A g ∧ TLs w A S g off ts (p + 1)) := by
  unfold TL at h
  obtain ⟨b', a, cap, e, _, h1, h2, h3, h4, h5, h6⟩ := h
  simp only [Value.iface.injEq, Value.pointer.injEq, Option.some.injEq, Addr.mk.injEq, and_true, true_and] at e
  subst e
  exact ⟨a, cap, h1, h2, h3, h4, h5, h6⟩

section
variable {sig : List Sy} {ps : List (Int × Int)} {s t : List Int} {A : Nat → Prop} {w : World} {mb : Nat} {pv : Value} {b0 o0 c0 b1 o1 c1 : Nat}


set_option maxRecDepth 100000 in
set_option maxHeartbeats 3200000 in
theorem leadsL_any (H : Ord sig ps s t A w mb pv b0 o0 c0 b1 o1 c1) {n : Nat} (HG : GrOk sig ps s t A w mb pv b0 o0 c0 b1 o1 c1 n) {c d : Int} {ss ts : List Te} {i j bx by' : Nat} (hsz : (Te.a c ss).size + (Te.a d ts).size ≤ n + 1) (wx : WfT sig (.a c ss)) (wy : WfT sig (.a d ts)) (ax : AtP s (.a c ss) i) (ay : AtP t (.a d ts) j) (tx : TL w A (cdL b0 o0 c0) (.iface 88 (.pointer (some ⟨bx, 0, none⟩))) (.a c ss) i) (ty : TL w A (cdL b1 o1 c1) (.iface 88 (.pointer (some ⟨by', 0, none⟩))) (.a d ts) j) {L : List (Pl × Bool)} (W : World)
    (hg : w.grownBy W (some mb)) (hm : MapL W mb L) (hk : Kn sig (abB ps) s t L) :
    Calls Tryd.prog 44 #[.agg #[pv, .map (some mb)], .pointer (some ⟨bx, 0, none⟩), .pointer (some ⟨by', 0, none⟩)] W (OrdO sig ps s t mb i j true L ((c = d ∧ FirstG (abB ps) ss ts) ∨ (c ≠ d ∧ abB ps c d = true)) W) := by
  generalize hPB : ((c = d ∧ FirstG (abB ps) ss ts) ∨ (c ≠ d ∧ abB ps c d = true)) = PB
  have HPB := hid hPB
  clear hPB
  obtain ⟨pg, rfl⟩ := H.ptr
  have HH := hid H
  have HGr := hid HG
  obtain ⟨ao, ca, _, x1, x2, x3, x4, x5⟩ := tx.app
  obtain ⟨bo, cb, _, y1, y2, y3, y4, y5⟩ := ty.app
  have HWx := hid wx
  have HWy := hid wy
  have HAx := hid ax
  have HAy := hid ay
  have HX5 := hid x5
  have HY5 := hid y5
  have HSz := hid hsz
  have HX1 := hid x1
  have HX2 := hid x2
  have HY1 := hid y1
  have HY2 := hid y2
  have HXc := hid (code_at H.hs ax)
  have HYc := hid (code_at H.ht ay)
  have HGw := hid (grown_trans hg (grown_of_below (below_alloc (w := W) (.cells #[.pointer (some ⟨pg, 0, none⟩), .map (some mb)] 49)) (some mb)))
  have HM := hid (hm.later (below_alloc (w := W) (.cells #[.pointer (some ⟨pg, 0, none⟩), .map (some mb)] 49)))
  have HK := hid hk
  have HB1 := hid (below_alloc (w := W) (.cells #[.pointer (some ⟨pg, 0, none⟩), .map (some mb)] 49))
  have hx0 : (W.alloc (.cells #[.pointer (some ⟨pg, 0, none⟩), .map (some mb)] 49)).cell? ⟨W.heap.size, 0, none⟩ = some (.pointer (some ⟨pg, 0, none⟩)) := by rw [cell_of_row _ _ _ _ _ _ (heap_alloc_new _ _)]; rfl
  have hx1 : (W.alloc (.cells #[.pointer (some ⟨pg, 0, none⟩), .map (some mb)] 49)).cell? ⟨W.heap.size, 1, none⟩ = some (.map (some mb)) := by rw [cell_of_row _ _ _ _ _ _ (heap_alloc_new _ _)]; rfl
  have HB0 := hid hx0
  have HBm := hid hx1
  clear H HG wx wy ax ay tx ty hg hm hk hx0 hx1 x5 y5 hsz x1 x2 y1 y2
  go_enter Tryd.func44, Tryd.ntmps44
  go_wp2_with fail
  generalize hW1 : W.alloc (.cells #[.pointer (some ⟨pg, 0, none⟩), .map (some mb)] 49) = W1 at HGw HM HB1 HB0 HBm ⊢
  clear hW1
  have hkp := HH.out.kp HGw.out
  have q1 := hkp.cell _ _ HX1.out
  have q2 := hkp.cell _ _ HX2.out
  have q3 := hkp.cell _ _ HXc.out
  have r1 := hkp.cell _ _ HY1.out
  have r2 := hkp.cell _ _ HY2.out
  have r3 := hkp.cell _ _ HYc.out
  have HQ := hid (symbolL_any bx b0 o0 c0 i (sizeL ss) c)
  have HR := hid (symbolL_any by' b1 o1 c1 j (sizeL ts) d)
  have Q1 := hid q1
  have R1 := hid r1
  have Q3 := hid q3
  have R3 := hid r3
  have Q2 := hid q2
  have R2 := hid r2
  clear hkp q1 q2 q3 r1 r2 r3
  refine (HQ.out W1 Q1.out Q3.out).mono ?_
  rintro e w2 ⟨rfl, hw2⟩
  have hw8 := hw2.symm
  subst hw8
  clear hw2
  go_wp2_with fail
  refine (HR.out W1 R1.out R3.out).mono ?_
  rintro e w2 ⟨rfl, hw2⟩
  have hw8 := hw2.symm
  subst hw8
  clear hw2
  by_cases hcd : c = d
  · have HP2 : Hid (FirstG (abB ps) ss ts ↔ PB) := by show _ ↔ _; rw [← HPB.out]; exact ⟨fun h => .inl ⟨hcd, h⟩, fun h => h.elim (fun h => h.2) (fun h => absurd hcd h.1)⟩
    clear HPB
    subst hcd
    have HLl : Hid (ss.length = ts.length) := by show _ = _; rw [(wf_kids HWx.out).2.1, (wf_kids HWy.out).2.1]
    have z0 := HB0.out
    have z1 := HBm.out
    have z2 := Q2.out
    have z3 := R2.out
    go_wp2_with fail
    go_upto_region 2 with fail
    have hS : Kp W1 W1.drew := Kp.of_below (drawn_below1 W1)
    refine wp_region_held_drew (S := fun w' => Kp W1 w') (by kernel_rfl) hS (fun _ => ?_)
    obtain ⟨W0, hW0⟩ : ∃ X, X = W1.drew := ⟨_, rfl⟩
    have bW0 : Below W1.heap.size W1 W0 := by rw [hW0]; exact drawn_below1 W1
    rw [← hW0] at hS ⊢
    clear hW0
    refine wpAnyH_take (i := 0) (v := .agg #[.pointer (some ⟨pg, 0, none⟩), .map (some mb)]) rfl (by kernel_rfl) (by kernel_rfl) (by kernel_rfl) (fun _ _ _ h => h) (Or.inl ⟨by rfl, fun w' h => by have hh0 := h.cell _ _ z0; have hh1 := h.cell _ _ z1; go_simp⟩) hS ?_
    simp only [Act.put, List.setIfInBounds_toArray]
    refine wpAnyH_take (i := 1) (v := .pointer (some ⟨bx, 0, none⟩)) rfl (by kernel_rfl) (by kernel_rfl) (by kernel_rfl) (fun _ _ _ h => h) (Or.inl ⟨by rfl, fun w' h => by go_simp⟩) hS ?_
    simp only [Act.put]
    refine wpAnyH_take (i := 2) (v := .pointer (some ⟨bx, 0, none⟩)) rfl (by kernel_rfl) (by kernel_rfl) (by kernel_rfl) (fun _ _ _ h => h) (Or.inl ⟨by rfl, fun w' h => by go_simp⟩) hS ?_
    simp only [Act.put]
    refine wpAnyH_take (i := 3) (v := .pointer (some ⟨bx, 2, none⟩)) rfl (by kernel_rfl) (by kernel_rfl) (by kernel_rfl) (fun _ _ _ h => h) (Or.inl ⟨by rfl, fun w' h => by go_simp⟩) hS ?_
    simp only [Act.put]
    refine wpAnyH_take (i := 4) (v := .slice ao ss.length ca) rfl (by kernel_rfl) (by kernel_rfl) (by kernel_rfl) (fun _ _ _ h => h) (Or.inl ⟨by rfl, fun w' h => by have hh0 := h.cell _ _ z2; go_simp⟩) hS ?_
    simp only [Act.put]
    refine wpAnyH_take (i := 5) (v := .pointer (some ⟨by', 0, none⟩)) rfl (by kernel_rfl) (by kernel_rfl) (by kernel_rfl) (fun _ _ _ h => h) (Or.inl ⟨by rfl, fun w' h => by go_simp⟩) hS ?_
    simp only [Act.put]
    refine wpAnyH_take (i := 6) (v := .pointer (some ⟨by', 0, none⟩)) rfl (by kernel_rfl) (by kernel_rfl) (by kernel_rfl) (fun _ _ _ h => h) (Or.inl ⟨by rfl, fun w' h => by go_simp⟩) hS ?_
    simp only [Act.put]
    refine wpAnyH_take (i := 7) (v := .pointer (some ⟨by', 2, none⟩)) rfl (by kernel_rfl) (by kernel_rfl) (by kernel_rfl) (fun _ _ _ h => h) (Or.inl ⟨by rfl, fun w' h => by go_simp⟩) hS ?_
    simp only [Act.put]
    refine wpAnyH_take (i := 8) (v := .slice bo ts.length cb) rfl (by kernel_rfl) (by kernel_rfl) (by kernel_rfl) (fun _ _ _ h => h) (Or.inl ⟨by rfl, fun w' h => by have hh0 := h.cell _ _ z3; go_simp⟩) hS ?_
    simp only [Act.put]
    have HCall := hid (firstUnlike_any HH.out HGr.out HSz.out HWx.out HWy.out HAx.out HAy.out HLl.out HX5.out HY5.out x3 x4 y3 y4 W0 (grown_trans HGw.out (grown_of_below bW0 (some mb))) (HM.out.later bW0) HK.out)
    refine wpAnyH_ready (rs := [9]) (by kernel_rfl) (by simp) (AllReadyH.cons rfl (fun K hK => ?_) (AllReadyH.nil))
    go_simp
    refine HCall.out.mono ?_
    rintro e w3 ⟨b, rfl, hb, hg3, L3, hm3, hk3, hn3z⟩
    refine hK.out _ _ (hS.trans (Kp.of_map hg3 (HM.out.later bW0).isMap.choose_spec.choose_spec)) (fun hS3 => ?_)
    clear hK K
    try simp only [Act.put, List.setIfInBounds_toArray]
    refine wpAnyH_take (i := 10) (v := .bool b) rfl (by kernel_rfl) (by kernel_rfl) (by kernel_rfl) (fun _ _ _ h => h) (Or.inl ⟨by rfl, fun w' h => by go_simp⟩) hS3 ?_
    simp only [Act.put]
    refine wpAnyH_done (by kernel_rfl) ?_ _
    try simp only [List.getElem_toArray, List.getElem_cons_succ, List.getElem_cons_zero, List.setIfInBounds_toArray, List.set_cons_succ, List.set_cons_zero]
    have HG3 := hid (grown_trans (grown_of_below (below_step HB1.out bW0) (some mb)) hg3)
    have HM3 := hid hm3
    have HK3 := hid hk3
    have HN3 := hid hn3z
    have HBb := hid hb
    clear hg3 hm3 hk3 hn3z hb hS hS3 bW0
    go_wp2
    go_ret
    exact ⟨b, rfl, HBb.out.trans HP2.out, HG3.out, L3, HM3.out, HK3.out, HN3.out⟩
  · have z0 := HB0.out
    have z1 := HBm.out
    go_wp2_with fail
    go_upto_region 3 with fail
    have hS : Kp W1 W1.drew := Kp.of_below (drawn_below1 W1)
    refine wp_region_held_drew (S := fun w' => Kp W1 w') (by kernel_rfl) hS (fun _ => ?_)
    obtain ⟨W0, hW0⟩ : ∃ X, X = W1.drew := ⟨_, rfl⟩
    have bW0 : Below W1.heap.size W1 W0 := by rw [hW0]; exact drawn_below1 W1
    rw [← hW0] at hS ⊢
    clear hW0
    refine wpAnyH_take (i := 0) (v := .pointer (some ⟨W.heap.size, 0, none⟩)) rfl (by kernel_rfl) (by kernel_rfl) (by kernel_rfl) (fun _ _ _ h => h) (Or.inl ⟨by rfl, fun w' h => by go_simp⟩) hS ?_
    simp only [Act.put, List.setIfInBounds_toArray]
    refine wpAnyH_take (i := 1) (v := .pointer (some ⟨pg, 0, none⟩)) rfl (by kernel_rfl) (by kernel_rfl) (by kernel_rfl) (fun _ _ _ h => h) (Or.inl ⟨by rfl, fun w' h => by have hh0 := h.cell _ _ z0; go_simp⟩) hS ?_
    simp only [Act.put]
    refine wpAnyH_take (i := 2) (v := .pointer (some ⟨bx, 0, none⟩)) rfl (by kernel_rfl) (by kernel_rfl) (by kernel_rfl) (fun _ _ _ h => h) (Or.inl ⟨by rfl, fun w' h => by go_simp⟩) hS ?_
    simp only [Act.put]
    refine wpAnyH_take (i := 4) (v := .pointer (some ⟨by', 0, none⟩)) rfl (by kernel_rfl) (by kernel_rfl) (by kernel_rfl) (fun _ _ _ h => h) (Or.inl ⟨by rfl, fun w' h => by go_simp⟩) hS ?_
    simp only [Act.put]
    have HA9 := hid (aboveP_any ps (.pointer (some ⟨pg, 0, none⟩)) c d W0 (HH.out.pcW (grown_trans HGw.out (grown_of_below bW0 (some mb)))))
    obtain ⟨B, hB⟩ : ∃ B, B = abB ps c d := ⟨_, rfl⟩
    rw [← hB] at HA9
    have HBB := hid hB
    clear hB
    refine wpAnyH_ready (rs := [3]) (by kernel_rfl) (by simp) (AllReadyH.cons rfl (fun K hK => ?_) (AllReadyH.nil))
    go_simp
    refine (HQ.out W0 (hS.cell _ _ Q1.out) (hS.cell _ _ Q3.out)).mono ?_
    rintro e w2 ⟨rfl, hw2⟩
    have hw8 := hw2.symm
    subst hw8
    clear hw2
    refine hK.out _ _ hS (fun _ => ?_)
    clear hK K
    try simp only [Act.put, List.setIfInBounds_toArray]
    refine wpAnyH_ready (rs := [5]) (by kernel_rfl) (by simp) (AllReadyH.cons rfl (fun K hK => ?_) (AllReadyH.nil))
    go_simp
    refine (HR.out W0 (hS.cell _ _ R1.out) (hS.cell _ _ R3.out)).mono ?_
    rintro e w2 ⟨rfl, hw2⟩
    have hw8 := hw2.symm
    subst hw8
    clear hw2
    refine hK.out _ _ hS (fun _ => ?_)
    clear hK K
    try simp only [Act.put, List.setIfInBounds_toArray]
    refine wpAnyH_ready (rs := [6]) (by kernel_rfl) (by simp) (AllReadyH.cons rfl (fun K hK => ?_) (AllReadyH.nil))
    go_simp
    refine HA9.out.mono ?_
    rintro e w3 ⟨rfl, hb3⟩
    refine hK.out _ _ (hS.trans (Kp.of_below hb3)) (fun hS3 => ?_)
    clear hK K
    try simp only [Act.put, List.setIfInBounds_toArray]
    refine wpAnyH_take (i := 7) (v := .bool B) rfl (by kernel_rfl) (by kernel_rfl) (by kernel_rfl) (fun _ _ _ h => h) (Or.inl ⟨by rfl, fun w' h => by go_simp⟩) hS3 ?_
    simp only [Act.put]
    refine wpAnyH_done (by kernel_rfl) ?_ _
    try simp only [List.getElem_toArray, List.getElem_cons_succ, List.getElem_cons_zero, List.setIfInBounds_toArray, List.set_cons_succ, List.set_cons_zero]
    have HB3 := hid (below_step bW0 hb3)
    clear hb3 hS hS3 bW0
    go_wp2
    go_ret
    exact ⟨B, rfl, by rw [HBB.out, ← HPB.out]; exact ⟨fun h => .inr ⟨hcd, h⟩, fun h => h.elim (fun h => absurd h.1 hcd) (fun h => h.2)⟩, grown_of_below (below_step HB1.out HB3.out) (some mb), L, HM.out.later HB3.out, HK.out, Nw.refl _ _ _ _⟩

set_option maxRecDepth 100000 in
set_option maxHeartbeats 3200000 in
theorem compareL_any (H : Ord sig ps s t A w mb pv b0 o0 c0 b1 o1 c1) {n : Nat} (HG : GrOk sig ps s t A w mb pv b0 o0 c0 b1 o1 c1 n) {c : Int} {ss : List Te} {y : Te} {i j bx : Nat} {vy : Value} (hsz : (Te.a c ss).size + y.size ≤ n + 1) (wx : WfT sig (.a c ss)) (wy : WfT sig y) (ax : AtP s (.a c ss) i) (ay : AtP t y j) (tx : TL w A (cdL b0 o0 c0) (.iface 88 (.pointer (some ⟨bx, 0, none⟩))) (.a c ss) i) (ty : TL w A (cdL b1 o1 c1) vy y j) {L : List (Pl × Bool)} (W : World)
    (hg : w.grownBy W (some mb)) (hm : MapL W mb L) (hk : Kn sig (abB ps) s t L) :
    Calls Tryd.prog 29 #[.agg #[pv, .map (some mb)], .pointer (some ⟨bx, 0, none⟩), vy] W (OrdO sig ps s t mb i j true L (LG (abB ps) (.a c ss) y) W) := by
  obtain ⟨pg, rfl⟩ := H.ptr
  have HH := hid H
  have HGr := hid HG
  obtain ⟨ao, ca, _, x1, x2, x3, x4, x5⟩ := tx.app
  have HWx := hid wx
  have HWy := hid wy
  have HAx := hid ax
  have HAy := hid ay
  have HX5 := hid x5
  have HSz := hid hsz
  have HX2 := hid x2
  have HTx := hid tx
  have HTy := hid ty
  have HSt := hid (LG.step (f := c) (ss := ss) (t := y) H.irr H.abi)
  have HGw := hid (grown_trans hg (grown_of_below (below_alloc (w := W) (.cells #[.pointer (some ⟨pg, 0, none⟩), .map (some mb)] 49)) (some mb)))
  have HM := hid (hm.later (below_alloc (w := W) (.cells #[.pointer (some ⟨pg, 0, none⟩), .map (some mb)] 49)))
  have HK := hid hk
  have HB1 := hid (below_alloc (w := W) (.cells #[.pointer (some ⟨pg, 0, none⟩), .map (some mb)] 49))
  have hx0 : (W.alloc (.cells #[.pointer (some ⟨pg, 0, none⟩), .map (some mb)] 49)).cell? ⟨W.heap.size, 0, none⟩ = some (.pointer (some ⟨pg, 0, none⟩)) := by rw [cell_of_row _ _ _ _ _ _ (heap_alloc_new _ _)]; rfl
  have hx1 : (W.alloc (.cells #[.pointer (some ⟨pg, 0, none⟩), .map (some mb)] 49)).cell? ⟨W.heap.size, 1, none⟩ = some (.map (some mb)) := by rw [cell_of_row _ _ _ _ _ _ (heap_alloc_new _ _)]; rfl
  have HB0 := hid hx0
  have HBm := hid hx1
  clear H HG wx wy ax ay tx ty hg hm hk hx0 hx1 x5 hsz x1 x2
  go_enter Tryd.func29, Tryd.ntmps29
  go_wp2_with fail
  generalize hW1 : W.alloc (.cells #[.pointer (some ⟨pg, 0, none⟩), .map (some mb)] 49) = W1 at HGw HM HB1 HB0 HBm ⊢
  clear hW1
  have z0 := HB0.out
  have z1 := HBm.out
  have z2 := (HH.out.kp HGw.out).cell _ _ HX2.out
  have hS : Kp W1 W1.drew := Kp.of_below (drawn_below1 W1)
  refine wp_region_held_drew (S := fun w' => Kp W1 w') (by kernel_rfl) hS (fun _ => ?_)
  obtain ⟨W0, hW0⟩ : ∃ X, X = W1.drew := ⟨_, rfl⟩
  have bW0 : Below W1.heap.size W1 W0 := by rw [hW0]; exact drawn_below1 W1
  rw [← hW0] at hS ⊢
  clear hW0
  refine wpAnyH_take (i := 0) (v := .agg #[.pointer (some ⟨pg, 0, none⟩), .map (some mb)]) rfl (by kernel_rfl) (by kernel_rfl) (by kernel_rfl) (fun _ _ _ h => h) (Or.inl ⟨by rfl, fun w' h => by have hh0 := h.cell _ _ z0; have hh1 := h.cell _ _ z1; go_simp⟩) hS ?_
  simp only [Act.put, List.setIfInBounds_toArray]
  refine wpAnyH_take (i := 1) (v := .pointer (some ⟨bx, 0, none⟩)) rfl (by kernel_rfl) (by kernel_rfl) (by kernel_rfl) (fun _ _ _ h => h) (Or.inl ⟨by rfl, fun w' h => by go_simp⟩) hS ?_
  simp only [Act.put]
  refine wpAnyH_take (i := 2) (v := .pointer (some ⟨bx, 0, none⟩)) rfl (by kernel_rfl) (by kernel_rfl) (by kernel_rfl) (fun _ _ _ h => h) (Or.inl ⟨by rfl, fun w' h => by go_simp⟩) hS ?_
  simp only [Act.put]
  refine wpAnyH_take (i := 3) (v := .pointer (some ⟨bx, 2, none⟩)) rfl (by kernel_rfl) (by kernel_rfl) (by kernel_rfl) (fun _ _ _ h => h) (Or.inl ⟨by rfl, fun w' h => by go_simp⟩) hS ?_
  simp only [Act.put]
  refine wpAnyH_take (i := 4) (v := .slice ao ss.length ca) rfl (by kernel_rfl) (by kernel_rfl) (by kernel_rfl) (fun _ _ _ h => h) (Or.inl ⟨by rfl, fun w' h => by have hh0 := h.cell _ _ z2; go_simp⟩) hS ?_
  simp only [Act.put]
  refine wpAnyH_take (i := 5) (v := vy) rfl (by kernel_rfl) (by kernel_rfl) (by kernel_rfl) (fun _ _ _ h => h) (Or.inl ⟨by rfl, fun w' h => by go_simp⟩) hS ?_
  simp only [Act.put]
  have HCall := hid (hasAtLeast_any HH.out HGr.out W0 HSz.out HWx.out HWy.out HAx.out HAy.out HX5.out x3 x4 HTy.out (grown_trans HGw.out (grown_of_below bW0 (some mb))) (HM.out.later bW0) HK.out)
  refine wpAnyH_ready (rs := [6]) (by kernel_rfl) (by simp) (AllReadyH.cons rfl (fun K hK => ?_) (AllReadyH.nil))
  go_simp
  refine HCall.out.mono ?_
  rintro e w2 ⟨b, rfl, hb, hg2, L2, hm2, hk2, hn2⟩
  refine hK.out _ _ (hS.trans (Kp.of_map hg2 (HM.out.later bW0).isMap.choose_spec.choose_spec)) (fun hS2 => ?_)
  clear hK K
  try simp only [Act.put, List.setIfInBounds_toArray]
  refine wpAnyH_done (by kernel_rfl) ?_ _
  try simp only [List.getElem_toArray, List.getElem_cons_succ, List.getElem_cons_zero, List.setIfInBounds_toArray, List.set_cons_succ, List.set_cons_zero]
  have HGa := hid (grown_trans (grown_of_below bW0 (some mb)) hg2)
  have HM2 := hid hm2
  have HK2 := hid hk2
  have HN2 := hid hn2
  have HBb := hid hb
  have z3 := hS2.cell _ _ z0
  have z4 := hS2.cell _ _ z1
  clear hg2 hm2 hk2 hn2 hb hS hS2 bW0 z0 z1 z2 HCall
  have HGt := hid (grown_trans (grown_of_below HB1.out (some mb)) HGa.out)
  cases b with
  | true =>
    have HE := hid (HBb.out.1 rfl)
    go_wp2
    go_ret
    exact ⟨true, rfl, ⟨fun _ => HSt.out.2 (.inl HE.out), fun _ => rfl⟩, HGt.out, L2, HM2.out, HK2.out, HN2.out⟩
  | false =>
    have HE : Hid (¬ ∃ u ∈ ss, u = y ∨ LG (abB ps) u y) := fun h => by have := HBb.out.2 h; cases this
    cases y with
    | v d =>
      have hty := HTy.out
      unfold TL cdL at hty
      subst hty
      have has := as_notL
      go_wp2_with fail
      go_upto_region 4 with fail
      have hS : Kp w2 w2.drew := Kp.of_below (drawn_below1 w2)
      refine wp_region_held_drew (S := fun w' => Kp w2 w') (by kernel_rfl) hS (fun _ => ?_)
      obtain ⟨W0, hW0⟩ : ∃ X, X = w2.drew := ⟨_, rfl⟩
      have bW0 : Below w2.heap.size w2 W0 := by rw [hW0]; exact drawn_below1 w2
      rw [← hW0] at hS ⊢
      clear hW0
      refine wpAnyH_take (i := 0) (v := .bool false) rfl (by kernel_rfl) (by kernel_rfl) (by kernel_rfl) (fun _ _ _ h => h) (Or.inl ⟨by rfl, fun w' h => by go_simp⟩) hS ?_
      simp only [Act.put, List.getElem_toArray, List.getElem_cons_zero, List.setIfInBounds_toArray, List.set_cons_succ, List.set_cons_zero]
      refine wpAnyH_take (i := 1) (v := .bool false) rfl (by kernel_rfl) (by kernel_rfl) (by kernel_rfl) (fun _ _ _ h => h) (Or.inl ⟨by rfl, fun w' h => by go_simp⟩) hS ?_
      simp only [Act.put, List.getElem_toArray, List.getElem_cons_succ, List.getElem_cons_zero, List.setIfInBounds_toArray, List.set_cons_succ, List.set_cons_zero]
      refine wpAnyH_take (i := 2) (v := undef) rfl (by kernel_rfl) (by kernel_rfl) (by kernel_rfl) (fun _ _ _ h => h) (Or.inr ⟨by rfl, rfl⟩) hS ?_
      simp only [Act.put, List.getElem_toArray, List.getElem_cons_succ, List.getElem_cons_zero, List.setIfInBounds_toArray, List.set_cons_succ, List.set_cons_zero]
      refine wpAnyH_take (i := 3) (v := undef) rfl (by kernel_rfl) (by kernel_rfl) (by kernel_rfl) (fun _ _ _ h => h) (Or.inr ⟨by rfl, rfl⟩) hS ?_
      simp only [Act.put, List.getElem_toArray, List.getElem_cons_succ, List.getElem_cons_zero, List.setIfInBounds_toArray, List.set_cons_succ, List.set_cons_zero]
      refine wpAnyH_take (i := 4) (v := undef) rfl (by kernel_rfl) (by kernel_rfl) (by kernel_rfl) (fun _ _ _ h => h) (Or.inr ⟨by rfl, rfl⟩) hS ?_
      simp only [Act.put, List.getElem_toArray, List.getElem_cons_succ, List.getElem_cons_zero, List.setIfInBounds_toArray, List.set_cons_succ, List.set_cons_zero]
      refine wpAnyH_take (i := 5) (v := undef) rfl (by kernel_rfl) (by kernel_rfl) (by kernel_rfl) (fun _ _ _ h => h) (Or.inr ⟨by rfl, rfl⟩) hS ?_
      simp only [Act.put, List.getElem_toArray, List.getElem_cons_succ, List.getElem_cons_zero, List.setIfInBounds_toArray, List.set_cons_succ, List.set_cons_zero]
      refine wpAnyH_take (i := 6) (v := .bool false) rfl (by kernel_rfl) (by kernel_rfl) (by kernel_rfl) (fun _ _ _ h => h) (Or.inl ⟨by rfl, fun w' h => by go_simp⟩) hS ?_
      simp only [Act.put, List.getElem_toArray, List.getElem_cons_succ, List.getElem_cons_zero, List.setIfInBounds_toArray, List.set_cons_succ, List.set_cons_zero]
      refine wpAnyH_take (i := 7) (v := .bool false) rfl (by kernel_rfl) (by kernel_rfl) (by kernel_rfl) (fun _ _ _ h => h) (Or.inl ⟨by rfl, fun w' h => by go_simp⟩) hS ?_
      simp only [Act.put, List.getElem_toArray, List.getElem_cons_succ, List.getElem_cons_zero, List.setIfInBounds_toArray, List.set_cons_succ, List.set_cons_zero]
      refine wpAnyH_take (i := 8) (v := undef) rfl (by kernel_rfl) (by kernel_rfl) (by kernel_rfl) (fun _ _ _ h => h) (Or.inr ⟨by rfl, rfl⟩) hS ?_
      simp only [Act.put, List.getElem_toArray, List.getElem_cons_succ, List.getElem_cons_zero, List.setIfInBounds_toArray, List.set_cons_succ, List.set_cons_zero]
      refine wpAnyH_take (i := 9) (v := undef) rfl (by kernel_rfl) (by kernel_rfl) (by kernel_rfl) (fun _ _ _ h => h) (Or.inr ⟨by rfl, rfl⟩) hS ?_
      simp only [Act.put, List.getElem_toArray, List.getElem_cons_succ, List.getElem_cons_zero, List.setIfInBounds_toArray, List.set_cons_succ, List.set_cons_zero]
      refine wpAnyH_take (i := 10) (v := undef) rfl (by kernel_rfl) (by kernel_rfl) (by kernel_rfl) (fun _ _ _ h => h) (Or.inr ⟨by rfl, rfl⟩) hS ?_
      simp only [Act.put, List.getElem_toArray, List.getElem_cons_succ, List.getElem_cons_zero, List.setIfInBounds_toArray, List.set_cons_succ, List.set_cons_zero]
      refine wpAnyH_take (i := 11) (v := undef) rfl (by kernel_rfl) (by kernel_rfl) (by kernel_rfl) (fun _ _ _ h => h) (Or.inr ⟨by rfl, rfl⟩) hS ?_
      simp only [Act.put, List.getElem_toArray, List.getElem_cons_succ, List.getElem_cons_zero, List.setIfInBounds_toArray, List.set_cons_succ, List.set_cons_zero]
      refine wpAnyH_take (i := 12) (v := undef) rfl (by kernel_rfl) (by kernel_rfl) (by kernel_rfl) (fun _ _ _ h => h) (Or.inr ⟨by rfl, rfl⟩) hS ?_
      simp only [Act.put, List.getElem_toArray, List.getElem_cons_succ, List.getElem_cons_zero, List.setIfInBounds_toArray, List.set_cons_succ, List.set_cons_zero]
      refine wpAnyH_take (i := 13) (v := undef) rfl (by kernel_rfl) (by kernel_rfl) (by kernel_rfl) (fun _ _ _ h => h) (Or.inr ⟨by rfl, rfl⟩) hS ?_
      simp only [Act.put, List.getElem_toArray, List.getElem_cons_succ, List.getElem_cons_zero, List.setIfInBounds_toArray, List.set_cons_succ, List.set_cons_zero]
      refine wpAnyH_take (i := 14) (v := undef) rfl (by kernel_rfl) (by kernel_rfl) (by kernel_rfl) (fun _ _ _ h => h) (Or.inr ⟨by rfl, rfl⟩) hS ?_
      simp only [Act.put, List.getElem_toArray, List.getElem_cons_succ, List.getElem_cons_zero, List.setIfInBounds_toArray, List.set_cons_succ, List.set_cons_zero]
      refine wpAnyH_take (i := 15) (v := undef) rfl (by kernel_rfl) (by kernel_rfl) (by kernel_rfl) (fun _ _ _ h => h) (Or.inr ⟨by rfl, rfl⟩) hS ?_
      simp only [Act.put, List.getElem_toArray, List.getElem_cons_succ, List.getElem_cons_zero, List.setIfInBounds_toArray, List.set_cons_succ, List.set_cons_zero]
      refine wpAnyH_take (i := 16) (v := .bool false) rfl (by kernel_rfl) (by kernel_rfl) (by kernel_rfl) (fun _ _ _ h => h) (Or.inl ⟨by rfl, fun w' h => by go_simp⟩) hS ?_
      simp only [Act.put, List.getElem_toArray, List.getElem_cons_succ, List.getElem_cons_zero, List.setIfInBounds_toArray, List.set_cons_succ, List.set_cons_zero]
      refine wpAnyH_take (i := 17) (v := .bool false) rfl (by kernel_rfl) (by kernel_rfl) (by kernel_rfl) (fun _ _ _ h => h) (Or.inl ⟨by rfl, fun w' h => by go_simp⟩) hS ?_
      simp only [Act.put, List.getElem_toArray, List.getElem_cons_succ, List.getElem_cons_zero, List.setIfInBounds_toArray, List.set_cons_succ, List.set_cons_zero]
      refine wpAnyH_done (by kernel_rfl) ?_ _
      try simp only [List.getElem_toArray, List.getElem_cons_succ, List.getElem_cons_zero, List.setIfInBounds_toArray, List.set_cons_succ, List.set_cons_zero]
      have HB3 := hid bW0
      clear hS bW0
      go_wp2
      go_ret
      refine ⟨false, rfl, ⟨fun h => (by cases h), fun h => ?_⟩, grown_trans HGt.out (grown_of_below HB3.out (some mb)), L2, HM2.out.later HB3.out, HK2.out, HN2.out⟩
      rcases HSt.out.1 h with h | ⟨g, ts, e, _⟩
      · exact absurd h HE.out
      · cases e
    | a d ts =>
      obtain ⟨by', hvy⟩ : ∃ b, vy = .iface 88 (.pointer (some ⟨b, 0, none⟩)) := by have h := HTy.out; unfold TL at h; obtain ⟨b, _, _, h, _⟩ := h; exact ⟨b, h⟩
      subst hvy
      obtain ⟨bo, cb, _, y1, y2, y3, y4, y5⟩ := HTy.out.app
      have HY5 := hid y5
      have has := as_appL (.pointer (some ⟨by', 0, none⟩))
      have z5 := ((HH.out.kp HGw.out).trans (Kp.of_map HGa.out HM.out.isMap.choose_spec.choose_spec)).cell _ _ y2
      clear y1 y2 y5
      go_wp2_with fail
      go_upto_region 4 with fail
      have hS : Kp w2 w2.drew := Kp.of_below (drawn_below1 w2)
      refine wp_region_held_drew (S := fun w' => Kp w2 w') (by kernel_rfl) hS (fun _ => ?_)
      obtain ⟨W0, hW0⟩ : ∃ X, X = w2.drew := ⟨_, rfl⟩
      have bW0 : Below w2.heap.size w2 W0 := by rw [hW0]; exact drawn_below1 w2
      rw [← hW0] at hS ⊢
      clear hW0
      refine wpAnyH_take (i := 0) (v := .bool true) rfl (by kernel_rfl) (by kernel_rfl) (by kernel_rfl) (fun _ _ _ h => h) (Or.inl ⟨by rfl, fun w' h => by go_simp⟩) hS ?_
      simp only [Act.put, List.getElem_toArray, List.getElem_cons_zero, List.setIfInBounds_toArray, List.set_cons_succ, List.set_cons_zero]
      refine wpAnyH_take (i := 1) (v := .bool true) rfl (by kernel_rfl) (by kernel_rfl) (by kernel_rfl) (fun _ _ _ h => h) (Or.inl ⟨by rfl, fun w' h => by go_simp⟩) hS ?_
      simp only [Act.put, List.getElem_toArray, List.getElem_cons_succ, List.getElem_cons_zero, List.setIfInBounds_toArray, List.set_cons_succ, List.set_cons_zero]
      refine wpAnyH_take (i := 2) (v := .agg #[.pointer (some ⟨pg, 0, none⟩), .map (some mb)]) rfl (by kernel_rfl) (by kernel_rfl) (by kernel_rfl) (fun _ _ _ h => h) (Or.inl ⟨by rfl, fun w' h => by have hh0 := h.cell _ _ z3; have hh1 := h.cell _ _ z4; go_simp⟩) hS ?_
      simp only [Act.put, List.getElem_toArray, List.getElem_cons_succ, List.getElem_cons_zero, List.setIfInBounds_toArray, List.set_cons_succ, List.set_cons_zero]
      refine wpAnyH_take (i := 3) (v := .pointer (some ⟨bx, 0, none⟩)) rfl (by kernel_rfl) (by kernel_rfl) (by kernel_rfl) (fun _ _ _ h => h) (Or.inl ⟨by rfl, fun w' h => by go_simp⟩) hS ?_
      simp only [Act.put, List.getElem_toArray, List.getElem_cons_succ, List.getElem_cons_zero, List.setIfInBounds_toArray, List.set_cons_succ, List.set_cons_zero]
      refine wpAnyH_take (i := 4) (v := .pointer (some ⟨by', 0, none⟩)) rfl (by kernel_rfl) (by kernel_rfl) (by kernel_rfl) (fun _ _ _ h => h) (Or.inl ⟨by rfl, fun w' h => by go_simp⟩) hS ?_
      simp only [Act.put, List.getElem_toArray, List.getElem_cons_succ, List.getElem_cons_zero, List.setIfInBounds_toArray, List.set_cons_succ, List.set_cons_zero]
      have HCall := hid (leadsL_any HH.out HGr.out HSz.out HWx.out HWy.out HAx.out HAy.out HTx.out HTy.out W0 (grown_trans HGw.out (grown_trans HGa.out (grown_of_below bW0 (some mb)))) (HM2.out.later bW0) HK2.out)
      refine wpAnyH_ready (rs := [5]) (by kernel_rfl) (by simp) (AllReadyH.cons rfl (fun K hK => ?_) (AllReadyH.nil))
      rw [if_pos (by rfl)]
      go_simp
      refine HCall.out.mono ?_
      rintro e w3 ⟨b, rfl, hb, hg3, L3, hm3, hk3, hn3⟩
      have HBq := hid hb
      clear hb
      refine hK.out _ _ (hS.trans (Kp.of_map hg3 (HM2.out.later bW0).isMap.choose_spec.choose_spec)) (fun hS3 => ?_)
      clear hK K
      try simp only [Act.put, List.setIfInBounds_toArray]
      refine wpAnyH_take (i := 6) (v := .bool b) rfl (by kernel_rfl) (by kernel_rfl) (by kernel_rfl) (fun _ _ _ h => h) (Or.inl ⟨by rfl, fun w' h => by go_simp⟩) hS3 ?_
      simp only [Act.put, List.getElem_toArray, List.getElem_cons_succ, List.getElem_cons_zero, List.setIfInBounds_toArray, List.set_cons_succ, List.set_cons_zero]
      refine wpAnyH_take (i := 7) (v := .bool b) rfl (by kernel_rfl) (by kernel_rfl) (by kernel_rfl) (fun _ _ _ h => h) (Or.inl ⟨by rfl, fun w' h => by go_simp⟩) hS3 ?_
      simp only [Act.put, List.getElem_toArray, List.getElem_cons_succ, List.getElem_cons_zero, List.setIfInBounds_toArray, List.set_cons_succ, List.set_cons_zero]
      cases b with
      | true =>
        refine wpAnyH_take (i := 8) (v := .agg #[.pointer (some ⟨pg, 0, none⟩), .map (some mb)]) rfl (by kernel_rfl) (by kernel_rfl) (by kernel_rfl) (fun _ _ _ h => h) (Or.inl ⟨by rfl, fun w' h => by have hh0 := h.cell _ _ z3; have hh1 := h.cell _ _ z4; go_simp⟩) hS3 ?_
        simp only [Act.put, List.getElem_toArray, List.getElem_cons_succ, List.getElem_cons_zero, List.setIfInBounds_toArray, List.set_cons_succ, List.set_cons_zero]
        refine wpAnyH_take (i := 9) (v := .pointer (some ⟨bx, 0, none⟩)) rfl (by kernel_rfl) (by kernel_rfl) (by kernel_rfl) (fun _ _ _ h => h) (Or.inl ⟨by rfl, fun w' h => by go_simp⟩) hS3 ?_
        simp only [Act.put, List.getElem_toArray, List.getElem_cons_succ, List.getElem_cons_zero, List.setIfInBounds_toArray, List.set_cons_succ, List.set_cons_zero]
        refine wpAnyH_take (i := 10) (v := .iface 88 (.pointer (some ⟨bx, 0, none⟩))) rfl (by kernel_rfl) (by kernel_rfl) (by kernel_rfl) (fun _ _ _ h => h) (Or.inl ⟨by rfl, fun w' h => by go_simp⟩) hS3 ?_
        simp only [Act.put, List.getElem_toArray, List.getElem_cons_succ, List.getElem_cons_zero, List.setIfInBounds_toArray, List.set_cons_succ, List.set_cons_zero]
        refine wpAnyH_take (i := 11) (v := .pointer (some ⟨by', 0, none⟩)) rfl (by kernel_rfl) (by kernel_rfl) (by kernel_rfl) (fun _ _ _ h => h) (Or.inl ⟨by rfl, fun w' h => by go_simp⟩) hS3 ?_
        simp only [Act.put, List.getElem_toArray, List.getElem_cons_succ, List.getElem_cons_zero, List.setIfInBounds_toArray, List.set_cons_succ, List.set_cons_zero]
        refine wpAnyH_take (i := 12) (v := .pointer (some ⟨by', 0, none⟩)) rfl (by kernel_rfl) (by kernel_rfl) (by kernel_rfl) (fun _ _ _ h => h) (Or.inl ⟨by rfl, fun w' h => by go_simp⟩) hS3 ?_
        simp only [Act.put, List.getElem_toArray, List.getElem_cons_succ, List.getElem_cons_zero, List.setIfInBounds_toArray, List.set_cons_succ, List.set_cons_zero]
        refine wpAnyH_take (i := 13) (v := .pointer (some ⟨by', 2, none⟩)) rfl (by kernel_rfl) (by kernel_rfl) (by kernel_rfl) (fun _ _ _ h => h) (Or.inl ⟨by rfl, fun w' h => by go_simp⟩) hS3 ?_
        simp only [Act.put, List.getElem_toArray, List.getElem_cons_succ, List.getElem_cons_zero, List.setIfInBounds_toArray, List.set_cons_succ, List.set_cons_zero]
        refine wpAnyH_take (i := 14) (v := .slice bo ts.length cb) rfl (by kernel_rfl) (by kernel_rfl) (by kernel_rfl) (fun _ _ _ h => h) (Or.inl ⟨by rfl, fun w' h => by have hh0 := h.cell _ _ z5; go_simp⟩) hS3 ?_
        simp only [Act.put, List.getElem_toArray, List.getElem_cons_succ, List.getElem_cons_zero, List.setIfInBounds_toArray, List.set_cons_succ, List.set_cons_zero]
        have HGc := hid (grown_trans HGa.out (grown_trans (grown_of_below bW0 (some mb)) hg3))
        have HCall2 := hid (greaterThanAll_any HH.out HGr.out HSz.out HWx.out HWy.out HAx.out HAy.out HY5.out y3 y4 HTx.out w3 (grown_trans HGw.out HGc.out) hm3 hk3)
        refine wpAnyH_ready (rs := [15]) (by kernel_rfl) (by simp) (AllReadyH.cons rfl (fun K hK => ?_) (AllReadyH.nil))
        rw [if_pos (by rfl)]
        go_simp
        refine HCall2.out.mono ?_
        rintro e w4 ⟨b, rfl, hb4, hg4, L4, hm4, hk4, hn4⟩
        refine hK.out _ _ (hS3.trans (Kp.of_map hg4 hm3.isMap.choose_spec.choose_spec)) (fun hS4 => ?_)
        clear hK K
        try simp only [Act.put, List.setIfInBounds_toArray]
        refine wpAnyH_take (i := 16) (v := .bool b) rfl (by kernel_rfl) (by kernel_rfl) (by kernel_rfl) (fun _ _ _ h => h) (Or.inl ⟨by rfl, fun w' h => by go_simp⟩) hS4 ?_
        simp only [Act.put, List.getElem_toArray, List.getElem_cons_succ, List.getElem_cons_zero, List.setIfInBounds_toArray, List.set_cons_succ, List.set_cons_zero]
        refine wpAnyH_take (i := 17) (v := .bool b) rfl (by kernel_rfl) (by kernel_rfl) (by kernel_rfl) (fun _ _ _ h => h) (Or.inl ⟨by rfl, fun w' h => by go_simp⟩) hS4 ?_
        simp only [Act.put, List.getElem_toArray, List.getElem_cons_succ, List.getElem_cons_zero, List.setIfInBounds_toArray, List.set_cons_succ, List.set_cons_zero]
        refine wpAnyH_done (by kernel_rfl) ?_ _
        try simp only [List.getElem_toArray, List.getElem_cons_succ, List.getElem_cons_zero, List.setIfInBounds_toArray, List.set_cons_succ, List.set_cons_zero]
        have HLd := hid (HBq.out.1 rfl)
        have HB4 := hid hb4
        have HG4 := hid (grown_trans (grown_of_below HB1.out (some mb)) (grown_trans HGc.out hg4))
        have HM4 := hid hm4
        have HK4 := hid hk4
        have HN4 := hid ((HN2.out.join hn3).join hn4)
        clear hb4 hg3 hg4 hm3 hm4 hk3 hk4 hn3 hn4 hS hS3 hS4 bW0
        go_wp2
        go_ret
        refine ⟨b, rfl, HB4.out.trans ⟨fun h => HSt.out.2 (.inr ⟨d, ts, rfl, HLd.out, h⟩), fun h => ?_⟩, HG4.out, L4, HM4.out, HK4.out, HN4.out⟩
        rcases HSt.out.1 h with h | ⟨g, us, e, _, h⟩
        · exact absurd h HE.out
        · cases e; exact h
      | false =>
        refine wpAnyH_take (i := 8) (v := undef) rfl (by kernel_rfl) (by kernel_rfl) (by kernel_rfl) (fun _ _ _ h => h) (Or.inr ⟨by rfl, rfl⟩) hS3 ?_
        simp only [Act.put, List.getElem_toArray, List.getElem_cons_succ, List.getElem_cons_zero, List.setIfInBounds_toArray, List.set_cons_succ, List.set_cons_zero]
        refine wpAnyH_take (i := 9) (v := undef) rfl (by kernel_rfl) (by kernel_rfl) (by kernel_rfl) (fun _ _ _ h => h) (Or.inr ⟨by rfl, rfl⟩) hS3 ?_
        simp only [Act.put, List.getElem_toArray, List.getElem_cons_succ, List.getElem_cons_zero, List.setIfInBounds_toArray, List.set_cons_succ, List.set_cons_zero]
        refine wpAnyH_take (i := 10) (v := undef) rfl (by kernel_rfl) (by kernel_rfl) (by kernel_rfl) (fun _ _ _ h => h) (Or.inr ⟨by rfl, rfl⟩) hS3 ?_
        simp only [Act.put, List.getElem_toArray, List.getElem_cons_succ, List.getElem_cons_zero, List.setIfInBounds_toArray, List.set_cons_succ, List.set_cons_zero]
        refine wpAnyH_take (i := 11) (v := undef) rfl (by kernel_rfl) (by kernel_rfl) (by kernel_rfl) (fun _ _ _ h => h) (Or.inr ⟨by rfl, rfl⟩) hS3 ?_
        simp only [Act.put, List.getElem_toArray, List.getElem_cons_succ, List.getElem_cons_zero, List.setIfInBounds_toArray, List.set_cons_succ, List.set_cons_zero]
        refine wpAnyH_take (i := 12) (v := undef) rfl (by kernel_rfl) (by kernel_rfl) (by kernel_rfl) (fun _ _ _ h => h) (Or.inr ⟨by rfl, rfl⟩) hS3 ?_
        simp only [Act.put, List.getElem_toArray, List.getElem_cons_succ, List.getElem_cons_zero, List.setIfInBounds_toArray, List.set_cons_succ, List.set_cons_zero]
        refine wpAnyH_take (i := 13) (v := undef) rfl (by kernel_rfl) (by kernel_rfl) (by kernel_rfl) (fun _ _ _ h => h) (Or.inr ⟨by rfl, rfl⟩) hS3 ?_
        simp only [Act.put, List.getElem_toArray, List.getElem_cons_succ, List.getElem_cons_zero, List.setIfInBounds_toArray, List.set_cons_succ, List.set_cons_zero]
        refine wpAnyH_take (i := 14) (v := undef) rfl (by kernel_rfl) (by kernel_rfl) (by kernel_rfl) (fun _ _ _ h => h) (Or.inr ⟨by rfl, rfl⟩) hS3 ?_
        simp only [Act.put, List.getElem_toArray, List.getElem_cons_succ, List.getElem_cons_zero, List.setIfInBounds_toArray, List.set_cons_succ, List.set_cons_zero]
        refine wpAnyH_take (i := 15) (v := undef) rfl (by kernel_rfl) (by kernel_rfl) (by kernel_rfl) (fun _ _ _ h => h) (Or.inr ⟨by rfl, rfl⟩) hS3 ?_
        simp only [Act.put, List.getElem_toArray, List.getElem_cons_succ, List.getElem_cons_zero, List.setIfInBounds_toArray, List.set_cons_succ, List.set_cons_zero]
        refine wpAnyH_take (i := 16) (v := .bool false) rfl (by kernel_rfl) (by kernel_rfl) (by kernel_rfl) (fun _ _ _ h => h) (Or.inl ⟨by rfl, fun w' h => by go_simp⟩) hS3 ?_
        simp only [Act.put, List.getElem_toArray, List.getElem_cons_succ, List.getElem_cons_zero, List.setIfInBounds_toArray, List.set_cons_succ, List.set_cons_zero]
        refine wpAnyH_take (i := 17) (v := .bool false) rfl (by kernel_rfl) (by kernel_rfl) (by kernel_rfl) (fun _ _ _ h => h) (Or.inl ⟨by rfl, fun w' h => by go_simp⟩) hS3 ?_
        simp only [Act.put, List.getElem_toArray, List.getElem_cons_succ, List.getElem_cons_zero, List.setIfInBounds_toArray, List.set_cons_succ, List.set_cons_zero]
        refine wpAnyH_done (by kernel_rfl) ?_ _
        try simp only [List.getElem_toArray, List.getElem_cons_succ, List.getElem_cons_zero, List.setIfInBounds_toArray, List.set_cons_succ, List.set_cons_zero]
        have HLd : Hid (¬ ((c = d ∧ FirstG (abB ps) ss ts) ∨ (c ≠ d ∧ abB ps c d = true))) := fun h => by have := HBq.out.2 h; cases this
        have HG4 := hid (grown_trans HGt.out (grown_trans (grown_of_below bW0 (some mb)) hg3))
        have HM4 := hid hm3
        have HK4 := hid hk3
        have HN4 := hid (HN2.out.join hn3)
        clear hg3 hm3 hk3 hn3 hS hS3 bW0
        go_wp2
        go_ret
        refine ⟨false, rfl, ⟨fun h => (by cases h), fun h => ?_⟩, HG4.out, L3, HM4.out, HK4.out, HN4.out⟩
        rcases HSt.out.1 h with h | ⟨g, us, e, h, _⟩
        · exact absurd h HE.out
        · cases e; exact absurd h HLd.out

end

end Go.Proofs.YtcoaabgaolblfaaDoor
