/- Texts of the proof, one behind the other. -/
import Derived.Test.YtdjmjhlbjcgoiaaGreatDoorOwn19
import Derived.Test.YtdjmjhlbjcgoiaaGreatDoorOwn10
import Derived.Test.YtdjmjhlbjcgoiaaGreatDoorOwn20
import Derived.Test.YtdjmjhlbjcgoiaaGreatDoorOwn15
/- copied of the law file of layer 12: interpretations of one's own. -/
namespace Go.Proofs.YtdjmjhlbjcgoiaaGreatDoor
open Go.RowKit Go.Maps Go.BigFrame

/-- The reach in bytes of interpretations. -/
def FitN (b : Nat) (l : List Ip) : Prop := l.length * 32 ≤ b ∧ ∀ x ∈ l, Fit b x.2

theorem OwN.empty {w : World} {base : Nat} (hb : base ≤ w.heap.size) : OwN (w.alloc (.cells #[] 51)) base (.slice (some ⟨w.heap.size, 0, none⟩) 0 0) [] :=
  ⟨rfl, .inr ⟨w.heap.size, 0, #[], rfl, hb, heap_alloc_new _ _, Nat.le_refl _, Nat.zero_le _, rfl, rfl⟩⟩

set_option maxRecDepth 100000 in
set_option maxHeartbeats 6400000 in
theorem copied12_any (v : Value) (l : List Ip) (w : World) (h : Ins w v l) (hf : FitN 140737488351232 l) :
    Calls Tryz.prog 10 #[v] w fun e w' => ∃ v' cs, e = .returned v' ∧ OwN w' w.heap.size v' cs ∧ ElsO w' w.heap.size cs l ∧ Below w.heap.size w w' := by
  obtain ⟨i1, hi1, hy0, hy1, hy2⟩ := info_parts info_mono
  obtain ⟨lo, lc, rfl, hlo, hlc, q0⟩ := Row.flat h
  unfold maxLen at hlc
  have HL := hid h
  have HFi := hid hf
  have hll : l.length * 32 ≤ 140737488351232 := hf.1
  clear h hf q0
  go_enter Tryz.func10, Tryz.ntmps10
  go_wp2
  go_loopw [3, 4] (fun x i wr => ∃ (q : Nat) (cs : List (Int × Value)), q ≤ l.length ∧ i = .int .i64 q ∧ OwN wr w.heap.size x cs ∧ ElsO wr w.heap.size cs (l.take q) ∧ Below w.heap.size w wr) (fun _ i _ => l.length - (intOf i).toNat)
  case atStart => exact ⟨0, [], Nat.zero_le _, rfl, OwN.empty (Nat.le_refl _), ⟨rfl, fun i c x h => (by simp at h)⟩, below_alloc _⟩
  case round =>
    obtain ⟨q, ds, hq, rfl, hon, hes, hbl⟩ := hrel
    have HOn := hid hon
    have HEs := hid hes
    have BL := hid hbl
    clear hon hes hbl
    by_cases hql : q < l.length
    · obtain ⟨lg, lf, ci, p, ag, cap, rfl, hm, hc0w, hc1w, hp, hcl, hcu, hp1, hp2⟩ := HL.out.at hql
      have HM := hid hm
      have HP := hid hp
      have HFp := hid (HFi.out.2 _ (List.mem_of_getElem? hm))
      have hpl : p.length * 48 ≤ 140737488351232 := HFp.out.1
      have X0w := hid hc0w
      have X1w := hid hc1w
      have hB1 := below_alloc (w := wr) (.cells #[] 37)
      have hom0 := OM.empty (w := wr) (base := wr.heap.size) (Nat.le_refl _)
      obtain ⟨wb, hwb⟩ : ∃ X, X = wr := ⟨_, rfl⟩
      rw [← hwb] at HOn HEs BL hB1 hom0
      go_wp2
      rw [← hwb]
      clear hwb
      go_loopw [5, 6] (fun x i wr => ∃ k : Nat, k ≤ p.length ∧ i = .int .i64 k ∧ OM wr wb.heap.size x (p.take k) ∧ Below wb.heap.size wb wr) (fun _ i _ => p.length - (intOf i).toNat)
      case atStart => exact ⟨0, Nat.zero_le _, rfl, hom0, hB1⟩
      case round =>
        clear hom0 hB1
        obtain ⟨k, hk, rfl, hom, hbl⟩ := hrel
        have BLw := hid (below_step BL.out hbl)
        have X1 := hid ((Kp.of_below BL.out).cell _ _ X1w.out)
        have x1 := (Kp.of_below BLw.out).cell _ _ X1w.out
        by_cases hlt : k < p.length
        · obtain ⟨g, off, c, es, a1, c1, a2, c2, rfl, hm1, hc0, hc1, hmo, hl1, hl2, hl3, hl4'⟩ := (HP.out.kp (Kp.of_below BL.out)).at hlt
          have HX : Hid (p[k]? = some (c, es)) := hm1
          have hfit := HFp.out.2 _ (List.mem_of_getElem? hm1)
          have hl4 : c.length * 4 ≤ 140737488355328 := by have := hfit.1; simp only at this; omega
          have hl8 : es.length * 8 ≤ 140737488355328 := by have := hfit.2; simp only at this; omega
          have HSl : Hid (Sl wb (.slice a1 c.length c1) c) := hmo.1
          have HIs : Hid (Is wb (.slice a2 es.length c2) es) := hmo.2
          obtain ⟨cs, hcsl, hcc, hcow⟩ := hom
          have HCs : Hid (cs.length = (p.take k).length) := hcsl
          have HCC : Hid (∀ (i : Nat) (c : Value × Value) (m : Mn), cs[i]? = some c → (p.take k)[i]? = some m → Ow wr wb.heap.size c.1 m.1 ∧ OwI wr wb.heap.size c.2 m.2) := hcc
          have HOw : Hid (wr.ownsRow wb.heap.size 37 2 u5 (p.take k).length (cs.flatMap fun c => [c.1, c.2])) := hcow
          have HTk : Hid ((p.take k).length = k) := by show _ = _; rw [List.length_take]; omega
          have hwr := hbl.size
          have hS : Below wb.heap.size wb wr.drew := hbl.drew
          have bW : Below wr.heap.size wr wr.drew := (Below.refl _ _).drew
          clear hm1 hmo hfit hcsl hcc hcow hbl
          go_upto_region 9 with fail
          clear x1
          refine wp_region_held_drew (S := fun w' => Below wb.heap.size wb w') (by kernel_rfl) hS (fun _ => ?_)
          obtain ⟨W0, hW0⟩ : ∃ X, X = wr.drew := ⟨_, rfl⟩
          rw [← hW0] at hS bW ⊢
          clear hW0
          refine wpAnyH_take (i := 0) (v := u5) rfl (by kernel_rfl) (by kernel_rfl) (by kernel_rfl) (fun _ _ _ h => h) (Or.inl ⟨by rfl, fun w' _ => by go_simp⟩) hS ?_
          try simp only [Act.put, List.setIfInBounds_toArray]
          refine wpAnyH_take (i := 2) (v := .slice (some ⟨lg, lf, none⟩) l.length lc) rfl (by kernel_rfl) (by kernel_rfl) (by kernel_rfl) (fun _ _ _ h => h) (Or.inl ⟨by rfl, fun w' _ => by go_simp⟩) hS ?_
          try simp only [Act.put]
          refine wpAnyH_take (i := 3) (v := .int .i64 (q : Int)) rfl (by kernel_rfl) (by kernel_rfl) (by kernel_rfl) (fun _ _ _ h => h) (Or.inl ⟨by rfl, fun w' _ => by go_simp⟩) hS ?_
          try simp only [Act.put]
          refine wpAnyH_take (i := 4) (v := .pointer (some ⟨lg, lf + q * 2, none⟩)) rfl (by kernel_rfl) (by kernel_rfl) (by kernel_rfl) (fun _ _ _ h => h) (Or.inl ⟨by rfl, fun w' _ => by go_simp⟩) hS ?_
          try simp only [Act.put]
          refine wpAnyH_take (i := 5) (v := .pointer (some ⟨lg, lf + q * 2 + 1, none⟩)) rfl (by kernel_rfl) (by kernel_rfl) (by kernel_rfl) (fun _ _ _ h => h) (Or.inl ⟨by rfl, fun w' _ => by go_simp⟩) hS ?_
          try simp only [Act.put]
          refine wpAnyH_take (i := 6) (v := .slice (some ⟨g, off, none⟩) p.length cap) rfl (by kernel_rfl) (by kernel_rfl) (by kernel_rfl) (fun _ _ _ h => h) (Or.inl ⟨by rfl, fun w' h => by have hh := (Kp.of_below h).cell _ _ X1.out; go_simp⟩) hS ?_
          try simp only [Act.put]
          refine wpAnyH_take (i := 7) (v := .int .i64 (k : Int)) rfl (by kernel_rfl) (by kernel_rfl) (by kernel_rfl) (fun _ _ _ h => h) (Or.inl ⟨by rfl, fun w' _ => by go_simp⟩) hS ?_
          try simp only [Act.put]
          refine wpAnyH_take (i := 8) (v := .pointer (some ⟨g, off + k * 2, none⟩)) rfl (by kernel_rfl) (by kernel_rfl) (by kernel_rfl) (fun _ _ _ h => h) (Or.inl ⟨by rfl, fun w' _ => by go_simp⟩) hS ?_
          try simp only [Act.put]
          refine wpAnyH_take (i := 9) (v := .pointer (some ⟨g, off + k * 2, none⟩)) rfl (by kernel_rfl) (by kernel_rfl) (by kernel_rfl) (fun _ _ _ h => h) (Or.inl ⟨by rfl, fun w' _ => by go_simp⟩) hS ?_
          try simp only [Act.put]
          refine wpAnyH_take (i := 10) (v := .slice a1 c.length c1) rfl (by kernel_rfl) (by kernel_rfl) (by kernel_rfl) (fun _ _ _ h => h) (Or.inl ⟨by rfl, fun w' h => by have hh := (Kp.of_below h).cell _ _ hc0; go_simp⟩) hS ?_
          try simp only [Act.put]
          refine wpAnyH_take (i := 13) (v := .slice (some ⟨lg, lf, none⟩) l.length lc) rfl (by kernel_rfl) (by kernel_rfl) (by kernel_rfl) (fun _ _ _ h => h) (Or.inl ⟨by rfl, fun w' _ => by go_simp⟩) hS ?_
          try simp only [Act.put]
          refine wpAnyH_take (i := 14) (v := .int .i64 (q : Int)) rfl (by kernel_rfl) (by kernel_rfl) (by kernel_rfl) (fun _ _ _ h => h) (Or.inl ⟨by rfl, fun w' _ => by go_simp⟩) hS ?_
          try simp only [Act.put]
          refine wpAnyH_take (i := 15) (v := .pointer (some ⟨lg, lf + q * 2, none⟩)) rfl (by kernel_rfl) (by kernel_rfl) (by kernel_rfl) (fun _ _ _ h => h) (Or.inl ⟨by rfl, fun w' _ => by go_simp⟩) hS ?_
          try simp only [Act.put]
          refine wpAnyH_take (i := 16) (v := .pointer (some ⟨lg, lf + q * 2 + 1, none⟩)) rfl (by kernel_rfl) (by kernel_rfl) (by kernel_rfl) (fun _ _ _ h => h) (Or.inl ⟨by rfl, fun w' _ => by go_simp⟩) hS ?_
          try simp only [Act.put]
          refine wpAnyH_take (i := 17) (v := .slice (some ⟨g, off, none⟩) p.length cap) rfl (by kernel_rfl) (by kernel_rfl) (by kernel_rfl) (fun _ _ _ h => h) (Or.inl ⟨by rfl, fun w' h => by have hh := (Kp.of_below h).cell _ _ X1.out; go_simp⟩) hS ?_
          try simp only [Act.put]
          refine wpAnyH_take (i := 18) (v := .int .i64 (k : Int)) rfl (by kernel_rfl) (by kernel_rfl) (by kernel_rfl) (fun _ _ _ h => h) (Or.inl ⟨by rfl, fun w' _ => by go_simp⟩) hS ?_
          try simp only [Act.put]
          refine wpAnyH_take (i := 19) (v := .pointer (some ⟨g, off + k * 2, none⟩)) rfl (by kernel_rfl) (by kernel_rfl) (by kernel_rfl) (fun _ _ _ h => h) (Or.inl ⟨by rfl, fun w' _ => by go_simp⟩) hS ?_
          try simp only [Act.put]
          refine wpAnyH_take (i := 20) (v := .pointer (some ⟨g, off + k * 2 + 1, none⟩)) rfl (by kernel_rfl) (by kernel_rfl) (by kernel_rfl) (fun _ _ _ h => h) (Or.inl ⟨by rfl, fun w' _ => by go_simp⟩) hS ?_
          try simp only [Act.put]
          refine wpAnyH_take (i := 21) (v := .slice a2 es.length c2) rfl (by kernel_rfl) (by kernel_rfl) (by kernel_rfl) (fun _ _ _ h => h) (Or.inl ⟨by rfl, fun w' h => by have hh := (Kp.of_below h).cell _ _ hc1; go_simp⟩) hS ?_
          try simp only [Act.put]
          refine wpAnyH_ready (rs := [1, 12]) (by kernel_rfl) (by simp) (AllReadyH.cons rfl (fun K hK => ?_) (AllReadyH.cons rfl (fun K hK => ?_) AllReadyH.nil))
          · skip
            go_simp
            refine hK.out _ _ (below_step hS (below_alloc _)) (fun hSn => ?_)
            clear hK K
            obtain ⟨W1, hWn⟩ : ∃ X, X = W0.alloc (.cells #[] 38) := ⟨_, rfl⟩
            have bn : Below W0.heap.size W0 W1 := by rw [hWn]; exact below_alloc _
            have A : W1.ownsRow wr.heap.size 38 1 (.slice (some ⟨W0.heap.size, 0, none⟩) 0 0) 0 [] := by rw [hWn]; exact empty_row _ bW.size
            rw [← hWn] at hSn ⊢
            clear hWn hS
            have hS := hSn
            clear hSn
            have bW2 := below_step bW bn
            clear bW
            have bW := bW2
            clear bW2
            clear bn
            refine wpAnyH_ready (rs := [11, 12]) (by kernel_rfl) (by simp) (AllReadyH.cons rfl (fun K hK => ?_) (AllReadyH.cons rfl (fun K hK => ?_) AllReadyH.nil))
            · skip
              obtain ⟨v1, W2, hr, ho, hg⟩ := copy_limbs 35 A (HSl.out.kp (Kp.of_below hS)) bW.size hl4
              refine step_append_run rfl _ _ 35 rfl _ _ rfl rfl hr ?_
              have hge := own_ge A
              refine hK.out _ _ (hS.grown hg hS.size (fun j hj => by cases hj; exact Nat.le_trans hwr hge)) (fun hSn => ?_)
              clear hK K hr
              try simp only [Act.put, List.setIfInBounds_toArray]
              have bW2 := bW.grown hg bW.size (fun j hj => by cases hj; exact hge)
              clear A hge hg bW hS
              have A := ho
              have bW := bW2
              have hS := hSn
              clear ho bW2 hSn
              refine wpAnyH_ready (rs := [12]) (by kernel_rfl) (by simp) (AllReadyH.cons rfl (fun K hK => ?_) AllReadyH.nil)
              go_simp
              refine hK.out _ _ (below_step hS (below_alloc _)) (fun hSn => ?_)
              clear hK K
              obtain ⟨W3, hWn⟩ : ∃ X, X = W2.alloc (.cells #[] 3) := ⟨_, rfl⟩
              have bn : Below W2.heap.size W2 W3 := by rw [hWn]; exact below_alloc _
              have E : W3.ownsRow wr.heap.size 3 1 (.slice (some ⟨W2.heap.size, 0, none⟩) 0 0) 0 [] := by rw [hWn]; exact empty_row _ bW.size
              rw [← hWn] at hSn ⊢
              clear hWn hS
              have hS := hSn
              clear hSn
              have bW2 := below_step bW bn
              clear bW
              have bW := bW2
              clear bW2
              have An := A.since bn
              clear A
              have A := An
              clear An
              clear bn
              refine wpAnyH_ready (rs := [22]) (by kernel_rfl) (by simp) (AllReadyH.cons rfl (fun K hK => ?_) AllReadyH.nil)
              obtain ⟨v2, W4, hr, ho, hg⟩ := copy_ints 30 E (HIs.out.kp (Kp.of_below hS)) bW.size hl8
              refine step_append_run rfl _ _ 30 rfl _ _ rfl rfl hr ?_
              have hge := own_ge E
              refine hK.out _ _ (hS.grown hg hS.size (fun j hj => by cases hj; exact Nat.le_trans hwr hge)) (fun hSn => ?_)
              clear hK K hr
              try simp only [Act.put, List.setIfInBounds_toArray]
              have bW2 := bW.grown hg bW.size (fun j hj => by cases hj; exact hge)
              have An := A.held hg (ownsRow_apart A.2 E (by decide))
              clear A
              have A := An
              clear An
              clear E hge hg bW hS
              have E := ho
              have bW := bW2
              have hS := hSn
              clear ho bW2 hSn
              obtain ⟨b1, n1, d1, rfl⟩ := A.slice
              obtain ⟨b2, d2, rfl, _, _⟩ := E.shape
              refine wpAnyH_take (i := 23) (v := .agg #[.slice b1 n1 d1, .slice b2 es.length d2]) rfl (by kernel_rfl) (by kernel_rfl) (by kernel_rfl) (fun _ _ _ h => h) (Or.inl ⟨by rfl, fun w' _ => by go_simp⟩) hS ?_
              try simp only [Act.put]
              refine wpAnyH_ready (rs := [24]) (by kernel_rfl) (by simp) (AllReadyH.cons rfl (fun K hK => ?_) AllReadyH.nil)
              go_simp
              refine hK.out _ _ (below_step hS (below_alloc _)) (fun hSn => ?_)
              clear hK K
              refine wpAnyH_ready (rs := [25]) (by kernel_rfl) (by simp) (AllReadyH.cons rfl (fun K hK => ?_) AllReadyH.nil)
              have bX := below_step bW (below_alloc (w := W4) (.cells #[.slice b1 n1 d1, .slice b2 es.length d2] 37))
              have bA := below_alloc (w := W4) (.cells #[.slice b1 n1 d1, .slice b2 es.length d2] 37)
              refine step_append_own rfl _ _ 31 rfl wb.heap.size 37 i1 _ 2 48 under_monos hi1 hy0 hy1 hy2 rfl (by decide) u5 (p.take k).length (cs.flatMap fun c => [c.1, c.2]) rfl (ownsRow_later HOw.out bX) ⟨W4.heap.size, 0, none⟩ 1 1 [.slice b1 n1 d1, .slice b2 es.length d2] rfl rfl ?_ ?_ (by rw [HTk.out]; unfold maxLen; omega) (by rw [HTk.out]; omega) (Nat.le_trans hwr bX.size) ?_
              · intro j u hj
                rw [Addr.add_lit, Nat.zero_add, cell_of_row _ _ _ _ _ _ (heap_alloc_new _ _)]
                simpa using hj
              · intro u hu
                simp only [List.mem_cons, List.not_mem_nil, or_false] at hu
                rcases hu with rfl | rfl <;> rfl
              intro v3 W9 hown9 hgrow9 _
              refine hK.out _ _ (hSn.grown hgrow9 hSn.size (fun j hj => own_blk (ownsRow_later HOw.out bX) hj)) (fun hS9 => ?_)
              clear hK K hS
              have hS := hS9
              try simp only [Act.put, List.setIfInBounds_toArray]
              refine wpAnyH_take (i := 26) (v := v3) rfl (by kernel_rfl) (by kernel_rfl) (by kernel_rfl) (fun _ _ _ h => h) (Or.inl ⟨by rfl, fun w' _ => by go_simp⟩) hS ?_
              try simp only [Act.put]
              refine wpAnyH_done (by kernel_rfl) ?_ _
              have hom := OM.snoc (m := (c, es)) (p := p.take k) HCs.out (fun i cc m h1 h2 => ⟨(HCC.out i cc m h1 h2).1.since bX, (HCC.out i cc m h1 h2).2.later bX⟩) (ownsRow_later HOw.out bX) ((A.mono hwr).since bA) ((E.mono hwr).later bA) hown9 hgrow9 rfl
              rw [← take_get HX.out] at hom
              have HOm9 : Hid (OM W9 wb.heap.size v3 (p.take (k + 1))) := hom
              have HB9 : Hid (Below wb.heap.size wb W9) := hS
              clear hom hown9 hgrow9 hS9 hS hSn bX bA bW A E
              go_wp2
              go_roundw
              case rel => exact ⟨k + 1, by omega, by go_num, HOm9.out, HB9.out⟩
              case measure => simp [intOf] <;> omega
            · skip
              go_simp
              refine hK.out _ _ (below_step hS (below_alloc _)) (fun hSn => ?_)
              clear hK K
              obtain ⟨W5, hWn⟩ : ∃ X, X = W1.alloc (.cells #[] 3) := ⟨_, rfl⟩
              have bn : Below W1.heap.size W1 W5 := by rw [hWn]; exact below_alloc _
              have E : W5.ownsRow wr.heap.size 3 1 (.slice (some ⟨W1.heap.size, 0, none⟩) 0 0) 0 [] := by rw [hWn]; exact empty_row _ bW.size
              rw [← hWn] at hSn ⊢
              clear hWn hS
              have hS := hSn
              clear hSn
              have bW2 := below_step bW bn
              clear bW
              have bW := bW2
              clear bW2
              have An := ownsRow_later A bn
              clear A
              have A := An
              clear An
              clear bn
              refine wpAnyH_ready (rs := [11]) (by kernel_rfl) (by simp) (AllReadyH.cons rfl (fun K hK => ?_) AllReadyH.nil)
              obtain ⟨v1, W6, hr, ho, hg⟩ := copy_limbs 35 A (HSl.out.kp (Kp.of_below hS)) bW.size hl4
              refine step_append_run rfl _ _ 35 rfl _ _ rfl rfl hr ?_
              have hge := own_ge A
              refine hK.out _ _ (hS.grown hg hS.size (fun j hj => by cases hj; exact Nat.le_trans hwr hge)) (fun hSn => ?_)
              clear hK K hr
              try simp only [Act.put, List.setIfInBounds_toArray]
              have bW2 := bW.grown hg bW.size (fun j hj => by cases hj; exact hge)
              have En := E.kept hg (ownsRow_apart E A (by decide))
              clear E
              have E := En
              clear En
              clear A hge hg bW hS
              have A := ho
              have bW := bW2
              have hS := hSn
              clear ho bW2 hSn
              refine wpAnyH_ready (rs := [22]) (by kernel_rfl) (by simp) (AllReadyH.cons rfl (fun K hK => ?_) AllReadyH.nil)
              obtain ⟨v2, W7, hr, ho, hg⟩ := copy_ints 30 E (HIs.out.kp (Kp.of_below hS)) bW.size hl8
              refine step_append_run rfl _ _ 30 rfl _ _ rfl rfl hr ?_
              have hge := own_ge E
              refine hK.out _ _ (hS.grown hg hS.size (fun j hj => by cases hj; exact Nat.le_trans hwr hge)) (fun hSn => ?_)
              clear hK K hr
              try simp only [Act.put]
              have bW2 := bW.grown hg bW.size (fun j hj => by cases hj; exact hge)
              have An := A.held hg (ownsRow_apart A.2 E (by decide))
              clear A
              have A := An
              clear An
              clear E hge hg bW hS
              have E := ho
              have bW := bW2
              have hS := hSn
              clear ho bW2 hSn
              obtain ⟨b1, n1, d1, rfl⟩ := A.slice
              obtain ⟨b2, d2, rfl, _, _⟩ := E.shape
              refine wpAnyH_take (i := 23) (v := .agg #[.slice b1 n1 d1, .slice b2 es.length d2]) rfl (by kernel_rfl) (by kernel_rfl) (by kernel_rfl) (fun _ _ _ h => h) (Or.inl ⟨by rfl, fun w' _ => by go_simp⟩) hS ?_
              try simp only [Act.put]
              refine wpAnyH_ready (rs := [24]) (by kernel_rfl) (by simp) (AllReadyH.cons rfl (fun K hK => ?_) AllReadyH.nil)
              go_simp
              refine hK.out _ _ (below_step hS (below_alloc _)) (fun hSn => ?_)
              clear hK K
              refine wpAnyH_ready (rs := [25]) (by kernel_rfl) (by simp) (AllReadyH.cons rfl (fun K hK => ?_) AllReadyH.nil)
              have bX := below_step bW (below_alloc (w := W7) (.cells #[.slice b1 n1 d1, .slice b2 es.length d2] 37))
              have bA := below_alloc (w := W7) (.cells #[.slice b1 n1 d1, .slice b2 es.length d2] 37)
              refine step_append_own rfl _ _ 31 rfl wb.heap.size 37 i1 _ 2 48 under_monos hi1 hy0 hy1 hy2 rfl (by decide) u5 (p.take k).length (cs.flatMap fun c => [c.1, c.2]) rfl (ownsRow_later HOw.out bX) ⟨W7.heap.size, 0, none⟩ 1 1 [.slice b1 n1 d1, .slice b2 es.length d2] rfl rfl ?_ ?_ (by rw [HTk.out]; unfold maxLen; omega) (by rw [HTk.out]; omega) (Nat.le_trans hwr bX.size) ?_
              · intro j u hj
                rw [Addr.add_lit, Nat.zero_add, cell_of_row _ _ _ _ _ _ (heap_alloc_new _ _)]
                simpa using hj
              · intro u hu
                simp only [List.mem_cons, List.not_mem_nil, or_false] at hu
                rcases hu with rfl | rfl <;> rfl
              intro v3 W9 hown9 hgrow9 _
              refine hK.out _ _ (hSn.grown hgrow9 hSn.size (fun j hj => own_blk (ownsRow_later HOw.out bX) hj)) (fun hS9 => ?_)
              clear hK K hS
              have hS := hS9
              try simp only [Act.put, List.setIfInBounds_toArray]
              refine wpAnyH_take (i := 26) (v := v3) rfl (by kernel_rfl) (by kernel_rfl) (by kernel_rfl) (fun _ _ _ h => h) (Or.inl ⟨by rfl, fun w' _ => by go_simp⟩) hS ?_
              try simp only [Act.put]
              refine wpAnyH_done (by kernel_rfl) ?_ _
              have hom := OM.snoc (m := (c, es)) (p := p.take k) HCs.out (fun i cc m h1 h2 => ⟨(HCC.out i cc m h1 h2).1.since bX, (HCC.out i cc m h1 h2).2.later bX⟩) (ownsRow_later HOw.out bX) ((A.mono hwr).since bA) ((E.mono hwr).later bA) hown9 hgrow9 rfl
              rw [← take_get HX.out] at hom
              have HOm9 : Hid (OM W9 wb.heap.size v3 (p.take (k + 1))) := hom
              have HB9 : Hid (Below wb.heap.size wb W9) := hS
              clear hom hown9 hgrow9 hS9 hS hSn bX bA bW A E
              go_wp2
              go_roundw
              case rel => exact ⟨k + 1, by omega, by go_num, HOm9.out, HB9.out⟩
              case measure => simp [intOf] <;> omega
          · skip
            go_simp
            refine hK.out _ _ (below_step hS (below_alloc _)) (fun hSn => ?_)
            clear hK K
            obtain ⟨W8, hWn⟩ : ∃ X, X = W0.alloc (.cells #[] 3) := ⟨_, rfl⟩
            have bn : Below W0.heap.size W0 W8 := by rw [hWn]; exact below_alloc _
            have E : W8.ownsRow wr.heap.size 3 1 (.slice (some ⟨W0.heap.size, 0, none⟩) 0 0) 0 [] := by rw [hWn]; exact empty_row _ bW.size
            rw [← hWn] at hSn ⊢
            clear hWn hS
            have hS := hSn
            clear hSn
            have bW2 := below_step bW bn
            clear bW
            have bW := bW2
            clear bW2
            clear bn
            refine wpAnyH_ready (rs := [1]) (by kernel_rfl) (by simp) (AllReadyH.cons rfl (fun K hK => ?_) AllReadyH.nil)
            go_simp
            refine hK.out _ _ (below_step hS (below_alloc _)) (fun hSn => ?_)
            clear hK K
            obtain ⟨W9, hWn⟩ : ∃ X, X = W8.alloc (.cells #[] 38) := ⟨_, rfl⟩
            have bn : Below W8.heap.size W8 W9 := by rw [hWn]; exact below_alloc _
            have A : W9.ownsRow wr.heap.size 38 1 (.slice (some ⟨W8.heap.size, 0, none⟩) 0 0) 0 [] := by rw [hWn]; exact empty_row _ bW.size
            rw [← hWn] at hSn ⊢
            clear hWn hS
            have hS := hSn
            clear hSn
            have bW2 := below_step bW bn
            clear bW
            have bW := bW2
            clear bW2
            have En := ownsRow_later E bn
            clear E
            have E := En
            clear En
            clear bn
            refine wpAnyH_ready (rs := [11]) (by kernel_rfl) (by simp) (AllReadyH.cons rfl (fun K hK => ?_) AllReadyH.nil)
            obtain ⟨v1, W10, hr, ho, hg⟩ := copy_limbs 35 A (HSl.out.kp (Kp.of_below hS)) bW.size hl4
            refine step_append_run rfl _ _ 35 rfl _ _ rfl rfl hr ?_
            have hge := own_ge A
            refine hK.out _ _ (hS.grown hg hS.size (fun j hj => by cases hj; exact Nat.le_trans hwr hge)) (fun hSn => ?_)
            clear hK K hr
            try simp only [Act.put, List.setIfInBounds_toArray]
            have bW2 := bW.grown hg bW.size (fun j hj => by cases hj; exact hge)
            have En := E.kept hg (ownsRow_apart E A (by decide))
            clear E
            have E := En
            clear En
            clear A hge hg bW hS
            have A := ho
            have bW := bW2
            have hS := hSn
            clear ho bW2 hSn
            refine wpAnyH_ready (rs := [22]) (by kernel_rfl) (by simp) (AllReadyH.cons rfl (fun K hK => ?_) AllReadyH.nil)
            obtain ⟨v2, W11, hr, ho, hg⟩ := copy_ints 30 E (HIs.out.kp (Kp.of_below hS)) bW.size hl8
            refine step_append_run rfl _ _ 30 rfl _ _ rfl rfl hr ?_
            have hge := own_ge E
            refine hK.out _ _ (hS.grown hg hS.size (fun j hj => by cases hj; exact Nat.le_trans hwr hge)) (fun hSn => ?_)
            clear hK K hr
            try simp only [Act.put]
            have bW2 := bW.grown hg bW.size (fun j hj => by cases hj; exact hge)
            have An := A.held hg (ownsRow_apart A.2 E (by decide))
            clear A
            have A := An
            clear An
            clear E hge hg bW hS
            have E := ho
            have bW := bW2
            have hS := hSn
            clear ho bW2 hSn
            obtain ⟨b1, n1, d1, rfl⟩ := A.slice
            obtain ⟨b2, d2, rfl, _, _⟩ := E.shape
            refine wpAnyH_take (i := 23) (v := .agg #[.slice b1 n1 d1, .slice b2 es.length d2]) rfl (by kernel_rfl) (by kernel_rfl) (by kernel_rfl) (fun _ _ _ h => h) (Or.inl ⟨by rfl, fun w' _ => by go_simp⟩) hS ?_
            try simp only [Act.put]
            refine wpAnyH_ready (rs := [24]) (by kernel_rfl) (by simp) (AllReadyH.cons rfl (fun K hK => ?_) AllReadyH.nil)
            go_simp
            refine hK.out _ _ (below_step hS (below_alloc _)) (fun hSn => ?_)
            clear hK K
            refine wpAnyH_ready (rs := [25]) (by kernel_rfl) (by simp) (AllReadyH.cons rfl (fun K hK => ?_) AllReadyH.nil)
            have bX := below_step bW (below_alloc (w := W11) (.cells #[.slice b1 n1 d1, .slice b2 es.length d2] 37))
            have bA := below_alloc (w := W11) (.cells #[.slice b1 n1 d1, .slice b2 es.length d2] 37)
            refine step_append_own rfl _ _ 31 rfl wb.heap.size 37 i1 _ 2 48 under_monos hi1 hy0 hy1 hy2 rfl (by decide) u5 (p.take k).length (cs.flatMap fun c => [c.1, c.2]) rfl (ownsRow_later HOw.out bX) ⟨W11.heap.size, 0, none⟩ 1 1 [.slice b1 n1 d1, .slice b2 es.length d2] rfl rfl ?_ ?_ (by rw [HTk.out]; unfold maxLen; omega) (by rw [HTk.out]; omega) (Nat.le_trans hwr bX.size) ?_
            · intro j u hj
              rw [Addr.add_lit, Nat.zero_add, cell_of_row _ _ _ _ _ _ (heap_alloc_new _ _)]
              simpa using hj
            · intro u hu
              simp only [List.mem_cons, List.not_mem_nil, or_false] at hu
              rcases hu with rfl | rfl <;> rfl
            intro v3 W9 hown9 hgrow9 _
            refine hK.out _ _ (hSn.grown hgrow9 hSn.size (fun j hj => own_blk (ownsRow_later HOw.out bX) hj)) (fun hS9 => ?_)
            clear hK K hS
            have hS := hS9
            try simp only [Act.put, List.setIfInBounds_toArray]
            refine wpAnyH_take (i := 26) (v := v3) rfl (by kernel_rfl) (by kernel_rfl) (by kernel_rfl) (fun _ _ _ h => h) (Or.inl ⟨by rfl, fun w' _ => by go_simp⟩) hS ?_
            try simp only [Act.put]
            refine wpAnyH_done (by kernel_rfl) ?_ _
            have hom := OM.snoc (m := (c, es)) (p := p.take k) HCs.out (fun i cc m h1 h2 => ⟨(HCC.out i cc m h1 h2).1.since bX, (HCC.out i cc m h1 h2).2.later bX⟩) (ownsRow_later HOw.out bX) ((A.mono hwr).since bA) ((E.mono hwr).later bA) hown9 hgrow9 rfl
            rw [← take_get HX.out] at hom
            have HOm9 : Hid (OM W9 wb.heap.size v3 (p.take (k + 1))) := hom
            have HB9 : Hid (Below wb.heap.size wb W9) := hS
            clear hom hown9 hgrow9 hS9 hS hSn bX bA bW A E
            go_wp2
            go_roundw
            case rel => exact ⟨k + 1, by omega, by go_num, HOm9.out, HB9.out⟩
            case measure => simp [intOf] <;> omega
        · have hke : k = p.length := by omega
          subst hke
          rw [List.take_of_length_le (Nat.le_refl _)] at hom
          obtain ⟨pa, pc, hpa⟩ := hom.slice
          subst hpa
          have HOm := hid (hom.mono BL.out.size)
          have HOn2 := hid (HOn.out.later hbl)
          have HEs2 := hid (HEs.out.later hbl)
          have x0 := (Kp.of_below BLw.out).cell _ _ X0w.out
          have hdl : ds.length = q := by rw [HEs.out.1, List.length_take]; omega
          obtain ⟨v8, w8, hr8, ho8, hg8⟩ := OwN.snoc 23 (x := ci) (u := .slice pa p.length pc) HOn2.out (Nat.le_trans BL.out.size hbl.size) rfl (by rw [hdl]; omega)
          have hba := below_alloc (w := wr) (.cells #[.int .i64 ci, .slice pa p.length pc] 51)
          have HEs8 : Hid (ElsO w8 w.heap.size (ds ++ [(ci, .slice pa p.length pc)]) (l.take (q + 1))) := by
            rw [take_get HM.out]
            exact hid (ElsO.snoc (c := (ci, .slice pa p.length pc)) (x := (ci, p)) ((HEs2.out.later hba).grown (HOn2.out.later hba) hg8) rfl hcl hcu ((HOm.out.later hba).grownN (HOn2.out.later hba) hg8))
          have B8 : Hid (Below w.heap.size w w8) := hid ((below_step BLw.out hba).grown hg8 (below_step BLw.out hba).size (fun j hj => own_blk (HOn2.out.later hba) hj))
          have HR8 := hid hr8
          have HO8 := hid ho8
          clear hom hbl hr8 ho8 hg8 hba hdl
          go_wp2_with (first
            | (at_builtin; refine wpList_append_run rfl _ _ _ rfl _ _ rfl rfl HR8.out ?_))
          go_roundw
          case rel => exact ⟨q + 1, _, hql, by go_num, HO8.out, HEs8.out, B8.out⟩
          case measure => simp [intOf] <;> omega
    · have hqe : q = l.length := by omega
      have HEf : Hid (ElsO wr w.heap.size ds l) := by
        have h9 := HEs.out
        rw [hqe, List.take_length] at h9
        exact hid h9
      go_wp2
      go_ret
      exact ⟨_, ds, rfl, HOn.out, HEf.out, BL.out⟩

end Go.Proofs.YtdjmjhlbjcgoiaaGreatDoor

/- same of the law file of layer 12. -/
namespace Go.Proofs.YtdjmjhlbjcgoiaaGreatDoor
open Go.RowKit Go.Maps

set_option maxRecDepth 100000 in
set_option maxHeartbeats 1600000 in
theorem sameNat12_any (v u : Value) (xs ys : List Nat) (w : World) (h : Sl w v xs) (h' : Sl w u ys) :
    Calls Tryz.prog 31 #[v, u] w fun e w' => e = .returned (.bool (decide (xs = ys))) ∧ ∃ n, w' = w.drewN n := by
  obtain ⟨ao, cap, rfl, hao, hca, hcl⟩ := h.flat
  obtain ⟨bo, cap', rfl, hbo, hcb, hcl'⟩ := h'.flat
  unfold maxLen at hca hcb
  clear h h'
  by_cases hl : xs.length = ys.length
  · have hle : ((xs.length : Int) != ys.length) = false := by simp; omega
    go_enter Tryz.func31, Tryz.ntmps31
    go_wp2
    go_loopw [5] (fun i wr => ∃ k : Nat, k ≤ xs.length ∧ i = .int .i64 k ∧ xs.take k = ys.take k ∧ ∃ n, wr = w.drewN n) (fun i _ => xs.length - (intOf i).toNat)
    case atStart => exact ⟨0, Nat.zero_le _, rfl, rfl, 0, rfl⟩
    case round =>
      obtain ⟨k, hk, rfl, ht, n, rfl⟩ := hrel
      have HT : Hid (xs.take k = ys.take k) := ht
      clear ht
      by_cases hlt : k < xs.length
      · obtain ⟨g, off, x, rfl, hx1, hx2, hx3⟩ := hcl k hlt
        obtain ⟨g', off', y, rfl, hy1, hy2, hy3⟩ := hcl' k (by omega)
        have HX : Hid (xs[k]? = some x) := hx1
        have HY : Hid (ys[k]? = some y) := hy1
        have hlt' : k < ys.length := by omega
        clear hx1 hy1 hcl hcl'
        by_cases hxy : x = y
        · subst hxy
          have hxx : ((x : Int) != x) = false := by simp
          go_wp2
          go_quiet (fail)
          go_wp2
          go_roundw
          case rel => exact ⟨k + 1, by omega, by go_num, by rw [take_getY HX.out, take_getY HY.out, HT.out], _, rfl⟩
          case measure => simp [intOf]; omega
        · have hne : ((x : Int) != y) = true := by rw [bne_iff_ne]; omega
          go_wp2
          go_quiet (fail)
          go_wp2
          go_ret
          exact ⟨ret1b (by rw [eq_comm, decide_eq_false_iff_not]; rintro rfl; have := HX.out.symm.trans HY.out; simp at this; exact hxy this), _, World.drewN_drewN _ _ _⟩
      · have hk' : k = xs.length := by omega
        go_wp2
        go_ret
        refine ⟨ret1b ?_, n, rfl⟩
        have := HT.out
        rw [List.take_of_length_le (by omega), List.take_of_length_le (by omega)] at this
        simp [this]
  · have hle : ((xs.length : Int) != ys.length) = true := by rw [bne_iff_ne]; omega
    go_enter Tryz.func31, Tryz.ntmps31
    go_wp2
    go_ret
    exact ⟨ret1b (by rw [eq_comm, decide_eq_false_iff_not]; rintro rfl; exact hl rfl), 0, rfl⟩

theorem drawn_of12 {w wr : World} {n : Nat} (h : wr = w.drewN n) (m : Nat) : ∃ k, wr.drewN m = w.drewN k := ⟨n + m, by rw [h, World.drewN_drewN]⟩

theorem sameNat12_at (B : Bool) (v u : Value) (xs ys : List Nat) (w : World) (hB : decide (xs = ys) = B) (h : Sl w v xs) (h' : Sl w u ys) :
    Calls Tryz.prog 31 #[v, u] w fun e w' => e = .returned (.bool B) ∧ ∃ n, w' = w.drewN n := by
  subst hB
  exact sameNat12_any v u xs ys w h h'

set_option maxRecDepth 100000 in
set_option maxHeartbeats 3200000 in
theorem same12_any (v u : Value) (p q : List Mn) (w : World) (h : Ms w v p) (h' : Ms w u q) :
    Calls Tryz.prog 18 #[v, u] w fun e w' => e = .returned (.bool (decide (p = q))) ∧ ∃ n, w' = w.drewN n := by
  obtain ⟨ao, cap, rfl, hao, hca, q0⟩ := Row.flat h
  obtain ⟨bo, cap', rfl, hbo, hcb, q0'⟩ := Row.flat h'
  unfold maxLen at hca hcb
  have HP : Hid (Ms w (.slice ao p.length cap) p) := h
  have HQ : Hid (Ms w (.slice bo q.length cap') q) := h'
  clear h h' q0 q0'
  by_cases hl : p.length = q.length
  · have hle : ((p.length : Int) != q.length) = false := by simp; omega
    go_enter Tryz.func18, Tryz.ntmps18
    go_wp2
    go_loopw [5] (fun i wr => ∃ k : Nat, k ≤ p.length ∧ i = .int .i64 k ∧ p.take k = q.take k ∧ ∃ n, wr = w.drewN n) (fun i _ => p.length - (intOf i).toNat)
    case atStart => exact ⟨0, Nat.zero_le _, rfl, rfl, 0, rfl⟩
    case round =>
      obtain ⟨k, hk, rfl, ht, n, hw⟩ := hrel
      have HT : Hid (p.take k = q.take k) := ht
      have HW : Hid (wr = w.drewN n) := hw
      have hkp : Kp w wr := by rw [hw]; exact Kp.drewN _ _
      clear ht hw
      by_cases hlt : k < p.length
      · have hlt' : k < q.length := by omega
        obtain ⟨g, off, c, es, a1, c1, a2, c2, rfl, hm1, hc0, hc1, hmo, hl1, hl2, hl3, hl4⟩ := (HP.out.kp hkp).at hlt
        obtain ⟨g', off', d, fs, b1, d1, b2, d2, rfl, hn1, hd0, hd1, hno, hl5, hl6, hl7, hl8⟩ := (HQ.out.kp hkp).at hlt'
        have HX : Hid (p[k]? = some (c, es)) := hm1
        have HY : Hid (q[k]? = some (d, fs)) := hn1
        have HS1 : Hid (Sl wr (.slice a1 c.length c1) c) := hmo.1
        have HS2 : Hid (Sl wr (.slice b1 d.length d1) d) := hno.1
        have HI1 : Hid (Is wr (.slice a2 es.length c2) es) := hmo.2
        have HI2 : Hid (Is wr (.slice b2 fs.length d2) fs) := hno.2
        have HNo : Hid (¬ (c, es) = (d, fs) → decide (p = q) = false) := by
          intro hne
          rw [decide_eq_false_iff_not]
          intro hpq
          rw [hpq] at hm1
          exact hne (Option.some.inj (hm1.symm.trans hn1))
        clear hm1 hn1 hmo hno hkp
        by_cases hcd : c = d
        · have HEq : Hid (decide (c = d) = true) := decide_eq_true hcd
          have HCD : Hid (c = d) := hcd
          clear hcd
          by_cases hlen : es.length = fs.length
          · have hle2 : ((es.length : Int) != fs.length) = false := by simp; omega
            go_wp2
            go_quiet ((go_at_call 31; exact Calls.quiet_of (sameNat12_at _ _ _ c d _ HEq.out (HS1.out.kp (Kp.drewN _ _)) (HS2.out.kp (Kp.drewN _ _)))))
            go_wp2
            go_loopw [6] (fun i ws => ∃ l : Nat, l ≤ es.length ∧ i = .int .i64 l ∧ es.take l = fs.take l ∧ ∃ n, ws = wr.drewN n) (fun i _ => es.length - (intOf i).toNat)
            case atStart => exact ⟨0, Nat.zero_le _, rfl, rfl, _, rfl⟩
            case round =>
              obtain ⟨l, hk2, rfl, ht2, n2, rfl⟩ := hrel
              have HT2 : Hid (es.take l = fs.take l) := ht2
              clear ht2
              by_cases hll : l < es.length
              · have hll' : l < fs.length := by omega
                obtain ⟨g2, o2, x, rfl, hx1, hx2, hx3, hx4⟩ := HI1.out.at hll
                obtain ⟨g3, o3, y, rfl, hy1, hy2, hy3, hy4⟩ := HI2.out.at hll'
                have HXx : Hid (es[l]? = some x) := hx1
                have HYy : Hid (fs[l]? = some y) := hy1
                clear hx1 hy1
                by_cases hxy : x = y
                · subst hxy
                  have hxx : (x != x) = false := by simp
                  go_wp2
                  go_quiet (fail)
                  go_wp2
                  go_roundw
                  case rel => exact ⟨l + 1, by omega, by go_num, by rw [take_getY HXx.out, take_getY HYy.out, HT2.out], _, rfl⟩
                  case measure => simp [intOf]; omega
                · have hne : (x != y) = true := by rw [bne_iff_ne]; exact hxy
                  have HF : Hid (decide (p = q) = false) := HNo.out (fun e => by
                    have e2 : es = fs := congrArg Prod.snd e
                    have := HXx.out.symm.trans ((congrArg (·[l]?) e2).trans HYy.out)
                    exact hxy (Option.some.inj this))
                  go_wp2
                  go_quiet (fail)
                  go_wp2
                  go_ret
                  exact ⟨ret1b HF.out.symm, by first | exact drawn_of12 HW.out _ | (rw [World.drewN_drewN]; exact drawn_of12 HW.out _)⟩
              · have hle3 : l = es.length := by omega
                have HFs : Hid (es = fs) := by
                  have := HT2.out
                  rw [List.take_of_length_le (by omega), List.take_of_length_le (by omega)] at this
                  exact this
                go_wp2
                go_roundw
                case rel => exact ⟨k + 1, by omega, by go_num, by rw [take_getY HX.out, take_getY HY.out, HT.out, HCD.out, HFs.out], drawn_of12 HW.out _⟩
                case measure => simp [intOf]; omega
          · have hle2 : ((es.length : Int) != fs.length) = true := by rw [bne_iff_ne]; omega
            have HF : Hid (decide (p = q) = false) := HNo.out (fun e => hlen (by have e2 : es = fs := congrArg Prod.snd e; rw [e2]))
            go_wp2
            go_quiet ((go_at_call 31; exact Calls.quiet_of (sameNat12_at _ _ _ c d _ HEq.out (HS1.out.kp (Kp.drewN _ _)) (HS2.out.kp (Kp.drewN _ _)))))
            go_wp2
            go_ret
            exact ⟨ret1b HF.out.symm, drawn_of12 HW.out _⟩
        · have HEq : Hid (decide (c = d) = false) := decide_eq_false hcd
          have HF : Hid (decide (p = q) = false) := HNo.out (fun e => hcd (congrArg Prod.fst e))
          clear hcd
          go_wp2
          go_quiet ((go_at_call 31; exact Calls.quiet_of (sameNat12_at _ _ _ c d _ HEq.out (HS1.out.kp (Kp.drewN _ _)) (HS2.out.kp (Kp.drewN _ _)))))
          go_wp2
          go_ret
          exact ⟨ret1b HF.out.symm, drawn_of12 HW.out _⟩
      · have hk' : k = p.length := by omega
        have HF : Hid (decide (p = q) = true) := by
          have := HT.out
          rw [List.take_of_length_le (by omega), List.take_of_length_le (by omega)] at this
          exact decide_eq_true this
        go_wp2
        go_ret
        exact ⟨ret1b HF.out.symm, n, HW.out⟩
  · have hle : ((p.length : Int) != q.length) = true := by rw [bne_iff_ne]; omega
    have HF : Hid (decide (p = q) = false) := decide_eq_false (fun e => hl (by rw [e]))
    go_enter Tryz.func18, Tryz.ntmps18
    go_wp2
    go_ret
    exact ⟨ret1b HF.out.symm, 0, rfl⟩

theorem same12_self (v u : Value) (p : List Mn) (w : World) (h : Ms w v p) (h' : Ms w u p) :
    Calls Tryz.prog 18 #[v, u] w fun e w' => e = .returned (.bool true) ∧ Below w.heap.size w w' :=
  (same12_any v u p p w h h').mono fun _ _ ⟨he, _, hw⟩ => ⟨by rw [he, decide_eq_true rfl], drawn_below hw⟩

end Go.Proofs.YtdjmjhlbjcgoiaaGreatDoor

/- sameAll of the law file of layer 12. -/
namespace Go.Proofs.YtdjmjhlbjcgoiaaGreatDoor
open Go.RowKit Go.Maps Go.BigFrame

theorem same12_at (B : Bool) (v u : Value) (p q : List Mn) (w : World) (hB : decide (p = q) = B) (h : Ms w v p) (h' : Ms w u q) :
    Calls Tryz.prog 18 #[v, u] w fun e w' => e = .returned (.bool B) ∧ ∃ n, w' = w.drewN n := by
  subst hB
  exact same12_any v u p q w h h'

set_option maxRecDepth 100000 in
set_option maxHeartbeats 3200000 in
theorem sameAll12_any (v u : Value) (a b : List Ip) (w : World) (h : Ins w v a) (h' : Ins w u b) :
    Calls Tryz.prog 15 #[v, u] w fun e w' => e = .returned (.bool (decide (a = b))) ∧ ∃ n, w' = w.drewN n := by
  obtain ⟨ao, cap, rfl, hao, hca, q0⟩ := Row.flat h
  obtain ⟨bo, cap', rfl, hbo, hcb, q0'⟩ := Row.flat h'
  unfold maxLen at hca hcb
  have HP := hid h
  have HQ := hid h'
  clear h h' q0 q0'
  by_cases hl : a.length = b.length
  · have hle : ((a.length : Int) != b.length) = false := by simp; omega
    go_enter Tryz.func15, Tryz.ntmps15
    go_wp2
    go_loopw [5] (fun i wr => ∃ k : Nat, k ≤ a.length ∧ i = .int .i64 k ∧ a.take k = b.take k ∧ ∃ n, wr = w.drewN n) (fun i _ => a.length - (intOf i).toNat)
    case atStart => exact ⟨0, Nat.zero_le _, rfl, rfl, 0, rfl⟩
    case round =>
      obtain ⟨k, hk, rfl, ht, n, hw⟩ := hrel
      have HT := hid ht
      have HW := hid hw
      have hkp : Kp w wr := by rw [hw]; exact Kp.drewN _ _
      clear ht hw
      by_cases hlt : k < a.length
      · have hlt' : k < b.length := by omega
        obtain ⟨g, off, c, p, a1, c1, rfl, hm1, hc0, hc1, hms, hr1, hr2, hl1, hl2⟩ := (HP.out.kp hkp).at hlt
        obtain ⟨g', off', d, q, b1, d1, rfl, hn1, hd0, hd1, hns, hr3, hr4, hl3, hl4⟩ := (HQ.out.kp hkp).at hlt'
        have HX := hid hm1
        have HY := hid hn1
        have HM1 := hid hms
        have HM2 := hid hns
        have HNo : Hid (¬ (c, p) = (d, q) → decide (a = b) = false) := by
          intro hne
          rw [decide_eq_false_iff_not]
          intro hab
          rw [hab] at hm1
          exact hne (Option.some.inj (hm1.symm.trans hn1))
        clear hm1 hn1 hms hns hkp
        by_cases hcd : c = d
        · subst hcd
          have hcc : (c != c) = false := by simp
          by_cases hpq : p = q
          · have HEq : Hid (decide (p = q) = true) := decide_eq_true hpq
            have HPQ := hid hpq
            clear hpq
            go_wp2
            go_quiet ((go_at_call 18; exact Calls.quiet_of (same12_at _ _ _ p q _ HEq.out (HM1.out.kp (Kp.drewN _ _)) (HM2.out.kp (Kp.drewN _ _)))))
            go_wp2
            go_roundw
            case rel => exact ⟨k + 1, by omega, by go_num, by rw [take_get HX.out, take_get HY.out, HT.out, HPQ.out], drawn_of12 HW.out _⟩
            case measure => simp [intOf] <;> omega
          · have HEq : Hid (decide (p = q) = false) := decide_eq_false hpq
            have HF : Hid (decide (a = b) = false) := HNo.out (fun e => hpq (congrArg Prod.snd e))
            clear hpq
            go_wp2
            go_quiet ((go_at_call 18; exact Calls.quiet_of (same12_at _ _ _ p q _ HEq.out (HM1.out.kp (Kp.drewN _ _)) (HM2.out.kp (Kp.drewN _ _)))))
            go_wp2
            go_ret
            exact ⟨ret1b HF.out.symm, drawn_of12 HW.out _⟩
        · have hne : (c != d) = true := by rw [bne_iff_ne]; exact hcd
          have HF : Hid (decide (a = b) = false) := HNo.out (fun e => hcd (congrArg Prod.fst e))
          go_wp2
          go_quiet (fail)
          go_wp2
          go_ret
          exact ⟨ret1b HF.out.symm, drawn_of12 HW.out _⟩
      · have HF : Hid (decide (a = b) = true) := by
          have := HT.out
          rw [List.take_of_length_le (by omega), List.take_of_length_le (by omega)] at this
          exact decide_eq_true this
        go_wp2
        go_ret
        exact ⟨ret1b HF.out.symm, n, HW.out⟩
  · have hle : ((a.length : Int) != b.length) = true := by rw [bne_iff_ne]; omega
    have HF : Hid (decide (a = b) = false) := decide_eq_false (fun e => hl (by rw [e]))
    go_enter Tryz.func15, Tryz.ntmps15
    go_wp2
    go_ret
    exact ⟨ret1b HF.out.symm, 0, rfl⟩

end Go.Proofs.YtdjmjhlbjcgoiaaGreatDoor

/- InterpChecks walked. -/
namespace Go.Proofs.YtdjmjhlbjcgoiaaGreatDoor
open Go.RowKit Go.Maps Go.BigFrame

/-- The examples come out true. -/
def Shown12 : Prop := ∀ w : World, Tabs w → Calls Tryz.prog 9 #[] w fun e w' => e = .returned (.bool true) ∧ Below w.heap.size w w'

theorem ElsO.ins {w : World} {base b : Nat} {v : Value} {cs : List (Int × Value)} {l : List Ip} (he : ElsO w b cs l) (h : OwN w base v cs) : Ins w v l := h.ins he.els

end Go.Proofs.YtdjmjhlbjcgoiaaGreatDoor

/- InterpOf walked. -/
namespace Go.Proofs.YtdjmjhlbjcgoiaaGreatDoor
open Go.RowKit Go.Maps Go.BigFrame

set_option maxRecDepth 100000 in
set_option maxHeartbeats 6400000 in
theorem interpOf12_any (hsh : Shown12) (sv lv tv : Value) (sig : List Sy) (l : List Ip) (t : List Int) (w : World) (hs : Sg w sv sig) (hl : Ins w lv l) (ht : Is w tv t) (hT : Tabs w) (hf : FitN 140737488351232 l) (hb : t.length * 24 ≤ 140737488351232) :
    Calls Tryz.prog 4 #[sv, lv, tv] w fun e w' => e = .returned (.bool true) ∧ Below w.heap.size w w' := by
  have HSh := hid hsh
  have HS := hid hs
  have HL := hid hl
  have HTt := hid ht
  have HT := hid hT
  have HF := hid hf
  clear hs hl hT hsh hf ht
  go_enter Tryz.func4, Tryz.ntmps4
  go_wp2_with fail
  refine (HSh.out w HT.out).mono ?_
  rintro e w1 ⟨rfl, hb1⟩
  have B1 := hid hb1
  clear hb1
  go_wp2_with fail
  refine (copied12_any _ l w1 (HL.out.kp (Kp.of_below B1.out)) HF.out).mono ?_
  rintro e w2 ⟨ov, ds, rfl, ho, he, hb2⟩
  have B2 := hid (below_step B1.out hb2)
  have HO := hid (he.ins ho)
  obtain ⟨oa, oc, rfl, _, _⟩ := ho.slice
  clear ho he hb2 B1
  obtain ⟨E, hE⟩ : ∃ E, E = ofPE sig l t := ⟨_, rfl⟩
  obtain ⟨p, hp⟩ : ∃ p, p = ofPL sig l t := ⟨_, rfl⟩
  have HE := hid hE
  have HP := hid hp
  clear hE hp
  have HOf : Hid (∀ W, Below w2.heap.size w2 W → Calls Tryz.prog 16 #[sv, .slice oa ds.length oc, tv] W fun e w' => (∃ v', e = .returned (.tuple #[v', .int .i64 E]) ∧ OM w' W.heap.size v' p) ∧ Below W.heap.size W w') := fun W hW => by
    rw [HE.out, HP.out]
    exact interpOf_any _ _ _ sig l t W (HS.out.kp (Kp.of_below (below_step B2.out hW))) (HO.out.kp (Kp.of_below hW)) (HTt.out.kp (Kp.of_below (below_step B2.out hW))) (HT.out.below (below_step B2.out hW)) hb
  go_wp2_with fail
  refine (HOf.out w2 (Below.refl _ _)).mono ?_
  rintro e w3 ⟨⟨v, rfl, hom⟩, hb3⟩
  have HOM := hid hom
  have C3 := hid hb3
  have B3 := hid (below_step B2.out hb3)
  obtain ⟨A, hA⟩ : ∃ A, A = awayB w2.heap.size w3.heap.size := ⟨_, rfl⟩
  have HAe := hid hA
  have HAn : Hid (∀ g, w3.heap.size ≤ g → A g = true) := by intro g hg; rw [hA]; exact away_new hg
  have HLA : Hid (Ins (onlyY A w3) lv l) := by rw [hA]; exact (HL.out.kp (Kp.of_below B2.out)).kp (away_old hb3)
  clear hom hb3 hA
  go_wp2_with fail
  refine (refOf12_any A _ _ _ sig l t w3 HAn.out (HS.out.kp (Kp.of_below B3.out)) HLA.out (HTt.out.kp (Kp.of_below B3.out)) hb).mono ?_
  rw [← HE.out, ← HP.out]
  rintro e w4 ⟨⟨vw, rfl, hmw⟩, hb4⟩
  have HW := hid hmw
  have C4 := hid hb4
  have B4 := hid (below_step B3.out hb4)
  clear hmw hb4 HLA HAn
  have hEE : (E == E) = true := by simp
  have hEN : (E != E) = false := by simp
  obtain ⟨pa, pn, pc, rfl⟩ := HOM.out.ms.shape
  have hpn := HOM.out.ms.len
  subst hpn
  obtain ⟨qa, qn, qc, rfl⟩ := HW.out.shape
  have hqn := HW.out.len
  subst hqn
  go_wp2_with fail
  refine (same12_any _ _ p p w4 (HOM.out.later C4.out).ms (HW.out.kp (only_kp A w4))).mono ?_
  rw [show decide (p = p) = true by simp]
  rintro e w6 ⟨rfl, n6, hw6⟩
  have C6 := hid (drawn_below hw6)
  have B6 := hid (below_step B4.out C6.out)
  have HW6 := hid (HW.out.kp (only_below C6.out))
  have HB : Hid (Below w3.heap.size w3 w6) := hid (below_step C4.out C6.out)
  clear hw6 HW
  obtain ⟨cs, hcl, hcc, ho⟩ := HOM.out
  have HForm : Hid (0 < p.length → ∃ gp, pa = some ⟨gp, 0, none⟩ ∧ w2.heap.size ≤ gp ∧ gp < w3.heap.size ∧ Shp w6 gp 37 (pc * 2) ∧ p.length ≤ pc) := fun h0 => by
    rcases ho.2 with ⟨hv, hn⟩ | ⟨gp, cap, cur, hv, hgb, hg, hcap, hm, hs, _⟩
    · omega
    · simp only [Value.slice.injEq, true_and] at hv
      obtain ⟨rfl, rfl⟩ := hv
      have hlt := (Array.getElem?_eq_some_iff.1 hg).1
      exact ⟨gp, rfl, hgb, hlt, ⟨cur, by rw [HB.out.block gp hlt]; exact hg, by omega⟩, hcap⟩
  have HRow : Hid (∀ (i : Nat) (c : Value × Value), cs[i]? = some c → ∃ n1 n2, RowS w6 w2.heap.size w3.heap.size 38 c.1 n1 ∧ RowS w6 w2.heap.size w3.heap.size 3 c.2 n2) := by
    intro i c hi
    have hlt2 := (List.getElem?_eq_some_iff.1 hi).1
    have hpi : p[i]? = some p[i] := List.getElem?_eq_getElem (by omega)
    obtain ⟨o1, o2⟩ := hcc i c _ hi hpi
    exact ⟨_, _, RowS.of o1.2 HB.out, RowS.of o2.2 HB.out⟩
  have HCells : Hid (∀ (gp i : Nat) (c : Value × Value), pa = some ⟨gp, 0, none⟩ → cs[i]? = some c → w6.cell? ⟨gp, i * 2, none⟩ = some c.1 ∧ w6.cell? ⟨gp, i * 2 + 1, none⟩ = some c.2) := by
    intro gp i c e hi
    have hlt2 := (List.getElem?_eq_some_iff.1 hi).1
    obtain ⟨f1, f2⟩ := flat2_get hi
    have hfl := ho.1
    have g1 := (List.getElem?_eq_some_iff.1 f1).1
    have g2 := (List.getElem?_eq_some_iff.1 f2).1
    have hwo := ownsRow_later ho HB.out
    rw [e] at hwo
    rw [World.ownsRow.cellAt hwo (i * 2) (by omega), World.ownsRow.cellAt hwo (i * 2 + 1) (by omega)]
    rw [f1, f2]
    exact ⟨rfl, rfl⟩
  have HCl : Hid (cs.length = p.length) := hcl
  clear hcl hcc ho HOM
  obtain ⟨b, hbq⟩ : ∃ b, b = w2.heap.size := ⟨_, rfl⟩
  obtain ⟨tt, htq⟩ : ∃ b, b = w3.heap.size := ⟨_, rfl⟩
  rw [← hbq] at HForm HRow
  rw [← htq] at HForm HRow
  have HBq := hid hbq
  have HTq := hid htq
  clear hbq htq
  have hplen : p.length ≤ 9223372036854775807 := by
    by_cases h0 : 0 < p.length
    · obtain ⟨gp, _, _, _, hsh, hc⟩ := HForm.out h0
      obtain ⟨_, cap', hv, _, hm, _⟩ := Row.flat HW6.out
      simp only [Value.slice.injEq, true_and] at hv
      unfold maxLen at hm
      have := (Row.flat HW6.out)
      obtain ⟨_, _, hv2, h3, h4, _⟩ := this
      unfold maxLen at h4
      omega
    · omega
  go_wp2
  go_loopw [13, 14, 15] (fun i _ _ wr => ∃ k : Nat, k ≤ p.length ∧ i = .int .i64 k ∧ Spl b tt w6 wr ∧ ∀ (gp j : Nat) (c : Value × Value), pa = some ⟨gp, 0, none⟩ → k ≤ j → cs[j]? = some c → wr.cell? ⟨gp, j * 2, none⟩ = some c.1 ∧ wr.cell? ⟨gp, j * 2 + 1, none⟩ = some c.2) (fun i _ _ _ => p.length - (intOf i).toNat)
  case atStart => exact ⟨0, Nat.zero_le _, rfl, Spl.refl _ _ _, fun gp j c e _ hj => HCells.out gp j c e hj⟩
  case round =>
    obtain ⟨k, hk, rfl, hsp, hcs⟩ := hrel
    have HSp := hid hsp
    have HCs := hid hcs
    clear hsp hcs HCells
    by_cases hkl : k < p.length
    · as_aux_lemma =>
        obtain ⟨gp, rfl, hgb, hgt, hshp, hpc⟩ := HForm.out (by omega)
        have HShp := hid hshp
        obtain ⟨⟨x1, x2⟩, hx⟩ : ∃ c, cs[k]? = some c := ⟨cs[k]'(by rw [HCl.out]; exact hkl), List.getElem?_eq_getElem _⟩
        obtain ⟨n1, n2, hr1, hr2⟩ := HRow.out k _ hx
        simp only at hr1 hr2
        obtain ⟨ao1, cap1, rfl, hc1, hm1⟩ := hr1.form
        obtain ⟨ao2, cap2, rfl, hc2, hm2⟩ := hr2.form
        unfold maxLen at hm1 hm2
        obtain ⟨y1, y2⟩ := HCs.out gp k _ rfl (Nat.le_refl _) hx
        simp only at y1 y2
        have HR1 : Hid (RowS w6 b tt 38 (.slice ao1 n1 cap1) n1) := hr1
        have HR2 : Hid (RowS w6 b tt 3 (.slice ao2 n2 cap2) n2) := hr2
        have hwk : IntKind.i64.wrap ((k : Int) + 1) = ((k + 1 : Nat) : Int) := by rw [IntWalk.i64_in _ ⟨by omega, by omega⟩]; omega
        clear hr1 hr2 hx hshp
        obtain ⟨wo, hwo⟩ : ∃ X, X = wr := ⟨wr, rfl⟩
        rw [← hwo] at HSp HCs y1 y2 ⊢
        clear hwo
        go_wp2
        go_loopw [14] (fun j wx => ∃ m : Nat, m ≤ n1 ∧ j = .int .i64 m ∧ Spl b tt w6 wx ∧ wx.heap[gp]? = wo.heap[gp]?) (fun j _ => n1 - (intOf j).toNat)
        case atStart => exact ⟨0, Nat.zero_le _, rfl, HSp.out, rfl⟩
        case round =>
          obtain ⟨m, hl, rfl, hspx, hgx⟩ := hrel
          have HSx := hid hspx
          have HGx := hid hgx
          have z1 : wr.cell? ⟨gp, k * 2, none⟩ = some (.slice ao1 n1 cap1) := by rw [World.cell?_of_block hgx]; exact y1
          have z2 : wr.cell? ⟨gp, k * 2 + 1, none⟩ = some (.slice ao2 n2 cap2) := by rw [World.cell?_of_block hgx]; exact y2
          by_cases hln : m < n1
          · as_aux_lemma =>
              obtain ⟨g1, rfl, hg1, hg2, hsh⟩ := (HR1.out.spl hspx).at hln
              obtain ⟨⟨u1, hu1⟩, hf1⟩ := hsh.cell (Nat.lt_of_lt_of_le hln hc1)
              have hne : gp ≠ g1 := (hspx.shape _ _ _ HShp.out).ne hsh (by decide)
              have hwm : IntKind.i64.wrap ((m : Int) + 1) = ((m + 1 : Nat) : Int) := by rw [IntWalk.i64_in _ ⟨by omega, by omega⟩]; omega
              clear hspx hgx hsh
              go_wp2
              go_roundw
              case rel => exact ⟨m + 1, by omega, by go_num, HSx.out.setCell (.inl ⟨hg1, hg2⟩) _ _, by rw [heap_setCell_other _ _ _ _ hne]; exact HGx.out⟩
              case measure => simp only [intOf]; omega
          · as_aux_lemma =>
              clear hspx hgx
              obtain ⟨wm, hwm⟩ : ∃ X, X = wr := ⟨wr, rfl⟩
              rw [← hwm] at HSx HGx z1 z2 ⊢
              clear hwm
              go_wp2
              go_loopw [15] (fun j wx => ∃ m : Nat, m ≤ n2 ∧ j = .int .i64 m ∧ Spl b tt w6 wx ∧ wx.heap[gp]? = wo.heap[gp]?) (fun j _ => n2 - (intOf j).toNat)
              case atStart => exact ⟨0, Nat.zero_le _, rfl, HSx.out, HGx.out⟩
              case round =>
                clear z1 z2 HSx HGx
                obtain ⟨m2, hl, rfl, hspx, hgx⟩ := hrel
                have HSx := hid hspx
                have HGx := hid hgx
                have z1 : wr.cell? ⟨gp, k * 2, none⟩ = some (.slice ao1 n1 cap1) := by rw [World.cell?_of_block hgx]; exact y1
                have z2 : wr.cell? ⟨gp, k * 2 + 1, none⟩ = some (.slice ao2 n2 cap2) := by rw [World.cell?_of_block hgx]; exact y2
                by_cases hln2 : m2 < n2
                · as_aux_lemma =>
                    obtain ⟨g1, rfl, hg1, hg2, hsh⟩ := (HR2.out.spl hspx).at hln2
                    obtain ⟨⟨u1, hu1⟩, hf1⟩ := hsh.cell (Nat.lt_of_lt_of_le hln2 hc2)
                    have hne : gp ≠ g1 := (hspx.shape _ _ _ HShp.out).ne hsh (by decide)
                    have hwm : IntKind.i64.wrap ((m2 : Int) + 1) = ((m2 + 1 : Nat) : Int) := by rw [IntWalk.i64_in _ ⟨by omega, by omega⟩]; omega
                    clear hspx hgx hsh
                    go_wp2
                    go_roundw
                    case rel => exact ⟨m2 + 1, by omega, by go_num, HSx.out.setCell (.inl ⟨hg1, hg2⟩) _ _, by rw [heap_setCell_other _ _ _ _ hne]; exact HGx.out⟩
                    case measure => simp only [intOf]; omega
                · as_aux_lemma =>
                    have hG6 := hspx.shape _ _ _ HShp.out
                    obtain ⟨⟨q1, hq1⟩, hq2⟩ := hG6.cell (k := k * 2) (by omega)
                    obtain ⟨⟨q3, hq3⟩, hq4⟩ := (hG6.setCell gp (k * 2) (.slice none 0 0)).cell (k := k * 2 + 1) (by omega)
                    clear hspx hgx hG6
                    go_wp2
                    go_roundw
                    case rel =>
                      refine ⟨k + 1, by omega, by go_num, (HSx.out.setCell (.inl ⟨hgb, hgt⟩) _ _).setCell (.inl ⟨hgb, hgt⟩) _ _, fun gp2 j c e hj hc => ?_⟩
                      cases e
                      obtain ⟨r1, r2⟩ := HCs.out gp j c rfl (by omega) hc
                      have hcell : ∀ o : Nat, k * 2 + 1 < o → ((wr.setCell ⟨gp, k * 2, none⟩ (.slice none 0 0)).setCell ⟨gp, k * 2 + 1, none⟩ (.slice none 0 0)).cell? ⟨gp, o, none⟩ = wo.cell? ⟨gp, o, none⟩ := fun o ho => by
                        rw [World.cell?_setCell_other _ _ _ _ (by simp <;> omega), World.cell?_setCell_other _ _ _ _ (by simp <;> omega)]
                        exact World.cell?_of_block HGx.out
                      rw [hcell _ (by omega), hcell _ (by omega)]
                      exact ⟨r1, r2⟩
                    case measure => simp only [intOf]; omega
    · as_aux_lemma =>
        have hkd : decide ((k : Int) < (p.length : Int)) = false := by simpa using hkl
        have hSp2 : Spl w2.heap.size w3.heap.size w6 wr := by rw [← HBq.out, ← HTq.out]; exact HSp.out
        have K11 : Kp (onlyY A w6) (onlyY A wr) := by rw [HAe.out]; exact away_spl hSp2
        have HWr := hid ((HW6.out.kp K11).kp (only_kp A wr))
        have HBw : Hid (Below w2.heap.size w2 wr) := spl_below (below_step C3.out HB.out) hSp2 (Nat.le_trans C3.out.size HB.out.size)
        clear K11 hSp2 HCs HSp HRow HForm
        go_wp2_with fail
        refine (HOf.out wr HBw.out).mono ?_
        rintro e w8 ⟨⟨v8, rfl, hom8⟩, hb8⟩
        have HM8 := hid hom8.ms
        have HW8 := hid (HWr.out.kp (Kp.of_below hb8))
        have C8 := hid (below_step HBw.out hb8)
        clear hom8 hb8 HOf
        go_wp2_with fail
        refine (same12_any _ _ p p w8 HM8.out HW8.out).mono ?_
        rw [show decide (p = p) = true by simp]
        rintro e w9 ⟨rfl, n9, hw9⟩
        have C9 := hid (below_step C8.out (drawn_below hw9))
        clear hw9
        go_wp2_with fail
        refine (sameAll12_any _ _ l l w9 (HO.out.kp (Kp.of_below C9.out)) (HL.out.kp (Kp.of_below (below_step B2.out C9.out)))).mono ?_
        rintro e w10 ⟨rfl, n10, hw10⟩
        have B10 := hid (below_step B2.out (below_step C9.out (drawn_below hw10)))
        have hd : decide (l = l) = true := decide_eq_true rfl
        rw [hd]
        clear hw10 hd
        go_wp2
        go_ret
        exact ⟨rfl, B10.out⟩

end Go.Proofs.YtdjmjhlbjcgoiaaGreatDoor
