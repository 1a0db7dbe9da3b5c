/- SubstApplies. -/
import Derived.Test.YtifpanfgojfbkaaDoorTBindW
import Derived.Test.YtifpanfgojfbkaaDoorTRefF
namespace Go.Proofs.YtifpanfgojfbkaaDoor
open Go.RowKit Go.Maps Go.BigFrame

theorem OwI.cut {w : World} {base g n cap : Nat} {xs ys : List Int} (h : OwI w base (.slice (some ⟨g, 0, none⟩) n cap) (xs ++ ys)) : Is w (.slice (some ⟨g, 0, none⟩) xs.length cap) xs := by
  obtain ⟨ao, cp, hv, hc, hm, hx⟩ := h.is
  simp only [Value.slice.injEq] at hv
  obtain ⟨rfl, _, rfl⟩ := hv
  rw [List.length_append] at hc
  refine ⟨_, cap, rfl, by omega, hm, fun h0 => ?_⟩
  obtain ⟨g', off, e, hg, hcell⟩ := hx (by rw [List.length_append]; omega)
  simp only [Option.some.injEq, Addr.mk.injEq, and_true] at e
  obtain ⟨rfl, rfl⟩ := e
  exact ⟨g, 0, rfl, hg, fun k x hk => hcell k x (by rw [List.getElem?_append_left (List.getElem?_eq_some_iff.1 hk).1]; exact hk)⟩

theorem applyL_len (sig : List Sy) (s : List Bd) (t : List Int) : (applyL sig s t).length ≤ 512 := by
  have hgo : ∀ (f : Int → Option (List Int)) (t a o : List Int), a.length ≤ 512 → layGo f a t = some o → o.length ≤ 512 := by
    intro f t
    induction t with
    | nil =>
      intro a o ha h
      simp only [layGo, Option.some.injEq] at h
      subst h
      exact ha
    | cons c t ih =>
      intro a o ha h
      unfold layGo at h
      split at h
      · cases h
      · exact ih _ o (by rw [List.length_append]; omega) h
  unfold applyL
  split
  · split
    · unfold layL
      cases hl : layGo (bnd s) [] t with
      | none => simp
      | some o => exact hgo _ t [] o (by simp) hl
    · simp
  · simp

set_option maxRecDepth 100000 in
set_option maxHeartbeats 3200000 in
theorem substApplies_any (sv bv v : Value) (sig : List Sy) (s : List Bd) (t : List Int) (w : World) (hs : Sg w sv sig) (hB : Bs w bv s) (hI : Is w v t) (hT : Tabs w) (hb : s.length * 32 ≤ 140737488351232) (ht : t.length * 8 ≤ 140737488351232) :
    Calls Tryd.prog 4 #[sv, bv, v] w fun e w' => e = .returned (.bool true) ∧ Below w.heap.size w w' := by
  obtain ⟨ao, cap, rfl, hao, hca, _⟩ := Row.flat hI
  unfold maxLen at hca
  have HS := hid hs
  have HBs := hid hB
  have HI := hid hI
  have HT := hid hT
  clear hs hB hT hI
  go_enter Tryd.func4, Tryd.ntmps4
  go_wp2_with fail
  refine (shown_any w HT.out).mono ?_
  rintro e w1 ⟨rfl, hb1⟩
  have HB1 := hid hb1
  clear hb1
  go_wp2_with fail
  refine (copied_any bv s w1 (HBs.out.kp (Kp.of_below HB1.out)) hb).mono ?_
  rintro e w2 ⟨v2, rfl, ho2, hb2⟩
  have HO2 := hid ho2
  have HB2 := hid (below_step HB1.out hb2)
  clear ho2 hb2 HB1
  -- the row, with a mark behind it
  obtain ⟨va, w3, hr3, ho3, hg3⟩ := copy_ints 30 (base := w2.heap.size) (g := w2.heap.size) (empty_row (w := w2) 3 (Nat.le_refl _)) ((HI.out.kp (Kp.of_below HB2.out)).kp (Kp.of_below (below_alloc _))) (below_alloc _).size (by omega)
  have HR3 := hid hr3
  have HK3 : Hid (Below w2.heap.size w2 w3) := grown_below (below_alloc _) hg3 (Nat.le_refl _)
  obtain ⟨vr, w4, hr4, ho4, hg4⟩ := join_ints 30 (u := .slice (some ⟨w3.heap.size, 0, none⟩) 1 1) (es := [77]) (ho3.later (below_alloc (.cells #[.int .i64 77] 3))) (is_new w3 [77] _ (by intro x hx; simp at hx; omega) (by simp)) (b1 HK3.out).size (by simp; omega)
  have HR4 := hid hr4
  have HK4 : Hid (Below w2.heap.size w2 w4) := (b1 HK3.out).grown hg4 (b1 HK3.out).size (fun j hj => own_blk ho3.2 hj)
  obtain ⟨rg, rc, rfl⟩ := own_form ho4.2 (by simp)
  have HRow := hid ho4
  have hrl : (t ++ [77]).length = t.length + 1 := by simp
  rw [hrl] at HRow HR4
  have hrc : t.length + 1 ≤ rc ∧ rc ≤ 9223372036854775807 := by
    obtain ⟨_, c9, e9, h8, h9⟩ := HRow.out.shape
    simp only [Value.slice.injEq] at e9
    obtain ⟨_, _, rfl⟩ := e9
    rw [hrl] at h8
    unfold maxLen at h9
    omega
  have HB4 := hid (below_step HB2.out HK4.out)
  clear hr3 ho3 hg3 hr4 ho4 hg4 hrl HK3
  go_wp2_with (first
    | (at_builtin; refine wpList_append_run rfl _ _ _ rfl _ _ rfl rfl HR3.out ?_)
    | (at_builtin; refine wpList_append_run rfl _ _ _ rfl _ _ rfl rfl HR4.out ?_))
  refine (apply_any sv v2 _ sig s t w4 (HS.out.kp (Kp.of_below HB4.out)) (HO2.out.kp (Kp.of_below HK4.out)) HRow.out.cut (HT.out.below HB4.out) ht).mono ?_
  rintro e w5 ⟨a5, rfl, ho5, hb5⟩
  have HA5 := hid ho5
  have HK5 := hid hb5
  have HB5 := hid (below_step HB4.out hb5)
  clear ho5 hb5 HR3 HR4
  go_wp2_with fail
  refine (refApply_any sv bv _ sig s t w5 (HS.out.kp (Kp.of_below HB5.out)) (HBs.out.kp (Kp.of_below HB5.out)) (HI.out.kp (Kp.of_below HB5.out)) ht).mono ?_
  rintro e w6 ⟨a6, rfl, ho6, hb6⟩
  have HA6 := hid (HA5.out.later hb6)
  have HW6 := hid ho6
  have HK6 := hid (below_step HK5.out hb6)
  have hE := applyL_len sig s t
  have HAp : Hid (∀ W, Sg W sv sig → Bs W v2 s → Is W (.slice (some ⟨rg, 0, none⟩) t.length rc) t → Tabs W → Calls Tryd.prog 14 #[sv, v2, .slice (some ⟨rg, 0, none⟩) t.length rc] W fun e w' => ∃ v', e = .returned (.tuple #[v', .int .i64 (applyE sig s t)]) ∧ OwI w' W.heap.size v' (applyL sig s t) ∧ Below W.heap.size W w') := fun W a1 a2 a3 a4 => apply_any sv v2 _ sig s t W a1 a2 a3 a4 ht
  have HL5 : Hid (∀ g n c, a5 = .slice (some ⟨g, 0, none⟩) n c → g < w5.heap.size) := fun g n c e => by
    have := HA5.out.2
    rw [e] at this
    exact own_lt this
  clear ho6 hb6 HA5
  generalize applyE sig s t = E at HAp ⊢
  generalize applyL sig s t = xs at HA6 HW6 HAp hE
  have hEE : (E != E) = false := by simp
  have hEF : (E == E) = true := by simp
  go_wp2_with fail
  refine (same_any a5 a6 xs xs w6 HA6.out.is HW6.out.is).mono ?_
  rintro e w7 ⟨rfl, n7, hw7⟩
  rw [decide_eq_true rfl]
  have hb7 := drawn_below hw7
  have HK7 := hid (below_step HK6.out hb7)
  have HA7 := hid (HA6.out.later hb7)
  have HW7 := hid (HW6.out.later hb7)
  clear hw7 hb7 HA6 HW6 HK6
  obtain ⟨xo, xc, rfl, hxc1, hxc2⟩ := HA7.out.shape
  unfold maxLen at hxc2
  go_wp2
  go_loopw [14] (fun i ws => ∃ (k : Nat) (ys : List Int), k ≤ xs.length ∧ i = .int .i64 k ∧ ys.length = xs.length ∧ OwI ws w4.heap.size (.slice xo xs.length xc) ys ∧ OwI ws w5.heap.size a6 xs ∧ Below w4.heap.size w4 ws) (fun i _ => xs.length - (intOf i).toNat)
  case atStart => exact ⟨0, xs, Nat.zero_le _, rfl, rfl, HA7.out, HW7.out, HK7.out⟩
  case round =>
    obtain ⟨k, ys, hk, rfl, hyl, how, hwant, hbl⟩ := hrel
    have HOw := hid how
    have HYl := hid hyl
    have HWt := hid hwant
    have HBw := hid hbl
    clear how hbl HA7 HK7 hyl hwant HW7
    by_cases hlt : k < xs.length
    · obtain ⟨g, cp, hv⟩ := own_form (v := .slice xo xs.length xc) HOw.out.2 (by rw [HYl.out]; omega)
      simp only [Value.slice.injEq] at hv
      obtain ⟨rfl, _, rfl⟩ := hv
      obtain ⟨y, hy⟩ : ∃ y, ys[k]? = some y := ⟨_, List.getElem?_eq_getElem (by rw [HYl.out]; exact hlt)⟩
      obtain ⟨hc1, hf1⟩ := HOw.out.at hy
      have hg := own_ge HOw.out.2
      have hg5 := HL5.out _ _ _ rfl
      have hq := HOw.out.put HBw.out hg HYl.out.symm (k := k) (z := 99) (by omega) rfl
      have HQ := hid hq.1
      have HQb := hid hq.2
      have HQw : Hid (OwI (wr.setCell ⟨g, k, none⟩ (.int .i64 99)) w5.heap.size a6 xs) := HWt.out.kept (set_grown _ _ _ _) (by
        cases hv : a6.ownBlock with
        | none => exact .inl rfl
        | some j =>
          have := own_blk HWt.out.2 hv
          exact .inr (by simp; omega))
      clear hq hy
      go_wp2
      go_roundw
      case rel => exact ⟨k + 1, ys.set k 99, by omega, by go_num, by rw [List.length_set]; exact HYl.out, HQ.out, HQw.out, HQb.out⟩
      case measure => simp [intOf]; omega
    · obtain ⟨vm, w8, hr8, ho8, hg8⟩ := join_ints 30 (u := .slice (some ⟨wr.heap.size, 0, none⟩) 1 1) (es := [98]) (HOw.out.later (below_alloc (.cells #[.int .i64 98] 3))) (is_new wr [98] _ (by intro x hx; simp at hx; omega) (by simp)) (b1 HBw.out).size (by rw [HYl.out]; simp; omega)
      have HR8 := hid hr8
      have hm1 : (ys ++ [98]).length = xs.length + 1 := by rw [List.length_append, HYl.out]; rfl
      obtain ⟨mg, mc, rfl⟩ := own_form ho8.2 (by rw [hm1]; omega)
      rw [hm1] at HR8 ho8
      have hmc : xs.length + 1 ≤ mc ∧ mc ≤ 9223372036854775807 := by
        obtain ⟨_, c9, e9, h8, h9⟩ := ho8.shape
        simp only [Value.slice.injEq] at e9
        obtain ⟨_, _, rfl⟩ := e9
        rw [hm1] at h8
        unfold maxLen at h9
        omega
      have HM8 := hid ho8
      have HW8 : Hid (OwI w8 w5.heap.size a6 xs) := (HWt.out.later (below_alloc _)).kept hg8 (by
        cases hv : a6.ownBlock with
        | none => exact .inl rfl
        | some j =>
          have h1 := own_blk HWt.out.2 hv
          refine .inr fun e => ?_
          cases hx : xo with
          | none => rw [hx] at e; cases e
          | some ad =>
            rw [hx] at e
            obtain ⟨b, o, sp⟩ := ad
            have h2 : ∃ cp, (Value.slice xo xs.length xc) = .slice (some ⟨b, 0, none⟩) xs.length cp := by
              rcases HOw.out.2.2 with ⟨h3, _⟩ | ⟨g, cap, cur, h3, _⟩
              · rw [hx] at h3; cases h3
              · rw [hx] at h3 ⊢
                simp only [Value.slice.injEq, Option.some.injEq, Addr.mk.injEq] at h3
                obtain ⟨⟨rfl, rfl, rfl⟩, _, rfl⟩ := h3
                exact ⟨_, rfl⟩
            obtain ⟨cp, h2⟩ := h2
            have h4 := HL5.out _ _ _ h2
            simp only [Value.ownBlock, Option.some.injEq] at e
            omega)
      have HK8 : Hid (Below w4.heap.size w4 w8) := (b1 HBw.out).grown hg8 (b1 HBw.out).size (fun j hj => own_blk HOw.out.2 hj)
      have HB8 := hid (below_step HB4.out HK8.out)
      have HK28 := hid (below_step HK4.out HK8.out)
      clear hr8 ho8 hg8 hm1
      go_wp2_with (first
        | (at_builtin; refine wpList_append_run rfl _ _ _ rfl _ _ rfl rfl HR8.out ?_))
      refine (HAp.out w8 (HS.out.kp (Kp.of_below HB8.out)) (HO2.out.kp (Kp.of_below HK28.out)) (HRow.out.cut.kp (Kp.of_below HK8.out)) (HT.out.below HB8.out)).mono ?_
      rintro e w9 ⟨vb, rfl, ho9, hb9⟩
      have HV9 := hid ho9.is
      have HK9 := hid hb9
      have HW9 := hid (HW8.out.later hb9)
      have HM9 := hid (HM8.out.later hb9)
      clear ho9 hb9 HR8 HAp
      go_wp2_with fail
      refine (same_any vb a6 xs xs w9 HV9.out HW9.out.is).mono ?_
      rintro e w10 ⟨rfl, n10, hw10⟩
      rw [decide_eq_true rfl]
      have hb10 := drawn_below hw10
      have HK10 := hid (below_step HK9.out hb10)
      have HM10 := hid (HM9.out.later hb10)
      clear hw10 hb10 HV9 HW9 HM9 HW8
      have HB10 := hid (below_step HB8.out HK10.out)
      have HK210 := hid (below_step HK28.out HK10.out)
      have HK410 := hid (below_step HK8.out HK10.out)
      go_wp2_with fail
      refine (sameBinds_any v2 bv s w10 (HO2.out.kp (Kp.of_below HK210.out)) (HBs.out.kp (Kp.of_below HB10.out))).mono ?_
      rintro e w11 ⟨rfl, hb11⟩
      have HK411 := hid (below_step HK410.out hb11)
      have HB11 := hid (below_step HB10.out hb11)
      have HM11 := hid (HM10.out.later hb11)
      clear hb11 HM10
      go_wp2_with fail
      refine (same_any _ _ t t w11 (HRow.out.cut.kp (Kp.of_below HK411.out)) (HI.out.kp (Kp.of_below HB11.out))).mono ?_
      rintro e w12 ⟨rfl, n12, hw12⟩
      rw [decide_eq_true rfl]
      have hb12 := drawn_below hw12
      have HB12 := hid (below_step HB11.out hb12)
      have hcr : w12.cell? ⟨rg, t.length, none⟩ = some (.int .i64 77) := ((HRow.out.later (below_step HK411.out hb12)).at (k := t.length) (by simp)).1
      have hcm : w12.cell? ⟨mg, xs.length, none⟩ = some (.int .i64 98) := ((HM11.out.later hb12).at (k := xs.length) (by rw [← HYl.out]; simp)).1
      clear hw12 hb12
      go_wp2
      go_ret
      exact ⟨rfl, HB12.out⟩

end Go.Proofs.YtifpanfgojfbkaaDoor
