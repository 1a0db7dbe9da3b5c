/- StepDoes walked. -/
import Derived.Test.YtfeeafkfjngemaaGreatDoorOwn18
import Derived.Test.YtfeeafkfjngemaaGreatDoorOwn21
import Derived.Test.YtfeeafkfjngemaaGreatDoorOwn3
namespace Go.Proofs.YtfeeafkfjngemaaGreatDoor
open Go.RowKit Go.Maps Go.BigFrame

theorem repl_few (sig : List Sy) (t u : List Int) (p : Int) : (replL sig t p u).length ≤ 512 := by
  unfold replL
  by_cases h : replE sig t p u = 0
  · rw [if_pos h]
    unfold replE at h
    split at h
    · split at h
      · split at h
        · split at h
          · omega
          · rename_i h9
            rw [List.length_append, List.length_append, List.length_take, List.length_drop]
            omega
        · contradiction
      · contradiction
    · contradiction
  · rw [if_neg h]
    simp

theorem doR_few (sig : List Sy) (rs : List Rl) (t : List Int) (p k : Int) : (doR sig rs t p k).1.length ≤ 512 := by
  unfold doR
  split
  · split
    · split
      · simp
      · split
        · simp
        · unfold doK
          split
          · split
            · exact repl_few _ _ _ _
            · simp
          · simp
    · simp
  · simp

set_option maxRecDepth 100000 in
set_option maxHeartbeats 6400000 in
theorem stepDoes_any (sv rv tv : Value) (s : List Sy) (a : List Rl) (t : List Int) (p k : Int) (w : World) (hs : Sg w sv s) (ha : RU w rv a) (ht : Is w tv t) (hT : Tabs w) (htl : t.length ≤ 1048576) (hp1 : -9223372036854775808 ≤ p) (hp2 : p ≤ 9223372036854775807) (hk1 : -9223372036854775808 ≤ k) (hk2 : k ≤ 9223372036854775807) :
    Calls Tryz.prog 4 #[.agg #[sv, rv], tv, .agg #[.int .i64 p, .int .i64 k]] w fun e w' => e = .returned (.bool true) ∧ Below w.heap.size w w' := by
  obtain ⟨so, sc, rfl, hso, hsc, _⟩ := Row.flat hs
  obtain ⟨ao, ac, rfl, hao, hac, _⟩ := Row.flat ha
  obtain ⟨to2, tc, rfl, hto, htc, _⟩ := ht.flatI
  have HS := hid hs
  have HA := hid ha
  have HTt := hid ht
  have HT := hid hT
  clear hs ha ht hT
  obtain ⟨wA, hwA⟩ : ∃ X, X = (w.alloc (.cells #[.slice so s.length sc, .slice ao a.length ac] 25)).alloc (.cells #[.int .i64 p, .int .i64 k] 33) := ⟨_, rfl⟩
  have CA : Hid (Below w.heap.size w wA) := by rw [hwA]; exact below_step (below_alloc _) (below_alloc _)
  have HC : Hid (∀ W, Below wA.heap.size wA W → (W.cell? ⟨w.heap.size, 0, none⟩ = some (.slice so s.length sc) ∧ W.cell? ⟨w.heap.size, 1, none⟩ = some (.slice ao a.length ac)) ∧ W.cell? ⟨w.heap.size + 1, 0, none⟩ = some (.int .i64 p) ∧ W.cell? ⟨w.heap.size + 1, 1, none⟩ = some (.int .i64 k)) := fun W hW => by
    have hk := Kp.of_below hW
    rw [hwA] at hk
    have e9 : w.heap.size + 1 = (w.alloc (.cells #[.slice so s.length sc, .slice ao a.length ac] 25)).heap.size := (World.size_alloc _ _).symm
    rw [e9]
    exact ⟨⟨hk.cell _ _ (cell_old (cell_new rfl)), hk.cell _ _ (cell_old (cell_new rfl))⟩, hk.cell _ _ (cell_new rfl), hk.cell _ _ (cell_new rfl)⟩
  obtain ⟨R, hR⟩ : ∃ R, R = doR s a t p k := ⟨_, rfl⟩
  have hRl : R.1.length ≤ 512 := by rw [hR]; exact doR_few _ _ _ _ _
  obtain ⟨L, E⟩ := R
  simp only at hRl
  have HAll : Hid (∀ W (v : Value), Below w.heap.size w W → Is W v t → Calls Tryz.prog 12 #[.agg #[.slice so s.length sc, .slice ao a.length ac], v, .agg #[.int .i64 p, .int .i64 k]] W fun e w' => ∃ v', e = .returned (.tuple #[v', .int .i64 E]) ∧ OwI w' W.heap.size v' L ∧ Below W.heap.size W w') := fun W v hW hv => by
    have h9 := do_any _ _ _ s a t p k W (HS.out.kp (Kp.of_below hW)) (HA.out.kp (Kp.of_below hW)) hv (HT.out.below hW) htl hp1 hp2 hk1 hk2
    rw [← hR] at h9
    exact h9
  have HRef : Hid (∀ W, Below w.heap.size w W → Calls Tryz.prog 13 #[.agg #[.slice so s.length sc, .slice ao a.length ac], .slice to2 t.length tc, .agg #[.int .i64 p, .int .i64 k]] W fun e w' => ∃ v', e = .returned (.tuple #[v', .int .i64 E]) ∧ OwI w' W.heap.size v' L ∧ Below W.heap.size W w') := fun W hW => by
    have h9 := refDo8_any _ _ _ s a t p k W (HS.out.kp (Kp.of_below hW)) (HA.out.kp (Kp.of_below hW)) (HTt.out.kp (Kp.of_below hW)) htl hp1 hp2 hk1 hk2
    rw [← hR] at h9
    exact h9
  clear hR
  go_enter Tryz.func4, Tryz.ntmps4
  go_wp2_with fail
  rw [← hwA]
  clear hwA
  refine (shown8_any wA (HT.out.below CA.out)).mono ?_
  rintro e w1 ⟨rfl, hb1⟩
  have D1 := hid hb1
  clear hb1
  -- the row and a mark behind it
  obtain ⟨v2, w2, hr2, ho2, hg2⟩ := join_ints 26 (xs := []) ⟨fun k x hk => (by simp at hk), empty_row 3 (Nat.le_refl w1.heap.size)⟩ ((HTt.out.kp (Kp.of_below (below_step CA.out D1.out))).kp (Kp.of_below (below_alloc (w := w1) (.cells #[] 3)))) (by simp) (by simp; omega)
  rw [List.nil_append] at ho2
  have hb2 : Below w1.heap.size w1 w2 := (below_alloc _).grown hg2 (by simp) (fun j hj => by cases hj; exact Nat.le_refl _)
  have hb2a : Below w1.heap.size w1 (w2.alloc (.cells #[.int .i64 77] 3)) := below_step hb2 (below_alloc _)
  obtain ⟨v3, w3, hr3, ho3, hg3⟩ := join_ints 26 (u := .slice (some ⟨w2.heap.size, 0, none⟩) 1 1) (es := [77]) (ho2.later (below_alloc (.cells #[.int .i64 77] 3))) (is_new w2 [77] _ (by decide) (by decide)) hb2a.size (by simp; omega)
  have hb3 : Below w1.heap.size w1 w3 := hb2a.grown hg3 hb2a.size (fun j hj => own_blk ho2.2 hj)
  have HR2 := hid hr2
  have HR3 := hid hr3
  have D3 := hid (below_step D1.out hb3)
  have C3 := hid (below_step CA.out D3.out)
  obtain ⟨b2, c2, hv2, _⟩ := ho2.shape
  subst hv2
  obtain ⟨b3, c3, hv3, hc31, hc32⟩ := ho3.shape
  rw [List.length_append, List.length_cons, List.length_nil] at hv3 hc31
  subst hv3
  obtain ⟨g3, hb3e⟩ : ∃ g3, b3 = some ⟨g3, 0, none⟩ := by
    rcases ho3.2.2 with ⟨hv, hn⟩ | ⟨g, cap, cur, hv, _⟩
    · simp only [Value.slice.injEq] at hv; simp at hn
    · simp only [Value.slice.injEq] at hv; exact ⟨g, hv.1⟩
  subst hb3e
  unfold maxLen at hc32
  have HI3 := hid ho3.is
  clear hr2 hr3 ho2 ho3 hg2 hg3 hb2 hb2a hb3
  go_wp2_with (first
    | (at_builtin; refine wpList_append_run rfl _ _ _ rfl _ _ rfl rfl HR2.out ?_)
    | (at_builtin; refine wpList_append_run rfl _ _ _ rfl _ _ rfl rfl HR3.out ?_))
  have HPre : Hid (Is w3 (.slice (some ⟨g3, 0, none⟩) t.length c3) t) := by
    have h9 : Is w3 (.slice (some ⟨g3, 0, none⟩) (t ++ [77]).length c3) (t ++ [77]) := by simpa using HI3.out
    have h8 := h9.mid (k := 0) (m := t.length) (by simp) (by simp)
    show Is _ _ _
    simpa using h8
  have HMk : Hid (w3.cell? ⟨g3, t.length, none⟩ = some (.int .i64 77)) := by
    have h9 : Is w3 (.slice (some ⟨g3, 0, none⟩) (t ++ [77]).length c3) (t ++ [77]) := by simpa using HI3.out
    obtain ⟨g9, o9, c9, e9, hc9, hx9, _, _⟩ := h9.at (k := t.length) (by simp)
    cases e9
    rw [List.getElem?_append_right (Nat.le_refl _), Nat.sub_self] at hc9
    cases hc9
    rw [Nat.zero_add] at hx9
    exact hx9
  obtain ⟨⟨x0, x1⟩, y0, y1⟩ := HC.out w3 D3.out
  have hbd : Below w3.heap.size w3 w3.drew := (Below.refl _ _).drew
  have HCl := hid (HAll.out w3.drew (.slice (some ⟨g3, 0, none⟩) t.length c3) (below_step C3.out hbd) (HPre.out.kp (Kp.of_below hbd)))
  have htc3 : t.length ≤ c3 := by omega
  clear HR2 HR3 hbd
  go_cut [9, 10] from 25 to 34 (fun x y wx => y = .int .i64 E ∧ OwI wx w3.drew.heap.size x L ∧ Below w3.heap.size w3 wx)
  case first =>
    go_region_with (first
      | (refine HCl.out.mono ?_; rintro e w4 ⟨v4, rfl, o4, hb4⟩; have HO4 := hid o4; have J4 := hid (below_step (Below.refl _ _).drew hb4); clear o4 hb4))
    all_goals (
      simp only [Act.put, List.getElem_toArray, List.getElem_cons_succ, List.getElem_cons_zero, List.setIfInBounds_toArray, List.set_cons_succ, List.set_cons_zero]
      go_wp2
      go_meet
      case rel => exact ⟨rfl, HO4.out, J4.out⟩)
  obtain ⟨rfl, ho4, hj4⟩ := hcut
  obtain ⟨w4, hw4⟩ : ∃ W, W = wc := ⟨_, rfl⟩
  rw [← hw4] at ho4 hj4 ⊢
  clear hw4
  have HO4 := hid ho4
  have J4 := hid hj4
  clear ho4 hj4
  obtain ⟨a4, c4, hv4, hc41, hc42⟩ := HO4.out.shape
  subst hv4
  unfold maxLen at hc42
  have D4 := hid (below_step D3.out J4.out)
  have C4 := hid (below_step CA.out D4.out)
  have HG4 : Hid (∀ j, Value.ownBlock (.slice a4 L.length c4) = some j → j < w4.heap.size ∧ w3.heap.size ≤ j) := fun j hj => ⟨own_blk_lt HO4.out.2 hj, own_blk HO4.out.2 hj⟩
  clear x0 x1 y0 y1 HCl
  obtain ⟨⟨x0, x1⟩, y0, y1⟩ := HC.out w4 D4.out
  go_wp2_with fail
  refine (HRef.out w4 C4.out).mono ?_
  rintro e w5 ⟨v5, rfl, o5, hb5⟩
  have J5 := hid hb5
  have HO5 := hid o5
  obtain ⟨a5, c5, hv5, _⟩ := o5.shape
  subst hv5
  clear o5 hb5 x0 x1 y0 y1
  have hee : (E != E) = false := by simp
  have hee2 : (E == E) = true := by simp
  go_wp2_with fail
  refine (sameRow8_any _ _ L L w5 (HO4.out.is.kp (Kp.of_below J5.out)) HO5.out.is).mono ?_
  rintro e w6 ⟨rfl, n6, hw6⟩
  have J6 := hid (drawn_below hw6)
  clear hw6
  rw [decide_eq_true rfl]
  have J56 := hid (below_step J5.out J6.out)
  have HO46 := hid (HO4.out.later J56.out)
  have HO56 := hid (HO5.out.later J6.out)
  have B6 := hid (below_step J4.out J56.out)
  go_wp2
  go_loopw [13] (fun iv wr => ∃ (i : Nat) (d : List Int), i ≤ L.length ∧ iv = .int .i64 i ∧ d.length = L.length ∧ OwI wr w3.drew.heap.size (.slice a4 L.length c4) d ∧ OwI wr w4.heap.size (.slice a5 L.length c5) L ∧ Below w3.heap.size w3 wr ∧ w4.heap.size ≤ wr.heap.size) (fun iv _ => L.length - (intOf iv).toNat)
  case atStart => exact ⟨0, L, Nat.zero_le _, rfl, rfl, HO46.out, HO56.out, B6.out, J56.out.size⟩
  case round =>
    obtain ⟨i, d, hi, rfl, hdl, hod, ho5, hbl, hsz4⟩ := hrel
    have HOd := hid hod
    have HOw := hid ho5
    have HBl := hid hbl
    have HDl := hid hdl
    clear hod ho5 hbl HO46 HO56 B6 hdl
    by_cases hlt : i < L.length
    · have hd : decide ((i : Int) < (L.length : Int)) = true := by simpa using hlt
      obtain ⟨g, hae⟩ : ∃ g, a4 = some ⟨g, 0, none⟩ := by
        rcases HOd.out.2.2 with ⟨hv, hn⟩ | ⟨g, cap, cur, hv, _⟩
        · simp only [Value.slice.injEq] at hv; omega
        · simp only [Value.slice.injEq] at hv; exact ⟨g, hv.1⟩
      subst hae
      obtain ⟨x, hx⟩ : ∃ x, d[i]? = some x := ⟨_, List.getElem?_eq_getElem (by have := HDl.out; omega)⟩
      obtain ⟨q0, f0⟩ := HOd.out.at hx
      have hg4 := HG4.out g rfl
      obtain ⟨oz, bz⟩ := HOd.out.put HBl.out hg4.2 HDl.out.symm (k := i) (z := 99) ⟨by decide, by decide⟩ (ys := d.set i 99) rfl
      have HOz := hid oz
      have HBz := hid bz
      have HOz5 := hid (HOw.out.kept (set_grown wr g i (.int .i64 99)) (.inr fun e => by have := own_blk HOw.out.2 e; omega))
      have HDz : Hid ((d.set i 99).length = L.length) := by show _ = _; rw [List.length_set, HDl.out]
      clear hx oz bz
      go_wp2
      clear q0 f0
      go_roundw
      case rel => exact ⟨i + 1, _, hlt, by go_num, HDz.out, HOz.out, HOz5.out, HBz.out, by simpa using hsz4⟩
      case measure => simp only [intOf]; omega
    · have hd : decide ((i : Int) < (L.length : Int)) = false := by simpa using (show ¬ (i : Int) < (L.length : Int) by omega)
      have hs34 : w3.drew.heap.size ≤ w4.heap.size := J4.out.size
      have hba := below_step HBl.out (below_alloc (w := wr) (.cells #[.int .i64 98] 3))
      obtain ⟨v8, w8, hr8, ho8, hg8⟩ := join_ints 26 (u := .slice (some ⟨wr.heap.size, 0, none⟩) 1 1) (es := [98]) (HOd.out.later (below_alloc (.cells #[.int .i64 98] 3))) (is_new wr [98] _ (by decide) (by decide)) (by rw [World.size_alloc]; omega) (by have := HDl.out; simp; omega)
      have D8 : Hid (Below w3.heap.size w3 w8) := hba.grown hg8 hba.size (fun j hj => (HG4.out j hj).2)
      have B8 := hid (below_step D3.out D8.out)
      have C8 := hid (below_step CA.out B8.out)
      have HO58 := hid ((HOw.out.later (below_alloc (.cells #[.int .i64 98] 3))).kept hg8 (by
        cases h9 : Value.ownBlock (.slice a5 L.length c5) with
        | none => exact .inl rfl
        | some j => exact .inr fun e => by have := own_blk HOw.out.2 h9; have := (HG4.out j e.symm).1; omega))
      obtain ⟨b8, c8, hv8, hc81, hc82⟩ := ho8.shape
      have hl8 : (d ++ [98]).length = L.length + 1 := by rw [List.length_append, HDl.out]; rfl
      rw [hl8] at hv8 hc81
      subst hv8
      unfold maxLen at hc82
      obtain ⟨g9, o9, c9, hb8e, hc9, hm9, _, _⟩ := ho8.is.at (k := L.length) (by omega)
      subst hb8e
      rw [List.getElem?_append_right (by have := HDl.out; omega), HDl.out, Nat.sub_self] at hc9
      cases hc9
      have HM9 := hid hm9
      have HR8 := hid hr8
      obtain ⟨⟨x0, x1⟩, y0, y1⟩ := HC.out w8 B8.out
      have hlt9 : L.length < L.length + 1 := by omega
      have hbd8 : Below w8.heap.size w8 w8.drew := (Below.refl _ _).drew
      have HCl8 := hid (HAll.out w8.drew (.slice (some ⟨g3, 0, none⟩) t.length c3) (below_step C8.out hbd8) ((HPre.out.kp (Kp.of_below D8.out)).kp (Kp.of_below hbd8)))
      clear hr8 ho8 hg8 hba hm9 hl8 hbd8
      go_wp2_with (first
        | (at_builtin; refine wpList_append_run rfl _ _ _ rfl _ _ rfl rfl HR8.out ?_))
      go_cut [15, 16] from 63 to 72 (fun x y wx => y = .int .i64 E ∧ OwI wx w8.drew.heap.size x L ∧ Below w8.heap.size w8 wx)
      case first =>
        go_region_with (first
          | (refine HCl8.out.mono ?_; rintro e w9 ⟨v9, rfl, o9, hb9⟩; have HO9 := hid o9; have J9 := hid (below_step (Below.refl _ _).drew hb9); clear o9 hb9))
        all_goals (
          simp only [Act.put, List.getElem_toArray, List.getElem_cons_succ, List.getElem_cons_zero, List.setIfInBounds_toArray, List.set_cons_succ, List.set_cons_zero]
          go_wp2
          go_meet
          case rel => exact ⟨rfl, HO9.out, J9.out⟩)
      obtain ⟨rfl, ho9, hj9⟩ := hcut
      obtain ⟨w9, hw9⟩ : ∃ W, W = wc := ⟨_, rfl⟩
      rw [← hw9] at ho9 hj9 ⊢
      clear hw9 x0 x1 y0 y1 HCl8
      have HO9 := hid ho9.is
      have J9 := hid hj9
      clear ho9 hj9
      go_wp2_with fail
      refine (sameRow8_any _ _ L L w9 HO9.out (HO58.out.is.kp (Kp.of_below J9.out))).mono ?_
      rintro e w10 ⟨rfl, n10, hw10⟩
      have J10 := hid (below_step J9.out (drawn_below hw10))
      clear hw10
      rw [decide_eq_true rfl]
      go_wp2_with fail
      refine (sameRow8_any _ _ t t w10 (HPre.out.kp (Kp.of_below (below_step D8.out J10.out))) (HTt.out.kp (Kp.of_below (below_step C8.out J10.out)))).mono ?_
      rintro e w11 ⟨rfl, n11, hw11⟩
      have J11 := hid (below_step J10.out (drawn_below hw11))
      clear hw11
      rw [decide_eq_true rfl]
      have y7 := (Kp.of_below (below_step D8.out J11.out)).cell _ _ HMk.out
      have y9 := (Kp.of_below J11.out).cell _ _ HM9.out
      have hlt77 : t.length < t.length + 1 := by omega
      go_wp2
      go_ret
      exact ⟨rfl, below_step C8.out J11.out⟩

end Go.Proofs.YtfeeafkfjngemaaGreatDoor
