/- What the document's Laid and Apply answer. -/
import Derived.Test.YtifpanfgojfbkaaDoorTRefE
import Derived.Test.YtifpanfgojfbkaaDoorTApplyC
import Derived.Test.YtifpanfgojfbkaaDoorTShown
namespace Go.Proofs.YtifpanfgojfbkaaDoor
open Go.RowKit Go.Maps Go.BigFrame

set_option maxRecDepth 100000 in
set_option maxHeartbeats 1600000 in
theorem refLaid_any (bv v : Value) (s : List Bd) (t : List Int) (w : World) (hB : Bs w bv s) (h : Is w v t) (_hb : t.length * 8 ≤ 140737488351232) :
    Calls Tryd.prog 33 #[bv, v, .int .i64 512] w fun e w' => ∃ v', e = .returned (.tuple #[v', .bool (layGo (fun n => s.lookup n) [] t).isSome]) ∧ OwI w' w.heap.size v' ((layGo (fun n => s.lookup n) [] t).getD []) ∧ Below w.heap.size w w' := by
  obtain ⟨ao, cap, rfl, hao, hca, q0⟩ := Row.flat h
  unfold maxLen at hca
  have HT := hid h
  have HBs := hid hB
  clear h q0 hB
  go_enter Tryd.func33, Tryd.ntmps33
  go_wp2
  go_loopw [8, 9] (fun x i wr => ∃ (k : Nat) (o : List Int), k ≤ t.length ∧ i = .int .i64 k ∧ layGo (fun n => s.lookup n) [] t = layGo (fun n => s.lookup n) o (t.drop k) ∧ o.length ≤ 512 ∧ OwI wr w.heap.size x o ∧ Below w.heap.size w wr) (fun _ i _ => t.length - (intOf i).toNat)
  case atStart => exact ⟨0, [], Nat.zero_le _, rfl, rfl, by simp, ⟨fun k x hk => (by simp at hk), empty_row _ (Nat.le_refl _)⟩, below_alloc _⟩
  case round =>
    obtain ⟨k, o, hk, rfl, hgo, hol, how, hbl⟩ := hrel
    obtain ⟨bo, bc, rfl, hbc1, hbc2⟩ := how.shape
    unfold maxLen at hbc2
    have HGo := hid hgo
    have HOw := hid how
    have HB := hid hbl
    clear hgo how
    by_cases hlt : k < t.length
    · obtain ⟨ga, off, c, rfl, hx1, hx2, hx3, hx4⟩ := (HT.out.kp (Kp.of_below hbl)).at hlt
      have HDr : Hid (t.drop k = c :: t.drop (k + 1)) := drop_get hx1
      have HOne := hid (one_row hx2 hx3 hx4 (show 1 ≤ cap - k by omega) (show cap - k ≤ maxLen by unfold maxLen; omega))
      clear hx1 hbl
      by_cases hc0 : c < 0
      · have hwn : IntKind.i64.wrap (-1 - c) = -1 - c := IntWalk.i64_in _ ⟨by omega, by omega⟩
        go_wp2_with fail
        refine (refBound_any bv s (-1 - c) wr (HBs.out.kp (Kp.of_below HB.out))).mono ?_
        rintro e w2 ⟨u, rfl, hu, hw⟩
        have hw8 := hw.symm
        subst hw8
        clear hw
        have HU := hid hu
        clear hu
        cases hlk : s.lookup (-1 - c) with
        | none =>
        have HPi : Hid (piece (fun n => s.lookup n) c = [c]) := by show (if c < 0 then (s.lookup (-1 - c)).getD [c] else [c]) = _; rw [if_pos hc0, hlk]; rfl
        by_cases hbig : 512 < o.length + 1
        · have HE : Hid (layGo (fun n => s.lookup n) [] t = none) := by show _ = _; rw [HGo.out, HDr.out, layGo, HPi.out, if_pos (by simp; omega)]
          have hbg : (512 : Int) - (o.length : Int) < (1 : Int) := by omega
          have hbw : IntKind.i64.wrap (512 - (o.length : Int)) = 512 - (o.length : Int) := IntWalk.i64_in _ ⟨by omega, by omega⟩
          go_wp2
          go_ret2
          exact ⟨_, by rw [HE.out]; rfl, by rw [HE.out]; exact nilI _ _, HB.out⟩
        · have hbg : ¬ (512 : Int) - (o.length : Int) < (1 : Int) := by omega
          have hbw : IntKind.i64.wrap (512 - (o.length : Int)) = 512 - (o.length : Int) := IntWalk.i64_in _ ⟨by omega, by omega⟩
          have HE : Hid (layGo (fun n => s.lookup n) [] t = layGo (fun n => s.lookup n) (o ++ [c]) (t.drop (k + 1))) := by show _ = _; rw [HGo.out, HDr.out, layGo, HPi.out, if_neg (by simp; omega)]
          obtain ⟨v4, w4, hr4, ho4, hg4⟩ := join_ints 30 HOw.out HOne.out HB.out.size (by simp; omega)
          have HR4 := hid hr4
          have HO4 := hid ho4
          have HOl : Hid ((o ++ [c]).length ≤ 512) := by show _ ≤ _; rw [List.length_append]; simp; omega
          have HB4 : Hid (Below w.heap.size w w4) := HB.out.grown hg4 HB.out.size (fun j hj => own_blk HOw.out.2 hj)
          clear hr4 ho4 hg4
          go_wp2_with (first
            | (at_builtin; refine wpList_append_run rfl _ _ _ rfl _ _ rfl rfl HR4.out ?_))
          go_roundw
          case rel => exact ⟨k + 1, o ++ [c], by omega, by go_num, HE.out, HOl.out, HO4.out, HB4.out⟩
          case measure => simp [intOf]; omega
        | some y =>
        have HPi : Hid (piece (fun n => s.lookup n) c = y) := by show (if c < 0 then (s.lookup (-1 - c)).getD [c] else [c]) = _; rw [if_pos hc0, hlk]; rfl
        obtain ⟨hy1, hy2⟩ := HU.out y hlk
        obtain ⟨ya, yc, rfl, hyc1, hyc2, _⟩ := Row.flat hy1
        unfold maxLen at hyc2
        have HIy := hid hy1
        clear hy1 hlk
        by_cases hbig : 512 < o.length + y.length
        · have HE : Hid (layGo (fun n => s.lookup n) [] t = none) := by show _ = _; rw [HGo.out, HDr.out, layGo, HPi.out, if_pos (by omega)]
          have hbg : (512 : Int) - (o.length : Int) < (y.length : Int) := by omega
          have hbw : IntKind.i64.wrap (512 - (o.length : Int)) = 512 - (o.length : Int) := IntWalk.i64_in _ ⟨by omega, by omega⟩
          go_wp2
          go_ret2
          exact ⟨_, by rw [HE.out]; rfl, by rw [HE.out]; exact nilI _ _, HB.out⟩
        · have hbg : ¬ (512 : Int) - (o.length : Int) < (y.length : Int) := by omega
          have hbw : IntKind.i64.wrap (512 - (o.length : Int)) = 512 - (o.length : Int) := IntWalk.i64_in _ ⟨by omega, by omega⟩
          have HE : Hid (layGo (fun n => s.lookup n) [] t = layGo (fun n => s.lookup n) (o ++ y) (t.drop (k + 1))) := by show _ = _; rw [HGo.out, HDr.out, layGo, HPi.out, if_neg (by omega)]
          obtain ⟨v4, w4, hr4, ho4, hg4⟩ := join_ints 30 HOw.out HIy.out HB.out.size (by omega)
          have HR4 := hid hr4
          have HO4 := hid ho4
          have HOl : Hid ((o ++ y).length ≤ 512) := by show _ ≤ _; rw [List.length_append]; omega
          have HB4 : Hid (Below w.heap.size w w4) := HB.out.grown hg4 HB.out.size (fun j hj => own_blk HOw.out.2 hj)
          clear hr4 ho4 hg4
          go_wp2_with (first
            | (at_builtin; refine wpList_append_run rfl _ _ _ rfl _ _ rfl rfl HR4.out ?_))
          go_roundw
          case rel => exact ⟨k + 1, o ++ y, by omega, by go_num, HE.out, HOl.out, HO4.out, HB4.out⟩
          case measure => simp [intOf]; omega
      · have HPi : Hid (piece (fun n => s.lookup n) c = [c]) := by show _ = _; unfold piece; rw [if_neg hc0]
        by_cases hbig : 512 < o.length + 1
        · have HE : Hid (layGo (fun n => s.lookup n) [] t = none) := by show _ = _; rw [HGo.out, HDr.out, layGo, HPi.out, if_pos (by simp; omega)]
          have hbg : (512 : Int) - (o.length : Int) < (1 : Int) := by omega
          have hbw : IntKind.i64.wrap (512 - (o.length : Int)) = 512 - (o.length : Int) := IntWalk.i64_in _ ⟨by omega, by omega⟩
          go_wp2
          go_ret2
          exact ⟨_, by rw [HE.out]; rfl, by rw [HE.out]; exact nilI _ _, HB.out⟩
        · have hbg : ¬ (512 : Int) - (o.length : Int) < (1 : Int) := by omega
          have hbw : IntKind.i64.wrap (512 - (o.length : Int)) = 512 - (o.length : Int) := IntWalk.i64_in _ ⟨by omega, by omega⟩
          have HE : Hid (layGo (fun n => s.lookup n) [] t = layGo (fun n => s.lookup n) (o ++ [c]) (t.drop (k + 1))) := by show _ = _; rw [HGo.out, HDr.out, layGo, HPi.out, if_neg (by simp; omega)]
          obtain ⟨v4, w4, hr4, ho4, hg4⟩ := join_ints 30 HOw.out HOne.out HB.out.size (by simp; omega)
          have HR4 := hid hr4
          have HO4 := hid ho4
          have HOl : Hid ((o ++ [c]).length ≤ 512) := by show _ ≤ _; rw [List.length_append]; simp; omega
          have HB4 : Hid (Below w.heap.size w w4) := HB.out.grown hg4 HB.out.size (fun j hj => own_blk HOw.out.2 hj)
          clear hr4 ho4 hg4
          go_wp2_with (first
            | (at_builtin; refine wpList_append_run rfl _ _ _ rfl _ _ rfl rfl HR4.out ?_))
          go_roundw
          case rel => exact ⟨k + 1, o ++ [c], by omega, by go_num, HE.out, HOl.out, HO4.out, HB4.out⟩
          case measure => simp [intOf]; omega
    · have HE : Hid (layGo (fun n => s.lookup n) [] t = some o) := by show _ = _; rw [HGo.out, List.drop_of_length_le (by omega)]; rfl
      go_wp2
      go_ret2
      exact ⟨_, by rw [HE.out]; rfl, by rw [HE.out]; exact HOw.out, HB.out⟩

theorem look_rise : ∀ {s : List Bd}, s.Pairwise (fun a b => a.1 < b.1) → ∀ n, s.lookup n = s.reverse.lookup n
  | [], _, _ => rfl
  | (x, t) :: s, h, n => by
    obtain ⟨h1, h2⟩ := List.pairwise_cons.1 h
    rw [List.reverse_cons, List.lookup_cons]
    have ih := look_rise h2 n
    have happ : ∀ (l : List Bd), (l ++ [(x, t)]).lookup n = (match l.lookup n with | some y => some y | none => if n == x then some t else none) := by
      intro l
      induction l with
      | nil =>
        rw [List.nil_append, List.lookup_cons]
        cases n == x <;> rfl
      | cons a l il =>
        obtain ⟨k, v⟩ := a
        rw [List.cons_append, List.lookup_cons, List.lookup_cons]
        cases n == k with
        | true => rfl
        | false => exact il
    rw [happ, ← ih]
    cases hk : n == x with
    | true =>
      rw [beq_iff_eq] at hk
      subst hk
      cases hl : s.lookup n with
      | none => rfl
      | some y =>
        have hm := lookup_mem hl
        have := h1 _ hm
        simp at this
    | false =>
      show s.lookup n = _
      cases s.lookup n <;> rfl

theorem layGo_congr {f g : Int → Option (List Int)} (h : ∀ n, f n = g n) : layGo f = layGo g := by
  have : f = g := funext h
  rw [this]

set_option maxRecDepth 100000 in
set_option maxHeartbeats 1600000 in
theorem refApply_any (sv bv v : Value) (sig : List Sy) (s : List Bd) (t : List Int) (w : World) (hs : Sg w sv sig) (hB : Bs w bv s) (h : Is w v t) (hb : t.length * 8 ≤ 140737488351232) :
    Calls Tryd.prog 15 #[sv, bv, v] w fun e w' => ∃ v', e = .returned (.tuple #[v', .int .i64 (applyE sig s t)]) ∧ OwI w' w.heap.size v' (applyL sig s t) ∧ Below w.heap.size w w' := by
  have HS := hid hs
  have HBs := hid hB
  have HI := hid h
  clear hs hB h
  go_enter Tryd.func15, Tryd.ntmps15
  go_wp2_with fail
  refine (refBinds_any sv bv sig s w HS.out HBs.out).mono ?_
  rintro e w1 ⟨rfl, hb1⟩
  have HB1 := hid hb1
  clear hb1
  by_cases he : bindE sig s = 0
  · rw [he]
    go_wp2_with fail
    refine (refCheck_any sv v sig t w1 (HS.out.kp (Kp.of_below HB1.out)) (HI.out.kp (Kp.of_below HB1.out)) hb).mono ?_
    rintro e w2 ⟨rfl, hb2⟩
    have HB2 := hid (below_step HB1.out hb2)
    clear hb2
    by_cases hte : termE sig t = 0
    · rw [hte]
      have hrise : s.Pairwise (fun a b => a.1 < b.1) := (bind_rise sig s none (by
        unfold bindE at he
        split at he
        · exact he
        · rename_i h0; exact absurd he h0)).2
      have hly : layGo (fun n => s.lookup n) = layGo (bnd s) := layGo_congr fun n => look_rise hrise n
      have HE : Hid (applyE sig s t = if (layGo (bnd s) [] t).isSome then 0 else 2) := by show _ = _; unfold applyE layE; rw [if_pos he, if_pos hte]
      have HL : Hid (applyL sig s t = (layGo (bnd s) [] t).getD []) := by show _ = _; unfold applyL layL; rw [if_pos he, if_pos hte]
      have HC := hid (refLaid_any bv v s t w2 (HBs.out.kp (Kp.of_below HB2.out)) (HI.out.kp (Kp.of_below HB2.out)) hb)
      rw [hly] at HC
      clear he hte hrise hly
      go_wp2_with fail
      refine HC.out.mono ?_
      rintro e w3 ⟨v', rfl, ho, hb3⟩
      have HO := hid (ho.mono HB2.out.size)
      have HB3 := hid (below_step HB2.out hb3)
      clear ho hb3 HC
      cases hl : layGo (bnd s) [] t with
      | none =>
        have HE2 : Hid (applyE sig s t = 2) := by show _ = _; rw [HE.out, hl]; rfl
        have HL2 : Hid (applyL sig s t = []) := by show _ = _; rw [HL.out, hl]; rfl
        clear hl
        go_wp2
        go_ret2
        exact ⟨_, by rw [HE2.out]; rfl, by rw [HL2.out]; exact nilI _ _, HB3.out⟩
      | some y =>
        have HE2 : Hid (applyE sig s t = 0) := by show _ = _; rw [HE.out, hl]; rfl
        have HL2 : Hid (applyL sig s t = y) := by show _ = _; rw [HL.out, hl]; rfl
        rw [hl] at HO
        have HO2 : Hid (OwI w3 w.heap.size v' y) := HO.out
        clear hl HO
        go_wp2
        go_ret2
        exact ⟨_, by rw [HE2.out]; rfl, by rw [HL2.out]; exact HO2.out, HB3.out⟩
    · have HE : Hid (applyE sig s t = termE sig t) := by show _ = _; unfold applyE; rw [if_pos he, if_neg hte]
      have HL : Hid (applyL sig s t = []) := by show _ = _; unfold applyL; rw [if_pos he, if_neg hte]
      clear he
      generalize termE sig t = E at hte HE ⊢
      have heb : (E != 0) = true := by simpa using hte
      go_wp2
      go_ret2
      exact ⟨_, by rw [HE.out]; rfl, by rw [HL.out]; exact nilI _ _, HB2.out⟩
  · have HE : Hid (applyE sig s t = bindE sig s) := by show _ = _; unfold applyE; rw [if_neg he]
    have HL : Hid (applyL sig s t = []) := by show _ = _; unfold applyL; rw [if_neg he]
    generalize bindE sig s = E at he HE ⊢
    have heb : (E != 0) = true := by simpa using he
    go_wp2
    go_ret2
    exact ⟨_, by rw [HE.out]; rfl, by rw [HL.out]; exact nilI _ _, HB1.out⟩

end Go.Proofs.YtifpanfgojfbkaaDoor
