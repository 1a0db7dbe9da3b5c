/- Texts of the proof, one behind the other. -/
import Derived.Test.YthjghdpiokpnfaaDoorOwn3
import Derived.Test.YthjghdpiokpnfaaDoorOwn2
/- The calls of the examples. -/
namespace Go.Proofs.YthjghdpiokpnfaaDoor
open Go.RowKit Go.Maps Go.BigFrame

theorem b0 {w : World} : Below w.heap.size w w := Below.refl _ _
theorem b1 {w w' : World} {o : Obj} (h : Below w.heap.size w w') : Below w.heap.size w (w'.alloc o) := below_step h (below_alloc o)

def EIs (w : World) (g : Nat) : Nat → List Int → Prop
  | _, [] => True
  | o, x :: r => EI w g o x ∧ EIs w g (o + 1) r

theorem EIs.get {w : World} {g : Nat} : ∀ {p : List Int} {o k : Nat} {m : Int}, EIs w g o p → p[k]? = some m → EI w g (o + k * 1) m
  | [], _, _, _, _, h => by simp at h
  | x :: r, o, 0, m, h, hk => by
    simp at hk
    subst hk
    exact h.1
  | x :: r, o, k + 1, m, h, hk => by
    have := EIs.get h.2 (k := k) (by simpa using hk)
    rw [show o + (k + 1) * 1 = o + 1 + k * 1 by omega]
    exact this

theorem is_lit {w : World} {g : Nat} {p : List Int} (hg : g < w.heap.size) (hl : p.length ≤ 9) (h : EIs w g 0 p) : Is w (.slice (some ⟨g, 0, none⟩) p.length p.length) p := by
  refine ⟨_, p.length, rfl, Nat.le_refl _, by unfold maxLen; omega, fun _ => ⟨g, 0, rfl, hg, fun k m hk => ?_⟩⟩
  have := h.get hk
  rwa [Nat.zero_add] at this ⊢

theorem cell_newg {w : World} {t : TypeId} {vs : Array Value} {g k : Nat} {v : Value} (hg : g = w.heap.size) (hv : vs[k]? = some v) : (w.alloc (.cells vs t)).cell? ⟨g, k, none⟩ = some v := by
  subst hg
  exact cell_new hv

theorem ei {w : World} {g o : Nat} {x : Int} (h1 : -9223372036854775808 ≤ x) (h2 : x ≤ 9223372036854775807) (h : w.cell? ⟨g, o, none⟩ = some (.int .i64 x)) : EI w g o x := ⟨h1, h2, h⟩

theorem w_apply (w : World) : ∀ W, W = ((((w.alloc (Obj.cells #[Value.int IntKind.i64 1, Value.int IntKind.i64 (-2)] 3)).alloc (Obj.cells #[Value.int IntKind.i64 0] 3)).alloc (Obj.cells #[Value.int IntKind.i64 0, Value.slice (some ⟨w.heap.size, 0, none⟩) 2 2, Value.int IntKind.i64 1, Value.slice (some ⟨w.heap.size + 1, 0, none⟩) 1 1] 121)).alloc (Obj.cells #[Value.int IntKind.i64 2, Value.int IntKind.i64 (-1), Value.int IntKind.i64 (-2)] 3)) →
    Is W (.slice (some ⟨w.heap.size + 1 + 1 + 1, 0, none⟩) 3 3) [2, -1, -2] ∧ Bs W (.slice (some ⟨w.heap.size + 1 + 1, 0, none⟩) 2 2) [(0, [1, -2]), (1, [0])] ∧ Below w.heap.size w W := by
  intro W hW
  have hsz : W.heap.size = w.heap.size + 4 := by rw [hW]; simp
  have i1 : Is W (.slice (some ⟨w.heap.size, 0, none⟩) 2 2) [1, -2] := by
    refine is_lit (p := [1, -2]) (by omega) (by decide) ⟨ei (by omega) (by omega) ?_, ei (by omega) (by omega) ?_, trivial⟩ <;> (rw [hW]; repeat (first | (refine cell_newg ?_ rfl; simp; done) | refine cell_old ?_))
  have i2 : Is W (.slice (some ⟨w.heap.size + 1, 0, none⟩) 1 1) [0] := by
    refine is_lit (p := [0]) (by omega) (by decide) ⟨ei (by omega) (by omega) ?_, trivial⟩ <;> (rw [hW]; repeat (first | (refine cell_newg ?_ rfl; simp; done) | refine cell_old ?_))
  refine ⟨?_, ?_, by rw [hW]; exact b1 (b1 (b1 (b1 b0)))⟩
  · refine is_lit (p := [2, -1, -2]) (by omega) (by decide) ⟨ei (by omega) (by omega) ?_, ei (by omega) (by omega) ?_, ei (by omega) (by omega) ?_, trivial⟩ <;> (rw [hW]; repeat (first | (refine cell_newg ?_ rfl; simp; done) | refine cell_old ?_))
  · refine bs_lit (p := [(0, [1, -2]), (1, [0])]) (by omega) (by decide) ⟨⟨by decide, by decide, by decide, ?_, _, ?_, i1⟩, ⟨by decide, by decide, by decide, ?_, _, ?_, i2⟩, trivial⟩ <;> (rw [hW]; repeat (first | (refine cell_newg ?_ rfl; simp; done) | refine cell_old ?_))

end Go.Proofs.YthjghdpiokpnfaaDoor

/- What the document's Check of binds, bound, Laid and Apply answer. -/
namespace Go.Proofs.YthjghdpiokpnfaaDoor
open Go.RowKit Go.Maps Go.BigFrame

set_option maxRecDepth 100000 in
set_option maxHeartbeats 1600000 in
theorem refBinds_any (sv bv : Value) (sig : List Sy) (s : List Bd) (w : World) (hs : Sg w sv sig) (h : Bs w bv s) :
    Calls Tryd.prog 31 #[sv, bv] w fun e w' => e = .returned (.int .i64 (bindE sig s)) ∧ Below w.heap.size w w' := by
  obtain ⟨so, sc, rfl, hso, hsc, _⟩ := Row.flat h
  unfold maxLen at hsc
  have HS := hid hs
  have HI := hid h
  clear hs h
  go_enter Tryd.func31, Tryd.ntmps31
  go_wp2_with fail
  refine (refCheckSig_any sv sig w HS.out).mono ?_
  rintro e w1 ⟨rfl, hb1⟩
  have HB := hid hb1
  clear hb1
  by_cases he : sigE sig = 0
  · have HF : Hid (bindE sig s = bindGo sig none s) := by show _ = _; unfold bindE; rw [if_pos he]
    rw [he]
    clear he
    go_wp2
    go_loopw [5, 6] (fun x i wr => ∃ k : Nat, k ≤ s.length ∧ x = .int .i64 0 ∧ i = .int .i64 k ∧ bindGo sig none s = bindGo sig (ahead s k) (s.drop k) ∧ Below w.heap.size w wr) (fun _ i _ => s.length - (intOf i).toNat)
    case atStart => exact ⟨0, Nat.zero_le _, rfl, rfl, rfl, HB.out⟩
    case round =>
      obtain ⟨k, hk, rfl, rfl, hgo, hbl⟩ := hrel
      have HG : Hid (bindE sig s = bindGo sig (ahead s k) (s.drop k)) := HF.out.trans hgo
      have HBl := hid hbl
      clear hgo
      by_cases hlt : k < s.length
      · have HSr := hid (HS.out.kp (Kp.of_below hbl))
        have HIr := hid (HI.out.kp (Kp.of_below hbl))
        obtain ⟨g, off, x, ba, t, bc, rfl, hm, hc0, hc1, hit, hx1, hx2, hx3⟩ := HIr.out.at hlt
        have HIt := hid hit
        have HD : Hid (bindE sig s = if isVarB x then (if (ahead s k).any (fun y => decide (x ≤ y)) then 41 else if termE sig t = 0 then bindGo sig (some x) (s.drop (k + 1)) else termE sig t) else 40) := by
          show _ = _
          rw [HG.out, drop_get hm]
          rfl
        have HN : Hid (ahead s (k + 1) = some x) := by show (s[k]?).map (·.1) = _; rw [hm]; rfl
        clear hm hit HG hbl
        cases hv : isVarB x
        · have HE : Hid (bindE sig s = 40) := by show _ = _; rw [HD.out, hv]; rfl
          by_cases hx0 : x < 0
          · go_wp2
            go_ret
            exact ⟨ret1i HE.out.symm, HBl.out⟩
          · have hx9 : 1048576 ≤ x := by
              by_cases h9 : 1048576 ≤ x
              · exact h9
              · rw [isVarB_iff.2 ⟨by omega, by omega⟩] at hv
                cases hv
            go_wp2
            go_ret
            exact ⟨ret1i HE.out.symm, HBl.out⟩
        have HD2 : Hid (bindE sig s = if (ahead s k).any (fun y => decide (x ≤ y)) then 41 else if termE sig t = 0 then bindGo sig (some x) (s.drop (k + 1)) else termE sig t) := by
          show _ = _; rw [HD.out, hv, if_pos rfl]
        have hxv := isVarB_iff.1 hv
        have hx0 : ¬ x < 0 := by omega
        have hx9 : ¬ 1048576 ≤ x := by omega
        clear HD hv hxv
        by_cases hk0 : k = 0
        · subst hk0
          rw [Nat.zero_mul, Nat.add_zero] at hc0
          rw [Nat.zero_mul, Nat.add_zero] at hc1
          have HD3 : Hid (bindE sig s = if termE sig t = 0 then bindGo sig (some x) (s.drop 1) else termE sig t) := by show _ = _; rw [HD2.out]; rfl
          clear HD2
          go_wp2
          go_quiet (fail)
          have HBq := hid (below_drewN (Below.refl wr.heap.size wr) nq)
          go_wp2_with fail
          refine (refCheck_any sv _ sig t _ (HSr.out.kp (Kp.of_below HBq.out)) (HIt.out.kp (Kp.of_below HBq.out)) hx3).mono ?_
          rintro e w2 ⟨rfl, hb2⟩
          have HB2 := hid (below_step HBl.out (below_step HBq.out hb2))
          clear hb2
          by_cases hte : termE sig t = 0
          · have HE : Hid (bindGo sig none s = bindGo sig (ahead s (0 + 1)) (s.drop (0 + 1))) := by show _ = _; rw [← HF.out, HD3.out, if_pos hte, HN.out]
            rw [hte]
            clear hte
            go_wp2
            go_roundw
            case rel => exact ⟨0 + 1, by omega, rfl, by go_num, HE.out, HB2.out⟩
            case measure => simp [intOf]; omega
          · have HE : Hid (bindE sig s = termE sig t) := by show _ = _; rw [HD3.out, if_neg hte]
            generalize termE sig t = E at hte HE ⊢
            have heb : (E != 0) = true := by simpa using hte
            go_wp2
            go_ret
            exact ⟨ret1i HE.out.symm, HB2.out⟩
        · obtain ⟨j, rfl⟩ : ∃ j, k = j + 1 := ⟨k - 1, by omega⟩
          clear hk0
          obtain ⟨g', off', y, ya, u, yc, hq, hm2, he0, he1, _, hy1, hy2, _⟩ := HIr.out.at (k := j) (by omega)
          obtain ⟨rfl, rfl⟩ : g = g' ∧ off = off' := by simpa using hq
          have HA : Hid (ahead s (j + 1) = some y) := by show (s[j]?).map (·.1) = _; rw [hm2]; rfl
          have hg0 : (0 : Int) < (j : Int) + 1 := by omega
          have hjl : j < s.length := by omega
          have hjw : IntKind.i64.wrap (j : Int) = (j : Int) := IntWalk.i64_in _ ⟨by omega, by omega⟩
          clear hm2 hq he1
          by_cases hxy : x ≤ y
          · have HE : Hid (bindE sig s = 41) := by show _ = _; rw [HD2.out, HA.out]; simp [hxy]
            go_wp2
            go_quiet (fail)
            go_wp2
            go_ret
            exact ⟨ret1i HE.out.symm, below_drewN HBl.out _⟩
          have HD3 : Hid (bindE sig s = if termE sig t = 0 then bindGo sig (some x) (s.drop (j + 1 + 1)) else termE sig t) := by show _ = _; rw [HD2.out, HA.out]; simp [hxy]
          clear HD2
          go_wp2
          go_quiet (fail)
          have HBq := hid (below_drewN (Below.refl wr.heap.size wr) nq)
          go_wp2_with fail
          refine (refCheck_any sv _ sig t _ (HSr.out.kp (Kp.of_below HBq.out)) (HIt.out.kp (Kp.of_below HBq.out)) hx3).mono ?_
          rintro e w2 ⟨rfl, hb2⟩
          have HB2 := hid (below_step HBl.out (below_step HBq.out hb2))
          clear hb2
          by_cases hte : termE sig t = 0
          · have HE : Hid (bindGo sig none s = bindGo sig (ahead s (j + 1 + 1)) (s.drop (j + 1 + 1))) := by show _ = _; rw [← HF.out, HD3.out, if_pos hte, HN.out]
            rw [hte]
            clear hte
            go_wp2
            go_roundw
            case rel => exact ⟨j + 1 + 1, by omega, rfl, by go_num, HE.out, HB2.out⟩
            case measure => simp [intOf]; omega
          · have HE : Hid (bindE sig s = termE sig t) := by show _ = _; rw [HD3.out, if_neg hte]
            generalize termE sig t = E at hte HE ⊢
            have heb : (E != 0) = true := by simpa using hte
            go_wp2
            go_ret
            exact ⟨ret1i HE.out.symm, HB2.out⟩
      · have hke : k = s.length := by omega
        subst hke
        have HE : Hid (bindE sig s = 0) := by show _ = _; rw [HG.out, List.drop_length]; rfl
        go_wp2
        go_ret
        exact ⟨ret1i HE.out.symm, hbl⟩
  · have HF : Hid (bindE sig s = sigE sig) := by show _ = _; unfold bindE; rw [if_neg he]
    generalize sigE sig = E at he HF ⊢
    have heb : (E != 0) = true := by simpa using he
    go_wp2
    go_ret
    exact ⟨ret1i HF.out.symm, HB.out⟩

set_option maxRecDepth 100000 in
set_option maxHeartbeats 800000 in
theorem refBound_any (bv : Value) (s : List Bd) (n : Int) (w : World) (h : Bs w bv s) :
    Calls Tryd.prog 50 #[bv, .int .i64 n] w fun e w' => ∃ u, e = .returned (.tuple #[u, .bool (s.lookup n).isSome]) ∧ (∀ x, s.lookup n = some x → Is w u x ∧ x.length * 8 ≤ 140737488351232) ∧ w' = w := by
  obtain ⟨so, sc, rfl, hso, hsc, _⟩ := Row.flat h
  unfold maxLen at hsc
  have HI := hid h
  clear h
  go_enter Tryd.func50, Tryd.ntmps50
  go_wp2
  go_loopw [6] (fun i wr => ∃ k : Nat, k ≤ s.length ∧ i = .int .i64 k ∧ s.lookup n = (s.drop k).lookup n ∧ wr = w) (fun i _ => s.length - (intOf i).toNat)
  case atStart => exact ⟨0, Nat.zero_le _, rfl, rfl, rfl⟩
  case round =>
    obtain ⟨k, hk, rfl, hlk, hw⟩ := hrel
    have hw8 := hw.symm
    subst hw8
    have HL := hid hlk
    clear hlk hw
    by_cases hlt : k < s.length
    · obtain ⟨g, off, x, ba, t, bc, rfl, hm, hc0, hc1, hit, hx1, hx2, hx3⟩ := HI.out.at hlt
      have HIt := hid hit
      have HL2 : Hid (s.lookup n = List.lookup n ((x, t) :: s.drop (k + 1))) := by show _ = _; rw [HL.out, drop_get hm]
      clear hm hit HL
      by_cases hxn : x = n
      · have hb : (x == n) = true := by rw [beq_iff_eq]; exact hxn
        have HE : Hid (s.lookup n = some t) := by show _ = _; rw [HL2.out, List.lookup_cons, show (n == x) = true by rw [beq_iff_eq]; exact hxn.symm]
        go_wp2
        go_ret2
        exact ⟨_, by rw [HE.out]; rfl, fun u hu => (by rw [HE.out] at hu; cases hu; exact ⟨HIt.out, hx3⟩), rfl⟩
      · have hb : (x == n) = false := by rw [beq_eq_false_iff_ne]; exact hxn
        have HE : Hid (s.lookup n = (s.drop (k + 1)).lookup n) := by show _ = _; rw [HL2.out, List.lookup_cons, show (n == x) = false by rw [beq_eq_false_iff_ne]; exact fun e => hxn e.symm]
        go_wp2
        go_roundw
        case rel => exact ⟨k + 1, by omega, by go_num, HE.out, trivial⟩
        case measure => simp [intOf]; omega
    · have HE : Hid (s.lookup n = none) := by show _ = _; rw [HL.out, List.drop_of_length_le (by omega)]; rfl
      go_wp2
      go_ret2
      exact ⟨_, by rw [HE.out]; rfl, fun u hu => (by rw [HE.out] at hu; cases hu), rfl⟩

end Go.Proofs.YthjghdpiokpnfaaDoor

/- What the document's Laid and Apply answer. -/
namespace Go.Proofs.YthjghdpiokpnfaaDoor
open Go.RowKit Go.Maps Go.BigFrame

set_option maxRecDepth 100000 in
set_option maxHeartbeats 1600000 in
theorem refLaid_any (bv v : Value) (s : List Bd) (t : List Int) (w : World) (hB : Bs w bv s) (h : Is w v t) (_hb : t.length * 8 ≤ 140737488351232) :
    Calls Tryd.prog 32 #[bv, v, .int .i64 512] w fun e w' => ∃ v', e = .returned (.tuple #[v', .bool (layGo (fun n => s.lookup n) [] t).isSome]) ∧ OwI w' w.heap.size v' ((layGo (fun n => s.lookup n) [] t).getD []) ∧ Below w.heap.size w w' := by
  obtain ⟨ao, cap, rfl, hao, hca, q0⟩ := Row.flat h
  unfold maxLen at hca
  have HT := hid h
  have HBs := hid hB
  clear h q0 hB
  go_enter Tryd.func32, Tryd.ntmps32
  go_wp2
  go_loopw [8, 9] (fun x i wr => ∃ (k : Nat) (o : List Int), k ≤ t.length ∧ i = .int .i64 k ∧ layGo (fun n => s.lookup n) [] t = layGo (fun n => s.lookup n) o (t.drop k) ∧ o.length ≤ 512 ∧ OwI wr w.heap.size x o ∧ Below w.heap.size w wr) (fun _ i _ => t.length - (intOf i).toNat)
  case atStart => exact ⟨0, [], Nat.zero_le _, rfl, rfl, by simp, ⟨fun k x hk => (by simp at hk), empty_row _ (Nat.le_refl _)⟩, below_alloc _⟩
  case round =>
    obtain ⟨k, o, hk, rfl, hgo, hol, how, hbl⟩ := hrel
    obtain ⟨bo, bc, rfl, hbc1, hbc2⟩ := how.shape
    unfold maxLen at hbc2
    have HGo := hid hgo
    have HOw := hid how
    have HB := hid hbl
    clear hgo how
    by_cases hlt : k < t.length
    · obtain ⟨ga, off, c, rfl, hx1, hx2, hx3, hx4⟩ := (HT.out.kp (Kp.of_below hbl)).at hlt
      have HDr : Hid (t.drop k = c :: t.drop (k + 1)) := drop_get hx1
      have HOne := hid (one_row hx2 hx3 hx4 (show 1 ≤ cap - k by omega) (show cap - k ≤ maxLen by unfold maxLen; omega))
      clear hx1 hbl
      by_cases hc0 : c < 0
      · have hwn : IntKind.i64.wrap (-1 - c) = -1 - c := IntWalk.i64_in _ ⟨by omega, by omega⟩
        go_wp2_with fail
        refine (refBound_any bv s (-1 - c) wr (HBs.out.kp (Kp.of_below HB.out))).mono ?_
        rintro e w2 ⟨u, rfl, hu, hw⟩
        have hw8 := hw.symm
        subst hw8
        clear hw
        have HU := hid hu
        clear hu
        cases hlk : s.lookup (-1 - c) with
        | none =>
        have HPi : Hid (piece (fun n => s.lookup n) c = [c]) := by show (if c < 0 then (s.lookup (-1 - c)).getD [c] else [c]) = _; rw [if_pos hc0, hlk]; rfl
        by_cases hbig : 512 < o.length + 1
        · have HE : Hid (layGo (fun n => s.lookup n) [] t = none) := by show _ = _; rw [HGo.out, HDr.out, layGo, HPi.out, if_pos (by simp; omega)]
          have hbg : (512 : Int) - (o.length : Int) < (1 : Int) := by omega
          have hbw : IntKind.i64.wrap (512 - (o.length : Int)) = 512 - (o.length : Int) := IntWalk.i64_in _ ⟨by omega, by omega⟩
          go_wp2
          go_ret2
          exact ⟨_, by rw [HE.out]; rfl, by rw [HE.out]; exact nilI _ _, HB.out⟩
        · have hbg : ¬ (512 : Int) - (o.length : Int) < (1 : Int) := by omega
          have hbw : IntKind.i64.wrap (512 - (o.length : Int)) = 512 - (o.length : Int) := IntWalk.i64_in _ ⟨by omega, by omega⟩
          have HE : Hid (layGo (fun n => s.lookup n) [] t = layGo (fun n => s.lookup n) (o ++ [c]) (t.drop (k + 1))) := by show _ = _; rw [HGo.out, HDr.out, layGo, HPi.out, if_neg (by simp; omega)]
          obtain ⟨v4, w4, hr4, ho4, hg4⟩ := join_ints 24 HOw.out HOne.out HB.out.size (by simp; omega)
          have HR4 := hid hr4
          have HO4 := hid ho4
          have HOl : Hid ((o ++ [c]).length ≤ 512) := by show _ ≤ _; rw [List.length_append]; simp; omega
          have HB4 : Hid (Below w.heap.size w w4) := HB.out.grown hg4 HB.out.size (fun j hj => own_blk HOw.out.2 hj)
          clear hr4 ho4 hg4
          go_wp2_with (first
            | (at_builtin; refine wpList_append_run rfl _ _ _ rfl _ _ rfl rfl HR4.out ?_))
          go_roundw
          case rel => exact ⟨k + 1, o ++ [c], by omega, by go_num, HE.out, HOl.out, HO4.out, HB4.out⟩
          case measure => simp [intOf]; omega
        | some y =>
        have HPi : Hid (piece (fun n => s.lookup n) c = y) := by show (if c < 0 then (s.lookup (-1 - c)).getD [c] else [c]) = _; rw [if_pos hc0, hlk]; rfl
        obtain ⟨hy1, hy2⟩ := HU.out y hlk
        obtain ⟨ya, yc, rfl, hyc1, hyc2, _⟩ := Row.flat hy1
        unfold maxLen at hyc2
        have HIy := hid hy1
        clear hy1 hlk
        by_cases hbig : 512 < o.length + y.length
        · have HE : Hid (layGo (fun n => s.lookup n) [] t = none) := by show _ = _; rw [HGo.out, HDr.out, layGo, HPi.out, if_pos (by omega)]
          have hbg : (512 : Int) - (o.length : Int) < (y.length : Int) := by omega
          have hbw : IntKind.i64.wrap (512 - (o.length : Int)) = 512 - (o.length : Int) := IntWalk.i64_in _ ⟨by omega, by omega⟩
          go_wp2
          go_ret2
          exact ⟨_, by rw [HE.out]; rfl, by rw [HE.out]; exact nilI _ _, HB.out⟩
        · have hbg : ¬ (512 : Int) - (o.length : Int) < (y.length : Int) := by omega
          have hbw : IntKind.i64.wrap (512 - (o.length : Int)) = 512 - (o.length : Int) := IntWalk.i64_in _ ⟨by omega, by omega⟩
          have HE : Hid (layGo (fun n => s.lookup n) [] t = layGo (fun n => s.lookup n) (o ++ y) (t.drop (k + 1))) := by show _ = _; rw [HGo.out, HDr.out, layGo, HPi.out, if_neg (by omega)]
          obtain ⟨v4, w4, hr4, ho4, hg4⟩ := join_ints 24 HOw.out HIy.out HB.out.size (by omega)
          have HR4 := hid hr4
          have HO4 := hid ho4
          have HOl : Hid ((o ++ y).length ≤ 512) := by show _ ≤ _; rw [List.length_append]; omega
          have HB4 : Hid (Below w.heap.size w w4) := HB.out.grown hg4 HB.out.size (fun j hj => own_blk HOw.out.2 hj)
          clear hr4 ho4 hg4
          go_wp2_with (first
            | (at_builtin; refine wpList_append_run rfl _ _ _ rfl _ _ rfl rfl HR4.out ?_))
          go_roundw
          case rel => exact ⟨k + 1, o ++ y, by omega, by go_num, HE.out, HOl.out, HO4.out, HB4.out⟩
          case measure => simp [intOf]; omega
      · have HPi : Hid (piece (fun n => s.lookup n) c = [c]) := by show _ = _; unfold piece; rw [if_neg hc0]
        by_cases hbig : 512 < o.length + 1
        · have HE : Hid (layGo (fun n => s.lookup n) [] t = none) := by show _ = _; rw [HGo.out, HDr.out, layGo, HPi.out, if_pos (by simp; omega)]
          have hbg : (512 : Int) - (o.length : Int) < (1 : Int) := by omega
          have hbw : IntKind.i64.wrap (512 - (o.length : Int)) = 512 - (o.length : Int) := IntWalk.i64_in _ ⟨by omega, by omega⟩
          go_wp2
          go_ret2
          exact ⟨_, by rw [HE.out]; rfl, by rw [HE.out]; exact nilI _ _, HB.out⟩
        · have hbg : ¬ (512 : Int) - (o.length : Int) < (1 : Int) := by omega
          have hbw : IntKind.i64.wrap (512 - (o.length : Int)) = 512 - (o.length : Int) := IntWalk.i64_in _ ⟨by omega, by omega⟩
          have HE : Hid (layGo (fun n => s.lookup n) [] t = layGo (fun n => s.lookup n) (o ++ [c]) (t.drop (k + 1))) := by show _ = _; rw [HGo.out, HDr.out, layGo, HPi.out, if_neg (by simp; omega)]
          obtain ⟨v4, w4, hr4, ho4, hg4⟩ := join_ints 24 HOw.out HOne.out HB.out.size (by simp; omega)
          have HR4 := hid hr4
          have HO4 := hid ho4
          have HOl : Hid ((o ++ [c]).length ≤ 512) := by show _ ≤ _; rw [List.length_append]; simp; omega
          have HB4 : Hid (Below w.heap.size w w4) := HB.out.grown hg4 HB.out.size (fun j hj => own_blk HOw.out.2 hj)
          clear hr4 ho4 hg4
          go_wp2_with (first
            | (at_builtin; refine wpList_append_run rfl _ _ _ rfl _ _ rfl rfl HR4.out ?_))
          go_roundw
          case rel => exact ⟨k + 1, o ++ [c], by omega, by go_num, HE.out, HOl.out, HO4.out, HB4.out⟩
          case measure => simp [intOf]; omega
    · have HE : Hid (layGo (fun n => s.lookup n) [] t = some o) := by show _ = _; rw [HGo.out, List.drop_of_length_le (by omega)]; rfl
      go_wp2
      go_ret2
      exact ⟨_, by rw [HE.out]; rfl, by rw [HE.out]; exact HOw.out, HB.out⟩

theorem look_rise : ∀ {s : List Bd}, s.Pairwise (fun a b => a.1 < b.1) → ∀ n, s.lookup n = s.reverse.lookup n
  | [], _, _ => rfl
  | (x, t) :: s, h, n => by
    obtain ⟨h1, h2⟩ := List.pairwise_cons.1 h
    rw [List.reverse_cons, List.lookup_cons]
    have ih := look_rise h2 n
    have happ : ∀ (l : List Bd), (l ++ [(x, t)]).lookup n = (match l.lookup n with | some y => some y | none => if n == x then some t else none) := by
      intro l
      induction l with
      | nil =>
        rw [List.nil_append, List.lookup_cons]
        cases n == x <;> rfl
      | cons a l il =>
        obtain ⟨k, v⟩ := a
        rw [List.cons_append, List.lookup_cons, List.lookup_cons]
        cases n == k with
        | true => rfl
        | false => exact il
    rw [happ, ← ih]
    cases hk : n == x with
    | true =>
      rw [beq_iff_eq] at hk
      subst hk
      cases hl : s.lookup n with
      | none => rfl
      | some y =>
        have hm := lookup_mem hl
        have := h1 _ hm
        simp at this
    | false =>
      show s.lookup n = _
      cases s.lookup n <;> rfl

theorem layGo_congr {f g : Int → Option (List Int)} (h : ∀ n, f n = g n) : layGo f = layGo g := by
  have : f = g := funext h
  rw [this]

set_option maxRecDepth 100000 in
set_option maxHeartbeats 1600000 in
theorem refApply_any (sv bv v : Value) (sig : List Sy) (s : List Bd) (t : List Int) (w : World) (hs : Sg w sv sig) (hB : Bs w bv s) (h : Is w v t) (hb : t.length * 8 ≤ 140737488351232) :
    Calls Tryd.prog 17 #[sv, bv, v] w fun e w' => ∃ v', e = .returned (.tuple #[v', .int .i64 (applyE sig s t)]) ∧ OwI w' w.heap.size v' (applyL sig s t) ∧ Below w.heap.size w w' := by
  have HS := hid hs
  have HBs := hid hB
  have HI := hid h
  clear hs hB h
  go_enter Tryd.func17, Tryd.ntmps17
  go_wp2_with fail
  refine (refBinds_any sv bv sig s w HS.out HBs.out).mono ?_
  rintro e w1 ⟨rfl, hb1⟩
  have HB1 := hid hb1
  clear hb1
  by_cases he : bindE sig s = 0
  · rw [he]
    go_wp2_with fail
    refine (refCheck_any sv v sig t w1 (HS.out.kp (Kp.of_below HB1.out)) (HI.out.kp (Kp.of_below HB1.out)) hb).mono ?_
    rintro e w2 ⟨rfl, hb2⟩
    have HB2 := hid (below_step HB1.out hb2)
    clear hb2
    by_cases hte : termE sig t = 0
    · rw [hte]
      have hrise : s.Pairwise (fun a b => a.1 < b.1) := (bind_rise sig s none (by
        unfold bindE at he
        split at he
        · exact he
        · rename_i h0; exact absurd he h0)).2
      have hly : layGo (fun n => s.lookup n) = layGo (bnd s) := layGo_congr fun n => look_rise hrise n
      have HE : Hid (applyE sig s t = if (layGo (bnd s) [] t).isSome then 0 else 2) := by show _ = _; unfold applyE layE; rw [if_pos he, if_pos hte]
      have HL : Hid (applyL sig s t = (layGo (bnd s) [] t).getD []) := by show _ = _; unfold applyL layL; rw [if_pos he, if_pos hte]
      have HC := hid (refLaid_any bv v s t w2 (HBs.out.kp (Kp.of_below HB2.out)) (HI.out.kp (Kp.of_below HB2.out)) hb)
      rw [hly] at HC
      clear he hte hrise hly
      go_wp2_with fail
      refine HC.out.mono ?_
      rintro e w3 ⟨v', rfl, ho, hb3⟩
      have HO := hid (ho.mono HB2.out.size)
      have HB3 := hid (below_step HB2.out hb3)
      clear ho hb3 HC
      cases hl : layGo (bnd s) [] t with
      | none =>
        have HE2 : Hid (applyE sig s t = 2) := by show _ = _; rw [HE.out, hl]; rfl
        have HL2 : Hid (applyL sig s t = []) := by show _ = _; rw [HL.out, hl]; rfl
        clear hl
        go_wp2
        go_ret2
        exact ⟨_, by rw [HE2.out]; rfl, by rw [HL2.out]; exact nilI _ _, HB3.out⟩
      | some y =>
        have HE2 : Hid (applyE sig s t = 0) := by show _ = _; rw [HE.out, hl]; rfl
        have HL2 : Hid (applyL sig s t = y) := by show _ = _; rw [HL.out, hl]; rfl
        rw [hl] at HO
        have HO2 : Hid (OwI w3 w.heap.size v' y) := HO.out
        clear hl HO
        go_wp2
        go_ret2
        exact ⟨_, by rw [HE2.out]; rfl, by rw [HL2.out]; exact HO2.out, HB3.out⟩
    · have HE : Hid (applyE sig s t = termE sig t) := by show _ = _; unfold applyE; rw [if_pos he, if_neg hte]
      have HL : Hid (applyL sig s t = []) := by show _ = _; unfold applyL; rw [if_pos he, if_neg hte]
      clear he
      generalize termE sig t = E at hte HE ⊢
      have heb : (E != 0) = true := by simpa using hte
      go_wp2
      go_ret2
      exact ⟨_, by rw [HE.out]; rfl, by rw [HL.out]; exact nilI _ _, HB2.out⟩
  · have HE : Hid (applyE sig s t = bindE sig s) := by show _ = _; unfold applyE; rw [if_neg he]
    have HL : Hid (applyL sig s t = []) := by show _ = _; unfold applyL; rw [if_neg he]
    generalize bindE sig s = E at he HE ⊢
    have heb : (E != 0) = true := by simpa using he
    go_wp2
    go_ret2
    exact ⟨_, by rw [HE.out]; rfl, by rw [HL.out]; exact nilI _ _, HB1.out⟩

end Go.Proofs.YthjghdpiokpnfaaDoor

/- What binds make of a right term is right; two rows of binds in one. -/
namespace Go.Proofs.YthjghdpiokpnfaaDoor
open Go.RowKit Go.Maps

theorem codeD_ge {sig : List Sy} (ha : ArOk sig) {c e : Int} (h : codeD sig c = some e) : -1 ≤ e := by
  unfold codeD at h
  split at h
  · cases h
  · split at h
    · cases h; omega
    · cases hs : sig[c.toNat]? with
      | none => rw [hs] at h; cases h
      | some s =>
        rw [hs] at h
        have := ha s (List.mem_of_getElem? hs)
        simp only [Option.some.injEq] at h
        omega

theorem firstT_cons (sig : List Sy) (m : Int) (i : Nat) (c : Int) (t : List Int) : firstT sig m i (c :: t) = (match codeD sig c with | none => (0, 30) | some e => if m + e = 0 then ((i : Int) + 1, 0) else firstT sig (m + e) (i + 1) t) := rfl

theorem firstT_le (sig : List Sy) : ∀ (t : List Int) (m : Int) (i : Nat), (firstT sig m i t).2 = 0 → (firstT sig m i t).1 ≤ (i : Int) + t.length
  | [], m, i, h => by simp [firstT] at h
  | c :: t, m, i, h => by
    rw [firstT_cons] at h ⊢
    cases hc : codeD sig c with
    | none => rw [hc] at h; simp at h
    | some e =>
      rw [hc] at h
      simp only at h ⊢
      split
      · simp only [List.length_cons]; omega
      · rename_i hm
        rw [if_neg hm] at h
        have := firstT_le sig t (m + e) (i + 1) h
        simp only [List.length_cons]
        omega

theorem row_first {sig : List Sy} {t : List Int} : rowE sig t = 0 ↔ firstT sig 1 0 t = ((t.length : Int), 0) := by
  unfold rowE
  constructor
  · intro h
    split at h
    · cases h
    · rename_i hn
      have h1 := firstT_le sig t 1 0 h
      have h2 : ¬ (firstT sig 1 0 t).1 < (t.length : Int) := fun h3 => hn ⟨h, h3⟩
      refine Prod.ext ?_ h
      show (firstT sig 1 0 t).1 = _
      omega
  · intro h
    rw [h]
    simp

/-- A row that closes d terms, ahead of another one. -/
theorem first_app {sig : List Sy} (ha : ArOk sig) : ∀ (x : List Int) (d : Int) (j : Nat), 1 ≤ d → firstT sig d j x = ((j : Int) + x.length, 0) → ∀ (m : Int) (i : Nat) (r : List Int), d ≤ m → firstT sig m i (x ++ r) = if m = d then ((i : Int) + x.length, 0) else firstT sig (m - d) (i + x.length) r
  | [], d, j, hd, h, m, i, r, hm => by simp [firstT] at h
  | c :: x, d, j, hd, h, m, i, r, hm => by
    rw [List.cons_append]
    rw [firstT_cons] at h ⊢
    cases hc : codeD sig c with
    | none => rw [hc] at h; simp at h
    | some e =>
      rw [hc] at h
      simp only at h ⊢
      have he := codeD_ge ha hc
      by_cases h0 : d + e = 0
      · rw [if_pos h0] at h
        have hx : x = [] := by
          have := congrArg Prod.fst h
          simp only [List.length_cons] at this
          exact List.eq_nil_of_length_eq_zero (by omega)
        subst hx
        by_cases hmd : m = d
        · rw [if_pos (by omega), if_pos hmd]; simp
        · rw [if_neg (by omega), if_neg hmd, show m + e = m - d by omega]; simp
      · rw [if_neg h0] at h
        rw [if_neg (by omega), first_app ha x (d + e) (j + 1) (by omega) (by rw [h]; simp only [List.length_cons, Prod.mk.injEq, and_true]; omega) (m + e) (i + 1) r (by omega)]
        by_cases hmd : m = d
        · rw [if_pos hmd, if_pos (by omega)]
          simp only [List.length_cons, Prod.mk.injEq, and_true]
          omega
        · rw [if_neg hmd, if_neg (by omega), show m + e - (d + e) = m - d by omega, List.length_cons, show i + 1 + x.length = i + (x.length + 1) by omega]

/-- Right pieces make a right row of a right row. -/
theorem first_laid {sig : List Sy} (ha : ArOk sig) {f : Int → Option (List Int)} (hf : ∀ n u, f n = some u → rowE sig u = 0) : ∀ (t : List Int) (d : Int) (j i : Nat), 1 ≤ d → firstT sig d j t = ((j : Int) + t.length, 0) → firstT sig d i (laidL f t) = ((i : Int) + (laidL f t).length, 0)
  | [], d, j, i, hd, h => by simp [firstT] at h
  | c :: t, d, j, i, hd, h => by
    have hl : laidL f (c :: t) = piece f c ++ laidL f t := by unfold laidL; rw [List.flatMap_cons]
    rw [hl]
    rw [firstT_cons] at h
    cases hc : codeD sig c with
    | none => rw [hc] at h; simp at h
    | some e =>
      rw [hc] at h
      simp only at h
      have he := codeD_ge ha hc
      -- what is left behind the code
      have hrest : d + e = 0 → t = [] := fun h0 => by
        rw [if_pos h0] at h
        have := congrArg Prod.fst h
        simp only [List.length_cons] at this
        exact List.eq_nil_of_length_eq_zero (by omega)
      have hnext : ¬ d + e = 0 → ∀ i, firstT sig (d + e) i (laidL f t) = ((i : Int) + (laidL f t).length, 0) := fun h0 i => by
        rw [if_neg h0] at h
        exact first_laid ha hf t (d + e) (j + 1) i (by omega) (by rw [h]; simp only [List.length_cons, Prod.mk.injEq, and_true]; omega)
      have hself : firstT sig d i ([c] ++ laidL f t) = ((i : Int) + ([c] ++ laidL f t).length, 0) := by
        rw [List.singleton_append, firstT_cons, hc]
        simp only
        by_cases h0 : d + e = 0
        · rw [if_pos h0, hrest h0]
          simp [laidL]
        · rw [if_neg h0, hnext h0]
          simp only [List.length_cons, Prod.mk.injEq, and_true]
          omega
      by_cases hv : c < 0
      · cases hb : f (-1 - c) with
        | none =>
          have : piece f c = [c] := by unfold piece; rw [if_pos hv, hb]; rfl
          rw [this]
          exact hself
        | some x =>
          have hp : piece f c = x := by unfold piece; rw [if_pos hv, hb]; rfl
          have hx := row_first.1 (hf _ _ hb)
          have he1 : e = -1 := by
            have hc2 := hc
            unfold codeD at hc2
            by_cases h9 : c < -1048576
            · rw [if_pos h9] at hc2; cases hc2
            · rw [if_neg h9, if_pos hv] at hc2; cases hc2; rfl
          rw [hp, first_app ha x 1 0 (by omega) (by rw [hx]; simp) d i (laidL f t) hd]
          by_cases h0 : d + e = 0
          · rw [if_pos (by omega), hrest h0]
            simp [laidL]
          · rw [if_neg (by omega), show d - 1 = d + e by omega, hnext h0, List.length_append]
            simp only [Prod.mk.injEq, and_true]
            omega
      · have : piece f c = [c] := by unfold piece; rw [if_neg hv]
        rw [this]
        exact hself

theorem row_laid {sig : List Sy} (ha : ArOk sig) {f : Int → Option (List Int)} (hf : ∀ n u, f n = some u → rowE sig u = 0) {t : List Int} (h : rowE sig t = 0) : rowE sig (laidL f t) = 0 := by
  have h1 := first_laid ha hf t 1 0 0 (by omega) (by rw [row_first.1 h]; simp)
  exact row_first.2 (by rw [h1]; simp)

theorem bind_all (sig : List Sy) : ∀ (s : List Bd) (p : Option Int), bindGo sig p s = 0 → ∀ b ∈ s, isVarB b.1 = true ∧ termE sig b.2 = 0
  | [], _, _, b, hb => by cases hb
  | a :: r, p, h, b, hb => by
    unfold bindGo at h
    split at h
    · rename_i hv
      split at h
      · cases h
      · split at h
        · rename_i ht
          cases hb with
          | head => exact ⟨hv, ht⟩
          | tail _ hb => exact bind_all sig r (some a.1) h b hb
        · rename_i ht
          exact absurd h ht
    · cases h

theorem bind_made (sig : List Sy) : ∀ (s : List Bd) (p : Option Int), (∀ b ∈ s, isVarB b.1 = true ∧ termE sig b.2 = 0) → (∀ y, p = some y → ∀ b ∈ s, y < b.1) → s.Pairwise (fun a b => a.1 < b.1) → bindGo sig p s = 0
  | [], _, _, _, _ => rfl
  | a :: r, p, h, hp, hr => by
    obtain ⟨h1, h2⟩ := List.pairwise_cons.1 hr
    unfold bindGo
    rw [if_pos (h a (.head _)).1, if_neg (by
      cases p with
      | none => simp
      | some y =>
        have := hp y rfl a (.head _)
        simp
        omega), if_pos (h a (.head _)).2]
    exact bind_made sig r (some a.1) (fun b hb => h b (.tail _ hb)) (fun y hy b hb => by cases hy; exact h1 b hb) h2

theorem bind_parts {sig : List Sy} {s : List Bd} (h : bindE sig s = 0) : sigE sig = 0 ∧ bindGo sig none s = 0 := by
  unfold bindE at h
  split at h
  · rename_i h0; exact ⟨h0, h⟩
  · rename_i h0; exact absurd h h0

theorem rise_len : ∀ (s : List Bd) (lo : Int), s.Pairwise (fun a b => a.1 < b.1) → (∀ b ∈ s, lo ≤ b.1 ∧ b.1 < 1048576) → lo ≤ 1048576 → (s.length : Int) ≤ 1048576 - lo
  | [], lo, _, _, h => by simp; omega
  | a :: r, lo, hr, hb, h => by
    obtain ⟨h1, h2⟩ := List.pairwise_cons.1 hr
    have ha := hb a (.head _)
    have := rise_len r (a.1 + 1) h2 (fun b hm => ⟨by have := h1 b hm; omega, (hb b (.tail _ hm)).2⟩) (by omega)
    simp only [List.length_cons]
    omega

theorem binds_few {sig : List Sy} {s : List Bd} (h : bindE sig s = 0) : s.length ≤ 1048576 := by
  obtain ⟨_, h1⟩ := bind_parts h
  have h2 := rise_len s 0 (bind_rise sig s none h1).2 (fun b hb => isVarB_iff.1 (bind_all sig s none h1 b hb).1) (by omega)
  omega

/-- The binds ahead of a number; those behind it. -/
def pre (x : Int) (r : List Bd) : List Bd := r.takeWhile fun c => decide (c.1 < x)
def skipE (x : Int) : List Bd → List Bd
  | [] => []
  | c :: r => if c.1 = x then r else c :: r
def post (x : Int) (r : List Bd) : List Bd := skipE x (r.dropWhile fun c => decide (c.1 < x))

/-- Two rows of binds in one: g is done to the first one's terms. -/
def merge (g : List Int → List Int) : List Bd → List Bd → List Bd
  | [], r => r
  | b :: s, r => pre b.1 r ++ (b.1, g b.2) :: merge g s (post b.1 r)

theorem merge_cons (g : List Int → List Int) (b : Bd) (s r : List Bd) : merge g (b :: s) r = pre b.1 r ++ (b.1, g b.2) :: merge g s (post b.1 r) := rfl

theorem merge_less (g : List Int → List Int) (b c : Bd) (s r : List Bd) (h : c.1 < b.1) : merge g (b :: s) (c :: r) = c :: merge g (b :: s) r := by
  rw [merge_cons, merge_cons]
  unfold pre post
  rw [List.takeWhile_cons, List.dropWhile_cons, decide_eq_true h]
  simp

theorem merge_same (g : List Int → List Int) (b c : Bd) (s r : List Bd) (h : c.1 = b.1) : merge g (b :: s) (c :: r) = (b.1, g b.2) :: merge g s r := by
  rw [merge_cons]
  unfold pre post
  rw [List.takeWhile_cons, List.dropWhile_cons, decide_eq_false (by omega)]
  simp [skipE, h]

theorem merge_more (g : List Int → List Int) (b : Bd) (s r : List Bd) (h : ∀ c, r[0]? = some c → b.1 < c.1) : merge g (b :: s) r = (b.1, g b.2) :: merge g s r := by
  cases r with
  | nil => rfl
  | cons c r =>
    have hc := h c rfl
    rw [merge_cons]
    unfold pre post
    rw [List.takeWhile_cons, List.dropWhile_cons, decide_eq_false (by omega)]
    have : ¬ c.1 = b.1 := by omega
    simp [skipE, this]

theorem look_app (n : Int) : ∀ (l m : List Bd), (l ++ m).lookup n = (l.lookup n).or (m.lookup n)
  | [], m => by simp
  | (k, v) :: l, m => by
    rw [List.cons_append, List.lookup_cons, List.lookup_cons]
    cases n == k with
    | true => rfl
    | false => exact look_app n l m

theorem look_none_lt {x n : Int} {l : List Bd} (h : ∀ b ∈ l, x < b.1) (hn : n ≤ x) : l.lookup n = none := by
  cases hl : l.lookup n with
  | none => rfl
  | some u =>
    have := h _ (lookup_mem hl)
    simp only at this
    omega

theorem pre_lt {x : Int} : ∀ {r : List Bd} {b : Bd}, b ∈ pre x r → b.1 < x
  | [], b, h => by simp [pre] at h
  | c :: r, b, h => by
    unfold pre at h
    rw [List.takeWhile_cons] at h
    split at h
    · rename_i hc
      cases h with
      | head => exact of_decide_eq_true hc
      | tail _ h => exact pre_lt (r := r) h
    · cases h

theorem pre_sub {x : Int} {r : List Bd} {b : Bd} (h : b ∈ pre x r) : b ∈ r := List.takeWhile_sublist _ |>.subset h

theorem drop_ge {x : Int} : ∀ {r : List Bd}, r.Pairwise (fun a b => a.1 < b.1) → ∀ b ∈ r.dropWhile (fun c => decide (c.1 < x)), x ≤ b.1
  | [], _, b, h => by cases h
  | c :: r, hr, b, h => by
    obtain ⟨h1, h2⟩ := List.pairwise_cons.1 hr
    rw [List.dropWhile_cons] at h
    split at h
    · exact drop_ge h2 b h
    · rename_i hc
      have hc' : x ≤ c.1 := by simpa using hc
      cases h with
      | head => exact hc'
      | tail _ h => have := h1 b h; omega

theorem skip_sub {x : Int} {r : List Bd} {b : Bd} (h : b ∈ skipE x r) : b ∈ r := by
  cases r with
  | nil => cases h
  | cons c r =>
    by_cases hc : c.1 = x
    · simp only [skipE, if_pos hc] at h
      exact .tail _ h
    · simp only [skipE, if_neg hc] at h
      exact h

theorem post_facts {x : Int} {r : List Bd} (hr : r.Pairwise (fun a b => a.1 < b.1)) : (∀ b ∈ post x r, b ∈ r ∧ x < b.1) ∧ (post x r).Pairwise (fun a b => a.1 < b.1) ∧ ∀ n, n ≠ x → r.lookup n = ((pre x r).lookup n).or ((post x r).lookup n) := by
  have hd := drop_ge (x := x) hr
  have hdp : (r.dropWhile fun c => decide (c.1 < x)).Pairwise (fun a b => a.1 < b.1) := hr.sublist (List.dropWhile_sublist _)
  have hsub : ∀ b ∈ r.dropWhile (fun c => decide (c.1 < x)), b ∈ r := fun b hb => (List.dropWhile_sublist _).subset hb
  have hsplit : ∀ n, r.lookup n = ((pre x r).lookup n).or ((r.dropWhile fun c => decide (c.1 < x)).lookup n) := fun n => by
    rw [← look_app]
    unfold pre
    rw [List.takeWhile_append_dropWhile]
  unfold post
  generalize (r.dropWhile fun c => decide (c.1 < x)) = q at hd hdp hsub hsplit
  cases q with
  | nil => exact ⟨fun b hb => (by cases hb), List.Pairwise.nil, fun n _ => hsplit n⟩
  | cons c q =>
    obtain ⟨h1, h2⟩ := List.pairwise_cons.1 hdp
    by_cases hc : c.1 = x
    · simp only [skipE, if_pos hc]
      refine ⟨fun b hb => ⟨hsub b (.tail _ hb), by have := h1 b hb; omega⟩, h2, fun n hn => ?_⟩
      rw [hsplit n]
      congr 1
      obtain ⟨k, v⟩ := c
      rw [List.lookup_cons, show (n == k) = false by rw [beq_eq_false_iff_ne]; simp only at hc; omega]
    · simp only [skipE, if_neg hc]
      refine ⟨fun b hb => ⟨hsub b hb, ?_⟩, hdp, fun n _ => hsplit n⟩
      cases hb with
      | head => have := hd c (.head _); omega
      | tail _ hb => have := h1 b hb; have := hd c (.head _); omega

theorem merge_facts (g : List Int → List Int) : ∀ (s r : List Bd), s.Pairwise (fun a b => a.1 < b.1) → r.Pairwise (fun a b => a.1 < b.1) →
    (∀ b ∈ merge g s r, b ∈ r ∨ ∃ a ∈ s, b = (a.1, g a.2)) ∧ (merge g s r).Pairwise (fun a b => a.1 < b.1) ∧ ∀ n, (merge g s r).lookup n = match s.lookup n with | some u => some (g u) | none => r.lookup n
  | [], r, _, hr => ⟨fun b hb => .inl hb, hr, fun n => rfl⟩
  | a :: s, r, hs, hr => by
    obtain ⟨h1, h2⟩ := List.pairwise_cons.1 hs
    obtain ⟨p1, p2, p3⟩ := post_facts (x := a.1) hr
    obtain ⟨m1, m2, m3⟩ := merge_facts g s (post a.1 r) h2 p2
    have hgt : ∀ b ∈ merge g s (post a.1 r), a.1 < b.1 := fun b hb => by
      rcases m1 b hb with h | ⟨c, hc, rfl⟩
      · exact (p1 b h).2
      · exact h1 c hc
    refine ⟨fun b hb => ?_, ?_, fun n => ?_⟩
    · rw [merge_cons] at hb
      rcases List.mem_append.1 hb with hb | hb
      · exact .inl (pre_sub hb)
      · cases hb with
        | head => exact .inr ⟨a, .head _, rfl⟩
        | tail _ hb =>
          rcases m1 b hb with h | ⟨c, hc, e⟩
          · exact .inl (p1 b h).1
          · exact .inr ⟨c, .tail _ hc, e⟩
    · rw [merge_cons, List.pairwise_append]
      refine ⟨hr.sublist (List.takeWhile_sublist _), List.Pairwise.cons hgt m2, fun b hb c hc => ?_⟩
      have h3 := pre_lt hb
      cases hc with
      | head => exact h3
      | tail _ hc => have := hgt c hc; omega
    · rw [merge_cons]
      obtain ⟨x, u⟩ := a
      simp only at h1 p1 p3 m3 hgt ⊢
      rw [look_app, List.lookup_cons, List.lookup_cons]
      by_cases hn : n = x
      · subst hn
        rw [show (n == n) = true by simp]
        have : (pre n r).lookup n = none := by
          cases hl : (pre n r).lookup n with
          | none => rfl
          | some y =>
            have := pre_lt (lookup_mem hl)
            simp at this
        rw [this]
        rfl
      · rw [show (n == x) = false by rw [beq_eq_false_iff_ne]; exact hn]
        simp only
        rw [m3 n, p3 n hn]
        cases hl : (pre x r).lookup n with
        | none =>
          cases s.lookup n <;> rfl
        | some y =>
          have hlt := pre_lt (lookup_mem hl)
          simp only at hlt
          have : s.lookup n = none := look_none_lt h1 (by omega)
          rw [this]

theorem laid_none (t : List Int) : laidL (bnd []) t = t := by
  induction t with
  | nil => rfl
  | cons c t ih =>
    have : laidL (bnd []) (c :: t) = piece (bnd []) c ++ laidL (bnd []) t := by unfold laidL; rw [List.flatMap_cons]
    rw [this, ih]
    unfold piece bnd
    split <;> rfl

theorem apply_ok {sig : List Sy} {s : List Bd} {t : List Int} (h : applyE sig s t = 0) : bindE sig s = 0 ∧ termE sig t = 0 ∧ (laidL (bnd s) t).length ≤ 512 ∧ applyL sig s t = laidL (bnd s) t := by
  unfold applyE at h
  split at h
  · rename_i hb
    split at h
    · rename_i ht
      obtain ⟨e1, e2⟩ := lay_eq (bnd s) t
      rw [e1] at h
      have hl : ¬ 512 < (laidL (bnd s) t).length := fun h9 => by rw [if_pos h9] at h; cases h
      refine ⟨hb, ht, by omega, ?_⟩
      unfold applyL
      rw [if_pos hb, if_pos ht, e2, if_neg hl]
    · rename_i ht; exact absurd h ht
  · rename_i hb; exact absurd h hb

theorem apply_of {sig : List Sy} {s : List Bd} {t : List Int} (hb : bindE sig s = 0) (ht : termE sig t = 0) : applyE sig s t = (if 512 < (laidL (bnd s) t).length then 2 else 0) ∧ applyL sig s t = if 512 < (laidL (bnd s) t).length then [] else laidL (bnd s) t := by
  unfold applyE applyL
  rw [if_pos hb, if_pos ht, if_pos hb, if_pos ht]
  exact lay_eq (bnd s) t

theorem bnd_right {sig : List Sy} {s : List Bd} (h : bindE sig s = 0) : ∀ n u, bnd s n = some u → rowE sig u = 0 := fun n u hn => by
  obtain ⟨h0, h1⟩ := bind_parts h
  have := (bind_all sig s none h1 _ (List.mem_reverse.1 (lookup_mem hn))).2
  unfold termE at this
  rw [if_pos h0] at this
  exact this

theorem term_laid {sig : List Sy} {s : List Bd} {t : List Int} (hb : bindE sig s = 0) (ht : termE sig t = 0) : termE sig (laidL (bnd s) t) = 0 := by
  obtain ⟨h0, _⟩ := bind_parts hb
  unfold termE at ht ⊢
  rw [if_pos h0] at ht ⊢
  exact row_laid (sigE_ok h0) (bnd_right hb) ht

/-- One after the other is both at once. -/
theorem after_both {sig : List Sy} {s r : List Bd} {t : List Int} (h : applyE sig s t = 0) (hr : ∀ b ∈ s, applyE sig r b.2 = 0) :
    applyE sig r (applyL sig s t) = applyE sig (merge (fun u => applyL sig r u) s r) t ∧ applyL sig r (applyL sig s t) = applyL sig (merge (fun u => applyL sig r u) s r) t := by
  obtain ⟨hb, ht, hl, e⟩ := apply_ok h
  rw [e]
  cases s with
  | nil =>
    rw [laid_none]
    exact ⟨rfl, rfl⟩
  | cons a s =>
    obtain ⟨hbr, _, _, _⟩ := apply_ok (hr a (.head _))
    obtain ⟨h0, h1⟩ := bind_parts hb
    obtain ⟨_, h2⟩ := bind_parts hbr
    have hs := (bind_rise sig _ none h1).2
    have hrr := (bind_rise sig _ none h2).2
    obtain ⟨m1, m2, m3⟩ := merge_facts (fun u => applyL sig r u) (a :: s) r hs hrr
    have hbm : bindE sig (merge (fun u => applyL sig r u) (a :: s) r) = 0 := by
      unfold bindE
      rw [if_pos h0]
      refine bind_made sig _ none (fun b hbm => ?_) (fun y hy => by cases hy) m2
      rcases m1 b hbm with hm | ⟨c, hc, rfl⟩
      · exact bind_all sig r none h2 b hm
      · obtain ⟨k1, k2⟩ := bind_all sig _ none h1 c hc
        obtain ⟨_, _, _, k3⟩ := apply_ok (hr c hc)
        refine ⟨k1, ?_⟩
        show termE sig (applyL sig r c.2) = 0
        rw [k3]
        exact term_laid hbr k2
    have hbnd : ∀ n, bnd (merge (fun u => applyL sig r u) (a :: s) r) n = match bnd (a :: s) n with | some u => some (laidL (bnd r) u) | none => bnd r n := fun n => by
      have f1 : bnd (merge (fun u => applyL sig r u) (a :: s) r) n = _ := (look_rise m2 n).symm
      have f2 : bnd (a :: s) n = _ := (look_rise hs n).symm
      have f3 : bnd r n = _ := (look_rise hrr n).symm
      rw [f1, f2, f3, m3 n]
      cases hl : (a :: s).lookup n with
      | none => rfl
      | some u =>
        obtain ⟨_, _, _, k3⟩ := apply_ok (hr _ (lookup_mem hl))
        simp only at k3 ⊢
        rw [k3]
    have hla := laid_after (bnd (a :: s)) (bnd r) _ hbnd t
    obtain ⟨e1, e2⟩ := apply_of hbr (term_laid hb ht)
    obtain ⟨e3, e4⟩ := apply_of hbm ht
    rw [e1, e2, e3, e4, hla]
    exact ⟨rfl, rfl⟩

end Go.Proofs.YthjghdpiokpnfaaDoor

/- The tree of a right term. -/
namespace Go.Proofs.YthjghdpiokpnfaaDoor
open Go.RowKit Go.Maps Go.Shelf

attribute [local go_sem] Oper.semAt_some

/-- How many arguments a code has. -/
def arN (sig : List Sy) (c : Int) : Nat := match sig[c.toNat]? with | some s => s.2.toNat | none => 0

/-- A code more, from the back to the front: what begins first is the last one. -/
def growStep (sig : List Sy) (st : List Tr) (c : Int) : List Tr := if c < 0 then st ++ [.var] else st.take (st.length - arN sig c) ++ [.app (st.drop (st.length - arN sig c)).reverse]

def growR (sig : List Sy) : List Int → List Tr
  | [] => []
  | c :: u => growStep sig (growR sig u) c

theorem sizes_rev : ∀ ts : List Tr, sizes ts.reverse = sizes ts
  | [] => rfl
  | t :: ts => by
    rw [List.reverse_cons, sizes_app, sizes_rev ts]
    simp only [sizes]
    omega

theorem growStep_sizes (sig : List Sy) (st : List Tr) (c : Int) : sizes (growStep sig st c) = sizes st + 1 := by
  unfold growStep
  split
  · rw [sizes_app]; simp [sizes, Tr.size]
  · have h1 := sizes_app (st.take (st.length - arN sig c)) (st.drop (st.length - arN sig c))
    rw [List.take_append_drop] at h1
    rw [sizes_app]
    simp only [sizes, Tr.size, sizes_rev]
    omega

theorem growR_sizes (sig : List Sy) : ∀ u : List Int, sizes (growR sig u) = u.length
  | [] => rfl
  | c :: u => by
    show sizes (growStep sig (growR sig u) c) = _
    rw [growStep_sizes, growR_sizes sig u, List.length_cons]

theorem codeD_ar {sig : List Sy} (ha : ArOk sig) {c e : Int} (h : codeD sig c = some e) (hc : ¬ c < 0) : e = (arN sig c : Int) - 1 ∧ c.toNat < sig.length := by
  unfold codeD at h
  by_cases h9 : c < -1048576
  · omega
  · rw [if_neg h9, if_neg hc] at h
    cases hs : sig[c.toNat]? with
    | none => rw [hs] at h; cases h
    | some s =>
      rw [hs] at h
      have := ha s (List.mem_of_getElem? hs)
      simp only [Option.some.injEq] at h
      unfold arN
      rw [hs]
      simp only
      exact ⟨by omega, (List.getElem?_eq_some_iff.1 hs).1⟩

/-- The terms that a row is made of, and that each code finds its arguments. -/
theorem growR_len {sig : List Sy} (ha : ArOk sig) : ∀ (u : List Int) (m : Int) (i : Nat), 1 ≤ m → firstT sig m i u = ((i : Int) + u.length, 0) → ((growR sig u).length : Int) = m
  | [], m, i, hm, h => by simp [firstT] at h
  | c :: u, m, i, hm, h => by
    rw [firstT_cons] at h
    cases hc : codeD sig c with
    | none => rw [hc] at h; simp at h
    | some e =>
      rw [hc] at h
      simp only at h
      have he := codeD_ge ha hc
      have hlen : ((growR sig u).length : Int) = m + e := by
        by_cases h0 : m + e = 0
        · rw [if_pos h0] at h
          have := congrArg Prod.fst h
          simp only [List.length_cons] at this
          obtain rfl : u = [] := List.eq_nil_of_length_eq_zero (by omega)
          show ((0 : Nat) : Int) = _
          omega
        · rw [if_neg h0] at h
          exact growR_len ha u (m + e) (i + 1) (by omega) (by rw [h]; simp only [List.length_cons, Prod.mk.injEq, and_true]; omega)
      show ((growStep sig (growR sig u) c).length : Int) = m
      unfold growStep
      by_cases hv : c < 0
      · rw [if_pos hv, List.length_append]
        have he1 : e = -1 := by
          have hc2 := hc
          unfold codeD at hc2
          by_cases h9 : c < -1048576
          · rw [if_pos h9] at hc2; cases hc2
          · rw [if_neg h9, if_pos hv] at hc2; cases hc2; rfl
        simp only [List.length_cons, List.length_nil]
        omega
      · rw [if_neg hv, List.length_append, List.length_take]
        have := (codeD_ar ha hc hv).1
        simp only [List.length_cons, List.length_nil]
        omega

/-- Each code of a right term: it is one, and its arguments are there. -/
theorem grow_code {sig : List Sy} (ha : ArOk sig) : ∀ (p : List Int) (c : Int) (u : List Int) (m : Int) (i : Nat), 1 ≤ m → firstT sig m i (p ++ c :: u) = ((i : Int) + (p ++ c :: u).length, 0) → ¬ c < 0 → c.toNat < sig.length ∧ arN sig c ≤ (growR sig u).length
  | [], c, u, m, i, hm, h, hv => by
    rw [List.nil_append] at h
    have hl := growR_len ha (c :: u) m i hm h
    rw [firstT_cons] at h
    cases hc : codeD sig c with
    | none => rw [hc] at h; simp at h
    | some e =>
      rw [hc] at h
      simp only at h
      obtain ⟨k1, k2⟩ := codeD_ar ha hc hv
      refine ⟨k2, ?_⟩
      by_cases h0 : m + e = 0
      · omega
      · rw [if_neg h0] at h
        have := growR_len ha u (m + e) (i + 1) (by have := codeD_ge ha hc; omega) (by rw [h]; simp only [List.length_cons, Prod.mk.injEq, and_true]; omega)
        omega
  | d :: p, c, u, m, i, hm, h, hv => by
    rw [List.cons_append, firstT_cons] at h
    cases hc : codeD sig d with
    | none => rw [hc] at h; simp at h
    | some e =>
      rw [hc] at h
      simp only at h
      by_cases h0 : m + e = 0
      · rw [if_pos h0] at h
        have := congrArg Prod.fst h
        simp at this
        omega
      · rw [if_neg h0] at h
        exact grow_code ha p c u (m + e) (i + 1) (by have := codeD_ge ha hc; omega) (by rw [h]; simp only [List.length_cons, Prod.mk.injEq, and_true]; omega) hv

theorem grow_one {sig : List Sy} (ha : ArOk sig) {t : List Int} (h : rowE sig t = 0) : ∃ T, growR sig t = [T] ∧ T.size = t.length := by
  have h1 := growR_len ha t 1 0 (by omega) (by rw [row_first.1 h]; simp)
  have h2 := growR_sizes sig t
  cases hg : growR sig t with
  | nil => rw [hg] at h1; simp at h1
  | cons T r =>
    rw [hg] at h1 h2
    obtain rfl : r = [] := List.eq_nil_of_length_eq_zero (by simp at h1; omega)
    exact ⟨T, rfl, by simpa [sizes] using h2⟩

theorem own_rdv {w : World} {base : Nat} {e : TypeId} {v : Value} {vals : List Value} (h : w.ownsRow base e 1 v vals.length vals) : RdV w v vals := by
  rcases h.2 with ⟨rfl, hn⟩ | ⟨g, cap, cur, hv, hb, hg, hc, hm, hs, ht⟩
  · exact .inl ⟨rfl, List.eq_nil_of_length_eq_zero hn⟩
  · subst hv
    refine .inr ⟨g, 0, cap, rfl, fun j u hj => ?_⟩
    have hlt := (List.getElem?_eq_some_iff.1 hj).1
    rw [Nat.zero_add, World.ownsRow.cellAt h j (by omega)]
    exact hj

theorem own_cut {w : World} {base : Nat} {e : TypeId} {ao : Option Addr} {n cap k : Nat} {vals : List Value} (h : w.ownsRow base e 1 (.slice ao n cap) n vals) (hk : k ≤ n) : w.ownsRow base e 1 (.slice ao k cap) k (vals.take k) := by
  have h1 := h.1
  refine ⟨by rw [List.length_take]; omega, ?_⟩
  rcases h.2 with ⟨hv, hn⟩ | ⟨g, cp, cur, hv, hb, hg, hc, hm, hs, ht⟩
  · simp only [Value.slice.injEq] at hv
    obtain ⟨rfl, rfl, rfl⟩ := hv
    obtain rfl : k = 0 := by omega
    exact .inl ⟨rfl, rfl⟩
  · simp only [Value.slice.injEq] at hv
    obtain ⟨rfl, _, rfl⟩ := hv
    refine .inr ⟨g, cap, cur, rfl, hb, hg, by omega, hm, hs, ?_⟩
    rw [Nat.mul_one] at ht ⊢
    rw [← ht, List.take_take, Nat.min_eq_left hk]

theorem frozen_same {w w' : World} {a : Addr} (h : w'.heap[a.block]? = w.heap[a.block]?) : w'.frozen? a = w.frozen? a := by
  unfold World.frozen?
  rw [h]

theorem cell_putObj {W : World} {l : Nat} {o o' : Obj} {a : Addr} {x : Value} (hl : W.heap[l]? = some o) (ho : o.isCells = false) (h : W.cell? a = some x) : (W.putObj l o').cell? a = some x := by
  have hne : a.block ≠ l := by
    rintro rfl
    unfold World.cell? at h
    rw [hl] at h
    cases o <;> simp_all [Obj.isCells]
  rw [World.cell?_of_block (World.putObj_heap_other hne)]
  exact h

end Go.Proofs.YthjghdpiokpnfaaDoor
