/- What the document's Check of binds, bound, Laid and Apply answer. -/
import Derived.Test.YtifpanfgojfbkaaDoorTRefD
import Derived.Test.YtifpanfgojfbkaaDoorTApplyC
import Derived.Test.YtifpanfgojfbkaaDoorTShown
namespace Go.Proofs.YtifpanfgojfbkaaDoor
open Go.RowKit Go.Maps Go.BigFrame

set_option maxRecDepth 100000 in
set_option maxHeartbeats 1600000 in
theorem refBinds_any (sv bv : Value) (sig : List Sy) (s : List Bd) (w : World) (hs : Sg w sv sig) (h : Bs w bv s) :
    Calls Tryd.prog 12 #[sv, bv] w fun e w' => e = .returned (.int .i64 (bindE sig s)) ∧ Below w.heap.size w w' := by
  obtain ⟨so, sc, rfl, hso, hsc, _⟩ := Row.flat h
  unfold maxLen at hsc
  have HS := hid hs
  have HI := hid h
  clear hs h
  go_enter Tryd.func12, Tryd.ntmps12
  go_wp2_with fail
  refine (refCheckSig_any sv sig w HS.out).mono ?_
  rintro e w1 ⟨rfl, hb1⟩
  have HB := hid hb1
  clear hb1
  by_cases he : sigE sig = 0
  · have HF : Hid (bindE sig s = bindGo sig none s) := by show _ = _; unfold bindE; rw [if_pos he]
    rw [he]
    clear he
    go_wp2
    go_loopw [5, 6] (fun x i wr => ∃ k : Nat, k ≤ s.length ∧ x = .int .i64 0 ∧ i = .int .i64 k ∧ bindGo sig none s = bindGo sig (ahead s k) (s.drop k) ∧ Below w.heap.size w wr) (fun _ i _ => s.length - (intOf i).toNat)
    case atStart => exact ⟨0, Nat.zero_le _, rfl, rfl, rfl, HB.out⟩
    case round =>
      obtain ⟨k, hk, rfl, rfl, hgo, hbl⟩ := hrel
      have HG : Hid (bindE sig s = bindGo sig (ahead s k) (s.drop k)) := HF.out.trans hgo
      have HBl := hid hbl
      clear hgo
      by_cases hlt : k < s.length
      · have HSr := hid (HS.out.kp (Kp.of_below hbl))
        have HIr := hid (HI.out.kp (Kp.of_below hbl))
        obtain ⟨g, off, x, ba, t, bc, rfl, hm, hc0, hc1, hit, hx1, hx2, hx3⟩ := HIr.out.at hlt
        have HIt := hid hit
        have HD : Hid (bindE sig s = if isVarB x then (if (ahead s k).any (fun y => decide (x ≤ y)) then 41 else if termE sig t = 0 then bindGo sig (some x) (s.drop (k + 1)) else termE sig t) else 40) := by
          show _ = _
          rw [HG.out, drop_get hm]
          rfl
        have HN : Hid (ahead s (k + 1) = some x) := by show (s[k]?).map (·.1) = _; rw [hm]; rfl
        clear hm hit HG hbl
        cases hv : isVarB x
        · have HE : Hid (bindE sig s = 40) := by show _ = _; rw [HD.out, hv]; rfl
          by_cases hx0 : x < 0
          · go_wp2
            go_ret
            exact ⟨ret1i HE.out.symm, HBl.out⟩
          · have hx9 : 1048576 ≤ x := by
              by_cases h9 : 1048576 ≤ x
              · exact h9
              · rw [isVarB_iff.2 ⟨by omega, by omega⟩] at hv
                cases hv
            go_wp2
            go_ret
            exact ⟨ret1i HE.out.symm, HBl.out⟩
        have HD2 : Hid (bindE sig s = if (ahead s k).any (fun y => decide (x ≤ y)) then 41 else if termE sig t = 0 then bindGo sig (some x) (s.drop (k + 1)) else termE sig t) := by
          show _ = _; rw [HD.out, hv, if_pos rfl]
        have hxv := isVarB_iff.1 hv
        have hx0 : ¬ x < 0 := by omega
        have hx9 : ¬ 1048576 ≤ x := by omega
        clear HD hv hxv
        by_cases hk0 : k = 0
        · subst hk0
          rw [Nat.zero_mul, Nat.add_zero] at hc0
          rw [Nat.zero_mul, Nat.add_zero] at hc1
          have HD3 : Hid (bindE sig s = if termE sig t = 0 then bindGo sig (some x) (s.drop 1) else termE sig t) := by show _ = _; rw [HD2.out]; rfl
          clear HD2
          go_wp2
          go_quiet (fail)
          have HBq := hid (below_drewN (Below.refl wr.heap.size wr) nq)
          go_wp2_with fail
          refine (refCheck_any sv _ sig t _ (HSr.out.kp (Kp.of_below HBq.out)) (HIt.out.kp (Kp.of_below HBq.out)) hx3).mono ?_
          rintro e w2 ⟨rfl, hb2⟩
          have HB2 := hid (below_step HBl.out (below_step HBq.out hb2))
          clear hb2
          by_cases hte : termE sig t = 0
          · have HE : Hid (bindGo sig none s = bindGo sig (ahead s (0 + 1)) (s.drop (0 + 1))) := by show _ = _; rw [← HF.out, HD3.out, if_pos hte, HN.out]
            rw [hte]
            clear hte
            go_wp2
            go_roundw
            case rel => exact ⟨0 + 1, by omega, rfl, by go_num, HE.out, HB2.out⟩
            case measure => simp [intOf]; omega
          · have HE : Hid (bindE sig s = termE sig t) := by show _ = _; rw [HD3.out, if_neg hte]
            generalize termE sig t = E at hte HE ⊢
            have heb : (E != 0) = true := by simpa using hte
            go_wp2
            go_ret
            exact ⟨ret1i HE.out.symm, HB2.out⟩
        · obtain ⟨j, rfl⟩ : ∃ j, k = j + 1 := ⟨k - 1, by omega⟩
          clear hk0
          obtain ⟨g', off', y, ya, u, yc, hq, hm2, he0, he1, _, hy1, hy2, _⟩ := HIr.out.at (k := j) (by omega)
          obtain ⟨rfl, rfl⟩ : g = g' ∧ off = off' := by simpa using hq
          have HA : Hid (ahead s (j + 1) = some y) := by show (s[j]?).map (·.1) = _; rw [hm2]; rfl
          have hg0 : (0 : Int) < (j : Int) + 1 := by omega
          have hjl : j < s.length := by omega
          have hjw : IntKind.i64.wrap (j : Int) = (j : Int) := IntWalk.i64_in _ ⟨by omega, by omega⟩
          clear hm2 hq he1
          by_cases hxy : x ≤ y
          · have HE : Hid (bindE sig s = 41) := by show _ = _; rw [HD2.out, HA.out]; simp [hxy]
            go_wp2
            go_quiet (fail)
            go_wp2
            go_ret
            exact ⟨ret1i HE.out.symm, below_drewN HBl.out _⟩
          have HD3 : Hid (bindE sig s = if termE sig t = 0 then bindGo sig (some x) (s.drop (j + 1 + 1)) else termE sig t) := by show _ = _; rw [HD2.out, HA.out]; simp [hxy]
          clear HD2
          go_wp2
          go_quiet (fail)
          have HBq := hid (below_drewN (Below.refl wr.heap.size wr) nq)
          go_wp2_with fail
          refine (refCheck_any sv _ sig t _ (HSr.out.kp (Kp.of_below HBq.out)) (HIt.out.kp (Kp.of_below HBq.out)) hx3).mono ?_
          rintro e w2 ⟨rfl, hb2⟩
          have HB2 := hid (below_step HBl.out (below_step HBq.out hb2))
          clear hb2
          by_cases hte : termE sig t = 0
          · have HE : Hid (bindGo sig none s = bindGo sig (ahead s (j + 1 + 1)) (s.drop (j + 1 + 1))) := by show _ = _; rw [← HF.out, HD3.out, if_pos hte, HN.out]
            rw [hte]
            clear hte
            go_wp2
            go_roundw
            case rel => exact ⟨j + 1 + 1, by omega, rfl, by go_num, HE.out, HB2.out⟩
            case measure => simp [intOf]; omega
          · have HE : Hid (bindE sig s = termE sig t) := by show _ = _; rw [HD3.out, if_neg hte]
            generalize termE sig t = E at hte HE ⊢
            have heb : (E != 0) = true := by simpa using hte
            go_wp2
            go_ret
            exact ⟨ret1i HE.out.symm, HB2.out⟩
      · have hke : k = s.length := by omega
        subst hke
        have HE : Hid (bindE sig s = 0) := by show _ = _; rw [HG.out, List.drop_length]; rfl
        go_wp2
        go_ret
        exact ⟨ret1i HE.out.symm, hbl⟩
  · have HF : Hid (bindE sig s = sigE sig) := by show _ = _; unfold bindE; rw [if_neg he]
    generalize sigE sig = E at he HF ⊢
    have heb : (E != 0) = true := by simpa using he
    go_wp2
    go_ret
    exact ⟨ret1i HF.out.symm, HB.out⟩

set_option maxRecDepth 100000 in
set_option maxHeartbeats 800000 in
theorem refBound_any (bv : Value) (s : List Bd) (n : Int) (w : World) (h : Bs w bv s) :
    Calls Tryd.prog 48 #[bv, .int .i64 n] w fun e w' => ∃ u, e = .returned (.tuple #[u, .bool (s.lookup n).isSome]) ∧ (∀ x, s.lookup n = some x → Is w u x ∧ x.length * 8 ≤ 140737488351232) ∧ w' = w := by
  obtain ⟨so, sc, rfl, hso, hsc, _⟩ := Row.flat h
  unfold maxLen at hsc
  have HI := hid h
  clear h
  go_enter Tryd.func48, Tryd.ntmps48
  go_wp2
  go_loopw [6] (fun i wr => ∃ k : Nat, k ≤ s.length ∧ i = .int .i64 k ∧ s.lookup n = (s.drop k).lookup n ∧ wr = w) (fun i _ => s.length - (intOf i).toNat)
  case atStart => exact ⟨0, Nat.zero_le _, rfl, rfl, rfl⟩
  case round =>
    obtain ⟨k, hk, rfl, hlk, hw⟩ := hrel
    have hw8 := hw.symm
    subst hw8
    have HL := hid hlk
    clear hlk hw
    by_cases hlt : k < s.length
    · obtain ⟨g, off, x, ba, t, bc, rfl, hm, hc0, hc1, hit, hx1, hx2, hx3⟩ := HI.out.at hlt
      have HIt := hid hit
      have HL2 : Hid (s.lookup n = List.lookup n ((x, t) :: s.drop (k + 1))) := by show _ = _; rw [HL.out, drop_get hm]
      clear hm hit HL
      by_cases hxn : x = n
      · have hb : (x == n) = true := by rw [beq_iff_eq]; exact hxn
        have HE : Hid (s.lookup n = some t) := by show _ = _; rw [HL2.out, List.lookup_cons, show (n == x) = true by rw [beq_iff_eq]; exact hxn.symm]
        go_wp2
        go_ret2
        exact ⟨_, by rw [HE.out]; rfl, fun u hu => (by rw [HE.out] at hu; cases hu; exact ⟨HIt.out, hx3⟩), rfl⟩
      · have hb : (x == n) = false := by rw [beq_eq_false_iff_ne]; exact hxn
        have HE : Hid (s.lookup n = (s.drop (k + 1)).lookup n) := by show _ = _; rw [HL2.out, List.lookup_cons, show (n == x) = false by rw [beq_eq_false_iff_ne]; exact fun e => hxn e.symm]
        go_wp2
        go_roundw
        case rel => exact ⟨k + 1, by omega, by go_num, HE.out, trivial⟩
        case measure => simp [intOf]; omega
    · have HE : Hid (s.lookup n = none) := by show _ = _; rw [HL.out, List.drop_of_length_le (by omega)]; rfl
      go_wp2
      go_ret2
      exact ⟨_, by rw [HE.out]; rfl, fun u hu => (by rw [HE.out] at hu; cases hu), rfl⟩

end Go.Proofs.YtifpanfgojfbkaaDoor
