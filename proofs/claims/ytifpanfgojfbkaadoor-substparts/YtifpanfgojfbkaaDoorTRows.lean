/- Lists of rows: of one's own, held against each other, joined. -/
import Derived.Test.YtifpanfgojfbkaaDoorTShownC
namespace Go.Proofs.YtifpanfgojfbkaaDoor
open Go.RowKit Go.Maps Go.BigFrame

theorem rs_of_own {w : World} {base b2 : Nat} {v : Value} {vs : List Value} {l : List (List Int)} (h : w.ownsRow base 30 1 v l.length vs) (hr : OwR w b2 vs l) (hl : ∀ t ∈ l, t.length * 8 ≤ 140737488351232) : Rs w v l := by
  have h2 := h
  rcases h2.2 with ⟨rfl, hn⟩ | ⟨g, cap, cur, rfl, hb, hg, hc, hm, hs, ht⟩
  · obtain rfl := List.eq_nil_of_length_eq_zero hn
    exact Row.nil (by simp [maxLen])
  · refine ⟨_, cap, rfl, hc, hm, fun _ => ⟨g, 0, rfl, (Array.getElem?_eq_some_iff.1 hg).1, fun k t hk => ?_⟩⟩
    have hlt : k < l.length := (List.getElem?_eq_some_iff.1 hk).1
    obtain ⟨u, hu⟩ : ∃ u, vs[k]? = some u := ⟨_, List.getElem?_eq_getElem (by rw [hr.1]; exact hlt)⟩
    refine ⟨hl t (List.mem_of_getElem? hk), u, ?_, (hr.2 k u t hu hk).is⟩
    rw [Nat.zero_add, Nat.mul_one, World.ownsRow.cellAt h k (by omega)]
    exact hu

theorem renG_length {σ : Type} (φ : σ → Int → Int × σ) : ∀ (t : List Int) (s : σ), (renG φ s t).1.length = t.length
  | [], s => rfl
  | c :: t, s => by
    unfold renG
    split
    · simp only [List.length_cons, renG_length φ t]
    · simp only [List.length_cons, renG_length φ t]

theorem canG_lens : ∀ (l : List (List Int)) (m : Met), (canG m l).map List.length = l.map List.length
  | [], _ => rfl
  | t :: l, m => by
    unfold canG
    rw [List.map_cons, List.map_cons, canG_lens l, renG_length]

theorem canL_length (l : List (List Int)) : (canL l).length = l.length := by
  have := congrArg List.length (canG_lens l [])
  simpa [canL] using this

/-- Rows of the same lengths are as small. -/
theorem lens_small {l k : List (List Int)} (h : k.map List.length = l.map List.length) (hl : ∀ t ∈ l, t.length * 8 ≤ 140737488351232) : ∀ t ∈ k, t.length * 8 ≤ 140737488351232 := by
  intro t ht
  have h1 : t.length ∈ k.map List.length := List.mem_map.2 ⟨t, ht, rfl⟩
  rw [h] at h1
  obtain ⟨u, hu, e⟩ := List.mem_map.1 h1
  rw [← e]
  exact hl u hu

theorem Rs.small {w : World} {v : Value} {l : List (List Int)} (h : Rs w v l) : ∀ t ∈ l, t.length * 8 ≤ 140737488351232 := fun t ht => by
  obtain ⟨ao, cap, rfl, _, _, hx⟩ := Row.flat h
  obtain ⟨k, hk, rfl⟩ := List.getElem_of_mem ht
  obtain ⟨g, off, x, _, hm, h3, _⟩ := hx k hk
  rw [List.getElem?_eq_getElem hk] at hm
  cases hm
  exact h3

set_option maxRecDepth 100000 in
set_option maxHeartbeats 800000 in
theorem sameAll_any (v u : Value) (a b : List (List Int)) (w : World) (h : Rs w v a) (h' : Rs w u b) :
    Calls Tryd.prog 21 #[v, u] w fun e w' => e = .returned (.bool (decide (a = b))) ∧ Below w.heap.size w w' := by
  obtain ⟨ao, cap, rfl, hao, hca, _⟩ := Row.flat h
  obtain ⟨bo, cap', rfl, hbo, hcb, _⟩ := Row.flat h'
  unfold maxLen at hca hcb
  have HA := hid h
  have HB := hid h'
  clear h h'
  by_cases hl : a.length = b.length
  · have hle : ((a.length : Int) != b.length) = false := by simp; omega
    go_enter Tryd.func21, Tryd.ntmps21
    go_wp2
    go_loopw [5] (fun i wr => ∃ k : Nat, k ≤ a.length ∧ i = .int .i64 k ∧ a.take k = b.take k ∧ Below w.heap.size w wr) (fun i _ => a.length - (intOf i).toNat)
    case atStart => exact ⟨0, Nat.zero_le _, rfl, rfl, Below.refl _ _⟩
    case round =>
      obtain ⟨k, hk, rfl, ht, hbl⟩ := hrel
      have HT := hid ht
      have HBl := hid hbl
      clear ht
      by_cases hlt : k < a.length
      · obtain ⟨g, off, xa, x, xc, rfl, hx1, hx2, hx3, _⟩ := (HA.out.kp (Kp.of_below hbl)).at hlt
        obtain ⟨g', off', ya, y, yc, rfl, hy1, hy2, hy3, _⟩ := (HB.out.kp (Kp.of_below hbl)).at (k := k) (by omega)
        have HX := hid hx1
        have HY := hid hy1
        have hlt' : k < b.length := by omega
        obtain ⟨B, hB⟩ : ∃ B, B = decide (x = y) := ⟨_, rfl⟩
        have HC : Hid (∀ W, Below wr.heap.size wr W → Calls Tryd.prog 16 #[.slice xa x.length xc, .slice ya y.length yc] W fun e w' => e = .returned (.bool B) ∧ Below W.heap.size W w') := fun W hW => by
          refine (same_any _ _ x y W (hx3.kp (Kp.of_below hW)) (hy3.kp (Kp.of_below hW))).mono ?_
          rintro e w' ⟨rfl, n, hw⟩
          exact ⟨by rw [hB], drawn_below hw⟩
        have HBq := hid hB
        clear hx1 hy1 hx3 hy3 hB
        go_wp2_with fail
        refine region_below (by kernel_rfl) (by kernel_rfl) ?_
        (go_big_quiet_want; go_big_quiet_op; go_big_quiet_on)
        (go_big_quiet_want; go_big_quiet_op; go_big_quiet_on)
        go_big_quiet_want
        refine ⟨.pointer (some ⟨g, off + k, none⟩), fun w' hw' => ?_, ?_⟩
        · unfold Oper.quietAt; go_simp
        simp only [Act.put, List.setIfInBounds_toArray, List.set_cons_zero, List.set_cons_succ]
        go_big_quiet_on
        go_big_quiet_want
        refine ⟨.slice xa x.length xc, fun w' hw' => ?_, ?_⟩
        · have hh0 := (Kp.of_below hw').cell _ _ hx2; unfold Oper.quietAt; go_simp
        simp only [Act.put, List.setIfInBounds_toArray, List.set_cons_zero, List.set_cons_succ]
        go_big_quiet_on
        (go_big_quiet_want; go_big_quiet_op; go_big_quiet_on)
        (go_big_quiet_want; go_big_quiet_op; go_big_quiet_on)
        go_big_quiet_want
        refine ⟨.pointer (some ⟨g', off' + k, none⟩), fun w' hw' => ?_, ?_⟩
        · unfold Oper.quietAt; go_simp
        simp only [Act.put, List.setIfInBounds_toArray, List.set_cons_zero, List.set_cons_succ]
        go_big_quiet_on
        go_big_quiet_want
        refine ⟨.slice ya y.length yc, fun w' hw' => ?_, ?_⟩
        · have hh0 := (Kp.of_below hw').cell _ _ hy2; unfold Oper.quietAt; go_simp
        simp only [Act.put, List.setIfInBounds_toArray, List.set_cons_zero, List.set_cons_succ]
        go_big_quiet_on
        go_big_quiet_want
        refine ⟨.bool B, fun w' hw' => ?_, ?_⟩
        · unfold Oper.quietAt; go_simp; exact (HC.out w' hw').mono (fun e w2 ⟨he, hb⟩ => ⟨he, below_step hw' hb⟩)
        simp only [Act.put, List.setIfInBounds_toArray, List.set_cons_zero, List.set_cons_succ]
        go_big_quiet_on
        go_big_quiet_want
        refine ⟨.bool (!B), fun w' hw' => ?_, ?_⟩
        · unfold Oper.quietAt; go_simp
        simp only [Act.put, List.setIfInBounds_toArray, List.set_cons_zero, List.set_cons_succ]
        go_big_quiet_on
        refine wpQuiet_nil ?_
        intro w2 hb2
        have HB2 := hid (below_step HBl.out hb2)
        clear hb2 HC
        cases B
        · have HE : Hid (decide (a = b) = false) := decide_eq_false (by
            rintro rfl
            have h1 := HX.out.symm.trans HY.out
            simp at h1
            subst h1
            have h2 := HBq.out
            rw [decide_eq_true rfl] at h2
            cases h2)
          go_wp2
          go_ret
          exact ⟨ret1b HE.out.symm, HB2.out⟩
        · have HE : Hid (a.take (k + 1) = b.take (k + 1)) := by
            show _ = _
            rw [take_get HX.out, take_get HY.out, HT.out, of_decide_eq_true HBq.out.symm]
          go_wp2
          go_roundw
          case rel => exact ⟨k + 1, by omega, by go_num, HE.out, HB2.out⟩
          case measure => simp [intOf]; omega
      · have hk' : k = a.length := by omega
        have HE : Hid (decide (a = b) = true) := by
          have h9 := HT.out
          rw [List.take_of_length_le (by omega), List.take_of_length_le (by omega)] at h9
          exact decide_eq_true h9
        go_wp2
        go_ret
        exact ⟨ret1b HE.out.symm, hbl⟩
  · have hne : ((a.length : Int) != b.length) = true := by rw [bne_iff_ne]; omega
    have HE : Hid (decide (a = b) = false) := decide_eq_false (fun h => hl (by rw [h]))
    go_enter Tryd.func21, Tryd.ntmps21
    go_wp2
    go_ret
    exact ⟨ret1b HE.out.symm, Below.refl _ _⟩

theorem join_row (ty : TypeId) {w : World} {base n : Nat} {x u : Value} {vs : List Value} (ho : w.ownsRow base 30 1 x n vs) (hb : base ≤ w.heap.size) (hl : (n + 1) * 24 ≤ 140737488355328) (hu : u.oneCell' = true) :
    ∃ v' w', (Builtin.append_ #[37, 37] ty #[x, .slice (some ⟨w.heap.size, 0, none⟩) 1 1]).run Tryd.prog (w.alloc (.cells #[u] 30)) = .ok v' w' ∧ w'.ownsRow base 30 1 v' (n + 1) (vs ++ [u]) ∧ (w.alloc (.cells #[u] 30)).grownBy w' x.ownBlock := by
  obtain ⟨i1, hi1, hy0, hy1, hy2⟩ := info_parts info_ints
  obtain ⟨v', w', hr, h2, h3, _, _⟩ := run_append_own_at (P := Tryd.prog) (w.alloc (.cells #[u] 30)) base 37 ty 30 i1 _ 1 24 under_rows hi1 hy0 hy1 hy2 rfl (by decide) x n vs (ownsRow_later ho (below_alloc _)) ⟨w.heap.size, 0, none⟩ 1 1 [u] rfl
    (fun j y hj => by
      rw [Addr.add_lit, Nat.zero_add]
      cases j with
      | zero =>
        simp at hj
        subst hj
        exact cell_new rfl
      | succ j => simp at hj) (fun y hy => by simp at hy; subst hy; exact hu) (by unfold maxLen; omega) (by omega) (Nat.le_trans hb (below_alloc _).size)
  exact ⟨v', w', hr, h2, h3⟩

end Go.Proofs.YtifpanfgojfbkaaDoor
