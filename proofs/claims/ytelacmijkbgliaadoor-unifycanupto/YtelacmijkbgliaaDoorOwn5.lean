/- Texts of the proof, one behind the other. -/
import Derived.Test.YtelacmijkbgliaaDoorOwn4
import Derived.Test.YtelacmijkbgliaaDoorOwn3
import Derived.Test.YtelacmijkbgliaaDoorOwn1
import Derived.BigRegion
/- Rows of pairs and rows of classes of package unify. -/
namespace Go.Proofs.YtelacmijkbgliaaDoor
open Go.RowKit Go.Maps Go.BigFrame

theorem info_pair6 : (Tryd.prog.info? 97).map (fun i => (i.zero, i.size, i.bytes)) = some (some (.agg #[.nilIface, .nilIface]), 2, 32) := by kernel_rfl
theorem under_pairs6 : Tryd.prog.underlying 98 = some (.slice 97) := by kernel_rfl

/-- A row of pairs of one's own. -/
def OwP6 (w : World) (base : Nat) (v : Value) (xs : List (Value × Value)) : Prop := w.ownsRow base 97 2 v xs.length (prC xs)

/-- Pairs joined to a row of pairs. -/
theorem join_pairs6 (ty : TypeId) {w : World} {base : Nat} {x : Value} {xs ys : List (Value × Value)} {ao : Option Addr} {cap : Nat} (ho : OwP6 w base x xs) (hr : ys = [] ∨ ∃ g off, ao = some ⟨g, off, none⟩ ∧ ∀ (j : Nat) (u : Value), (prC ys)[j]? = some u → w.cell? ⟨g, off + j, none⟩ = some u)
    (h1 : ∀ u ∈ prC ys, u.oneCell' = true) (hb : base ≤ w.heap.size) (hl : (xs.length + ys.length) * 32 ≤ 140737488355328) :
    ∃ v' w', (Builtin.append_ #[98, 98] ty #[x, .slice ao ys.length cap]).run Tryd.prog w = .ok v' w' ∧ OwP6 w' base v' (xs ++ ys) ∧ w.grownBy w' x.ownBlock ∧ (v'.ownBlock = x.ownBlock ∨ v'.ownBlock = some w.heap.size) := by
  obtain ⟨i0, hi, hz0, hz1, hz2⟩ := info_parts info_pair6
  have hshape : ∃ bo bc, x = .slice bo xs.length bc ∧ xs.length ≤ bc := by
    rcases ho.2 with ⟨h8, h9⟩ | ⟨g8, c8, cur8, h8, _, _, h9, _⟩
    · exact ⟨none, 0, by rw [h8, h9], by omega⟩
    · exact ⟨_, c8, h8, h9⟩
  by_cases h0 : ys = []
  · subst h0
    obtain ⟨bo, bc, rfl, hbc⟩ := hshape
    refine ⟨_, w, run_append_nothing w 98 98 ty 97 i0 under_pairs6 hi _ xs.length bc hbc _ ?_, by rw [List.append_nil]; exact ho, World.grownBy.refl _ _, .inl rfl⟩
    cases ao with
    | none => exact Src.ofNil w under_pairs6 _
    | some a => exact Src.ofSlice w under_pairs6 a 0 _ [] (by simp) (fun j u hj => (by simp at hj)) (fun u hu => (by simp at hu))
  · obtain ⟨g, off, rfl, hc⟩ : ∃ g off, ao = some ⟨g, off, none⟩ ∧ ∀ (j : Nat) (u : Value), (prC ys)[j]? = some u → w.cell? ⟨g, off + j, none⟩ = some u := by
      rcases hr with hr | hr
      · exact absurd hr h0
      · exact hr
    obtain ⟨v', w', hr, g2, g3, _, g5⟩ := run_append_own_at (P := Tryd.prog) w base 98 ty 97 i0 _ 2 32 under_pairs6 hi hz0 hz1 hz2 rfl (by decide) x xs.length (prC xs) ho ⟨g, off, none⟩ ys.length cap (prC ys) (prC_len ys)
      (fun j u hj => by rw [Addr.add_lit]; exact hc j u hj) h1 (by unfold maxLen; omega) (by omega) hb
    refine ⟨v', w', hr, ?_, g3, g5⟩
    unfold OwP6
    rw [List.length_append, prC_app]
    exact g2

theorem own_cutP6 {w : World} {base : Nat} {ao : Option Addr} {cap k : Nat} {xs : List (Value × Value)} (h : OwP6 w base (.slice ao xs.length cap) xs) (hk : k ≤ xs.length) : OwP6 w base (.slice ao k cap) (xs.take k) := by
  have h1 := h.1
  have hl : (xs.take k).length = k := by rw [List.length_take]; omega
  unfold OwP6
  rw [hl]
  refine ⟨by rw [prC_len, hl], ?_⟩
  rcases h.2 with ⟨hv, hn⟩ | ⟨g, cp, cur, hv, hb, hg, hc, hm, hs, ht⟩
  · simp only [Value.slice.injEq] at hv
    obtain ⟨rfl, _, rfl⟩ := hv
    obtain rfl : k = 0 := by omega
    exact .inl ⟨rfl, rfl⟩
  · simp only [Value.slice.injEq] at hv
    obtain ⟨rfl, _, rfl⟩ := hv
    refine .inr ⟨g, cap, cur, rfl, hb, hg, by omega, hm, hs, ?_⟩
    have e1 : prC (xs.take k) = (prC xs).take (k * 2) := by
      have e2 : prC xs = prC (xs.take k) ++ prC (xs.drop k) := by rw [← prC_app, List.take_append_drop]
      have e3 : (prC (xs.take k)).length = k * 2 := by rw [prC_len, hl]
      rw [e2, ← e3, List.take_left]
    rw [e1, ← ht, List.take_take, Nat.min_eq_left (by omega)]

/-- The last one of a row of pairs. -/
theorem own_lastP6 {w : World} {base : Nat} {v : Value} {xs : List (Value × Value)} {k : Nat} {p : Value × Value} (h : OwP6 w base v xs) (hk : xs[k]? = some p) : ∃ g cap, v = .slice (some ⟨g, 0, none⟩) xs.length cap ∧ base ≤ g ∧ xs.length ≤ cap ∧ cap ≤ 9223372036854775807 ∧ w.cell? ⟨g, k * 2, none⟩ = some p.1 ∧ w.cell? ⟨g, k * 2 + 1, none⟩ = some p.2 := by
  have hkl := (List.getElem?_eq_some_iff.1 hk).1
  obtain ⟨c1, c2⟩ := prC_at xs k p hk
  have hlen := prC_len xs
  rcases h.2 with ⟨_, hn⟩ | ⟨g, cp, cur, hv, hb, hg, hc, hm, hs, ht⟩
  · omega
  · subst hv
    unfold maxLen at hm
    refine ⟨g, cp, rfl, hb, hc, by omega, ?_, ?_⟩
    · rw [World.ownsRow.cellAt h (k * 2) (by omega)]
      exact c1
    · rw [World.ownsRow.cellAt h (k * 2 + 1) (by omega)]
      exact c2

theorem info_clp : (Tryd.prog.info? 68).map (fun i => (i.zero, i.size, i.bytes)) = some (some (.pointer none), 1, 8) := by kernel_rfl
theorem under_clps : Tryd.prog.underlying 102 = some (.slice 68) := by kernel_rfl

/-- A row of classes of one's own. -/
def OwC6 (w : World) (base : Nat) (M : List Nm) (v : Value) (xs : List Nat) : Prop := w.ownsRow base 68 1 v xs.length (xs.map (clV M))

/-- Classes joined to a row of classes. -/
theorem join_cls6 (ty : TypeId) {w : World} {base : Nat} {M : List Nm} {x : Value} {xs ys : List Nat} {ao : Option Addr} {cap : Nat} (ho : OwC6 w base M x xs) (hr : ys = [] ∨ ∃ g off, ao = some ⟨g, off, none⟩ ∧ ∀ (j y : Nat), ys[j]? = some y → w.cell? ⟨g, off + j, none⟩ = some (clV M y))
    (hb : base ≤ w.heap.size) (hl : (xs.length + ys.length) * 8 ≤ 140737488355328) :
    ∃ v' w', (Builtin.append_ #[102, 102] ty #[x, .slice ao ys.length cap]).run Tryd.prog w = .ok v' w' ∧ OwC6 w' base M v' (xs ++ ys) ∧ w.grownBy w' x.ownBlock ∧ (v'.ownBlock = x.ownBlock ∨ v'.ownBlock = some w.heap.size) := by
  obtain ⟨i0, hi, hz0, hz1, hz2⟩ := info_parts info_clp
  have hshape : ∃ bo bc, x = .slice bo xs.length bc ∧ xs.length ≤ bc := by
    rcases ho.2 with ⟨h8, h9⟩ | ⟨g8, c8, cur8, h8, _, _, h9, _⟩
    · exact ⟨none, 0, by rw [h8, h9], by omega⟩
    · exact ⟨_, c8, h8, h9⟩
  by_cases h0 : ys = []
  · subst h0
    obtain ⟨bo, bc, rfl, hbc⟩ := hshape
    refine ⟨_, w, run_append_nothing w 102 102 ty 68 i0 under_clps hi _ xs.length bc hbc _ ?_, by rw [List.append_nil]; exact ho, World.grownBy.refl _ _, .inl rfl⟩
    cases ao with
    | none => exact Src.ofNil w under_clps _
    | some a => exact Src.ofSlice w under_clps a 0 _ [] (by simp) (fun j u hj => (by simp at hj)) (fun u hu => (by simp at hu))
  · obtain ⟨g, off, rfl, hc⟩ : ∃ g off, ao = some ⟨g, off, none⟩ ∧ ∀ (j y : Nat), ys[j]? = some y → w.cell? ⟨g, off + j, none⟩ = some (clV M y) := by
      rcases hr with hr | hr
      · exact absurd hr h0
      · exact hr
    obtain ⟨v', w', hr, g2, g3, _, g5⟩ := run_append_own_at (P := Tryd.prog) w base 102 ty 68 i0 _ 1 8 under_clps hi hz0 hz1 hz2 rfl (by decide) x xs.length (xs.map (clV M)) ho ⟨g, off, none⟩ ys.length cap (ys.map (clV M)) (by rw [List.length_map, Nat.mul_one])
      (fun j u hj => by
        rw [Addr.add_lit]
        rw [List.getElem?_map] at hj
        cases hy : ys[j]? with
        | none => rw [hy] at hj; cases hj
        | some y =>
          rw [hy] at hj
          cases hj
          exact hc j y hy) (fun u hu => by obtain ⟨y, _, rfl⟩ := List.mem_map.1 hu; rfl) (by unfold maxLen; omega) (by omega) hb
    refine ⟨v', w', hr, ?_, g3, g5⟩
    unfold OwC6
    rw [List.length_append, List.map_append]
    exact g2

theorem OwC6.shape {w : World} {base : Nat} {M : List Nm} {v : Value} {xs : List Nat} (h : OwC6 w base M v xs) : ∃ ao cap, v = .slice ao xs.length cap ∧ xs.length ≤ cap ∧ cap ≤ maxLen := by
  rcases h.2 with ⟨rfl, hn⟩ | ⟨g, cap, cur, rfl, hb, hg, hc, hm, hs, ht⟩
  · exact ⟨none, 0, by rw [hn], by omega, by simp [maxLen]⟩
  · exact ⟨_, cap, rfl, hc, hm⟩

theorem own_cut6 {w : World} {base : Nat} {M : List Nm} {ao : Option Addr} {cap k : Nat} {xs : List Nat} (h : OwC6 w base M (.slice ao xs.length cap) xs) (hk : k ≤ xs.length) : OwC6 w base M (.slice ao k cap) (xs.take k) := by
  have h1 := h.1
  have hl : (xs.take k).length = k := by rw [List.length_take]; omega
  unfold OwC6
  rw [hl]
  refine ⟨by rw [List.length_map, hl, Nat.mul_one], ?_⟩
  rcases h.2 with ⟨hv, hn⟩ | ⟨g, cp, cur, hv, hb, hg, hc, hm, hs, ht⟩
  · simp only [Value.slice.injEq] at hv
    obtain ⟨rfl, _, rfl⟩ := hv
    obtain rfl : k = 0 := by omega
    exact .inl ⟨rfl, rfl⟩
  · simp only [Value.slice.injEq] at hv
    obtain ⟨rfl, _, rfl⟩ := hv
    refine .inr ⟨g, cap, cur, rfl, hb, hg, by omega, hm, hs, ?_⟩
    rw [List.map_take, ← ht, List.take_take, Nat.mul_one, Nat.mul_one, Nat.min_eq_left hk]

theorem own_last6 {w : World} {base : Nat} {M : List Nm} {v : Value} {xs : List Nat} {k x : Nat} (h : OwC6 w base M v xs) (hk : xs[k]? = some x) : ∃ g cap, v = .slice (some ⟨g, 0, none⟩) xs.length cap ∧ base ≤ g ∧ xs.length ≤ cap ∧ cap ≤ 9223372036854775807 ∧ w.cell? ⟨g, k, none⟩ = some (clV M x) := by
  have hkl := (List.getElem?_eq_some_iff.1 hk).1
  rcases h.2 with ⟨_, hn⟩ | ⟨g, cp, cur, hv, hb, hg, hc, hm, hs, ht⟩
  · omega
  · subst hv
    unfold maxLen at hm
    refine ⟨g, cp, rfl, hb, hc, by omega, ?_⟩
    rw [World.ownsRow.cellAt h k (by rw [Nat.mul_one]; exact hkl), List.getElem?_map, hk]
    rfl

/-- A row of one's own is kept where classes alone are written. -/
theorem own_ch6 {w w' : World} {base : Nat} {e : TypeId} {s n : Nat} {v : Value} {xs : List Value} {M : List Nm} (h : w.ownsRow base e s v n xs) (hc : Ch6 M w w') (hm : ∀ m ∈ M, m.cls < base) : w'.ownsRow base e s v n xs := by
  refine ⟨h.1, ?_⟩
  rcases h.2 with h | ⟨g, cap, cur, hv, hb, hg, r⟩
  · exact .inl h
  · exact .inr ⟨g, cap, cur, hv, hb, (hc.block g (Array.getElem?_eq_some_iff.1 hg).1 (fun m hm' e => by have := hm m hm'; omega)).trans hg, r⟩

theorem own_grown6 {w w' : World} {base : Nat} {e : TypeId} {s n : Nat} {v : Value} {xs : List Value} {row : Option Nat} (h : w.ownsRow base e s v n xs) (hg : w.grownBy w' row) (hr : v.ownBlock = none ∨ v.ownBlock ≠ row) : w'.ownsRow base e s v n xs := by
  refine ⟨h.1, ?_⟩
  rcases h.2 with h | ⟨g, cap, cur, rfl, hb, hgg, r⟩
  · exact .inl h
  · refine .inr ⟨g, cap, cur, rfl, hb, (hg.block g (Array.getElem?_eq_some_iff.1 hgg).1 ?_).trans hgg, r⟩
    rcases hr with hr | hr
    · cases hr
    · exact hr

end Go.Proofs.YtelacmijkbgliaaDoor

/- slices.Clone and slices.Reverse at trees and classes of package unify. -/
namespace Go.Proofs.YtelacmijkbgliaaDoor
open Go.RowKit Go.Maps Go.BigFrame

/-- A pointer. -/
def PtV (u : Value) : Prop := ∃ x, u = .pointer x

set_option maxRecDepth 1000000 in
set_option maxHeartbeats 1600000 in
theorem reverseC6_any (v : Value) (vals : List Value) (base : Nat) (w : World) (h : w.ownsRow base 68 1 v vals.length vals) (hif : ∀ u ∈ vals, PtV u) :
    Calls Tryd.prog 70 #[v] w fun e w' => e = .returned (.tuple #[]) ∧ w'.ownsRow base 68 1 v vals.length vals.reverse ∧ w.grownBy w' v.ownBlock := by
  have hsh : ∃ ao cap, v = .slice ao vals.length cap ∧ vals.length ≤ cap ∧ cap ≤ maxLen := by
    rcases h.2 with ⟨rfl, hn⟩ | ⟨g, cap, cur, rfl, hb, hg, hc, hm, hs, ht⟩
    · exact ⟨none, 0, by rw [hn], by omega, by simp [maxLen]⟩
    · exact ⟨_, cap, rfl, hc, hm⟩
  obtain ⟨ao, cap, rfl, hc1, hc2⟩ := hsh
  unfold maxLen at hc2
  have HV := hid h
  have HIf := hid hif
  clear h hif
  have mixed : Tryd.prog.follows .mixedOrders = true := by kernel_rfl
  go_enter Tryd.func70, Tryd.ntmps70
  go_wp2
  go_loopg [2, 3] vals.length (fun k s2 s3 wr => ∃ (i jn : Nat) (jz : Int) (dk : Array Value), s2 = .int .i64 i ∧ s3 = .int .i64 jz ∧ ((i : Int) < jz → jz = jn ∧ jn < vals.length) ∧ (¬ (i : Int) < jz → ¬ i < jn) ∧ jn - i ≤ k ∧
    dk.size = vals.length ∧ (∀ u ∈ dk.toList, PtV u) ∧ wr.ownsRow base 68 1 (.slice ao vals.length cap) vals.length dk.toList ∧ w.grownBy wr (Value.slice ao vals.length cap).ownBlock ∧ Sort.reverseLoop i jn dk = Sort.reverseLoop 0 (vals.length - 1) vals.toArray)
  case atStart => exact ⟨0, vals.length - 1, (vals.length : Int) - 1, vals.toArray, rfl, rfl, fun h => ⟨by omega, by omega⟩, fun h => by omega, by omega, by simp, HIf.out, HV.out, World.grownBy.refl _ _, rfl⟩
  case round =>
    obtain ⟨i, jn, jz, dk, rfl, rfl, h1, h2, hk, hds, hifd, how, hgr, heq⟩ := hrel
    by_cases hlt : (i : Int) < jz
    · obtain ⟨rfl, hjn⟩ := h1 hlt
      have hij : i < jn := by omega
      obtain ⟨g, cp, hv⟩ := own_form (v := .slice ao vals.length cap) how (by omega)
      simp only [Value.slice.injEq] at hv
      obtain ⟨rfl, _, rfl⟩ := hv
      have ci : wr.cell? ⟨g, i, none⟩ = some dk[i]! := by
        rw [World.ownsRow.cellAt how i (by omega)]
        simp [getElem!_pos, show i < dk.size by omega]
      have cj : wr.cell? ⟨g, jn, none⟩ = some dk[jn]! := by
        rw [World.ownsRow.cellAt how jn (by omega)]
        simp [getElem!_pos, show jn < dk.size by omega]
      have fi := World.ownsRow.frozenAt how i
      have fj := World.ownsRow.frozenAt how jn
      have HOw := hid how
      have HGr := hid hgr
      have HEq := hid heq
      have hil : i < vals.length := by omega
      obtain ⟨xi, hxi⟩ : ∃ x, x = dk[i]! := ⟨_, rfl⟩
      obtain ⟨xj, hxj⟩ : ∃ x, x = dk[jn]! := ⟨_, rfl⟩
      rw [← hxi] at ci
      rw [← hxj] at cj
      obtain ⟨yi, hyi⟩ : PtV xi := by rw [hxi, getElem!_pos dk i (by omega)]; exact hifd _ (Array.getElem_mem_toList (by omega))
      obtain ⟨yj, hyj⟩ : PtV xj := by rw [hxj, getElem!_pos dk jn (by omega)]; exact hifd _ (Array.getElem_mem_toList (by omega))
      subst hyi
      subst hyj
      have HXi := hid hxi
      have HXj := hid hxj
      have HIf2 : Hid (∀ u ∈ (Sort.swp dk i jn).toList, PtV u) := fun u hu => hifd u (swp_mem (by omega) (by omega) hu)
      clear hifd
      clear how hgr heq hxi hxj h1 h2
      have hst := (World.ownsRow.stored HOw.out i (.pointer yj)).1
      have hst2 := (World.ownsRow.stored hst jn (.pointer yi)).1
      have HS2 : Hid (((wr.setCell ⟨g, i, none⟩ (.pointer yj)).setCell ⟨g, jn, none⟩ (.pointer yi)).drew.ownsRow base 68 1 (.slice (some ⟨g, 0, none⟩) vals.length cap) vals.length (Sort.swp dk i jn).toList) := by
        rw [swp_list (by omega) (by omega), ← HXi.out, ← HXj.out]
        exact ownsRow_later hst2 (drawn_below1 _)
      have HG2 : Hid (w.grownBy ((wr.setCell ⟨g, i, none⟩ (.pointer yj)).setCell ⟨g, jn, none⟩ (.pointer yi)).drew (some g)) :=
        grown_trans HGr.out (grown_trans (set_grownT wr g i (.pointer yj)) (grown_trans (set_grownT _ g jn (.pointer yi)) (grown_of_below (drawn_below1 _) _)))
      clear hst hst2
      go_wp2_with fail
      go_region_o
      go_wp2
      go_roundg (jn - 1 - (i + 1))
      case measure => omega
      case rel =>
        have h9 := HEq.out
        rw [Sort.reverseLoop, if_pos hij] at h9
        exact ⟨i + 1, jn - 1, (jn : Int) - 1, Sort.swp dk i jn, by simp, rfl, fun h => ⟨by omega, by omega⟩, fun h => by omega, Nat.le_refl _, by rw [Sort.size_swp]; exact hds, HIf2.out, HS2.out, HG2.out, h9⟩
    · have hnot := h2 hlt
      have HR : Hid (dk.toList = vals.reverse) := by
        show _ = _
        rw [Sort.reverseLoop, if_neg hnot] at heq
        have h9 := Lib.reverseLoop_reverse vals.toArray
        rw [show vals.toArray.size = vals.length by simp] at h9
        rw [heq, h9]
        simp
      have HOw := hid how
      have HGr := hid hgr
      clear how hgr heq
      go_wp2
      go_end0
      exact ⟨rfl, by rw [← HR.out]; exact HOw.out, HGr.out⟩

set_option maxRecDepth 1000000 in
set_option maxHeartbeats 1600000 in
theorem reverseT6_any (v : Value) (vals : List Value) (base : Nat) (w : World) (h : w.ownsRow base 64 1 v vals.length vals) (hif : ∀ u ∈ vals, IfV u) :
    Calls Tryd.prog 60 #[v] w fun e w' => e = .returned (.tuple #[]) ∧ w'.ownsRow base 64 1 v vals.length vals.reverse ∧ w.grownBy w' v.ownBlock := by
  have hsh : ∃ ao cap, v = .slice ao vals.length cap ∧ vals.length ≤ cap ∧ cap ≤ maxLen := by
    rcases h.2 with ⟨rfl, hn⟩ | ⟨g, cap, cur, rfl, hb, hg, hc, hm, hs, ht⟩
    · exact ⟨none, 0, by rw [hn], by omega, by simp [maxLen]⟩
    · exact ⟨_, cap, rfl, hc, hm⟩
  obtain ⟨ao, cap, rfl, hc1, hc2⟩ := hsh
  unfold maxLen at hc2
  have HV := hid h
  have HIf := hid hif
  clear h hif
  have mixed : Tryd.prog.follows .mixedOrders = true := by kernel_rfl
  go_enter Tryd.func60, Tryd.ntmps60
  go_wp2
  go_loopg [2, 3] vals.length (fun k s2 s3 wr => ∃ (i jn : Nat) (jz : Int) (dk : Array Value), s2 = .int .i64 i ∧ s3 = .int .i64 jz ∧ ((i : Int) < jz → jz = jn ∧ jn < vals.length) ∧ (¬ (i : Int) < jz → ¬ i < jn) ∧ jn - i ≤ k ∧
    dk.size = vals.length ∧ (∀ u ∈ dk.toList, IfV u) ∧ wr.ownsRow base 64 1 (.slice ao vals.length cap) vals.length dk.toList ∧ w.grownBy wr (Value.slice ao vals.length cap).ownBlock ∧ Sort.reverseLoop i jn dk = Sort.reverseLoop 0 (vals.length - 1) vals.toArray)
  case atStart => exact ⟨0, vals.length - 1, (vals.length : Int) - 1, vals.toArray, rfl, rfl, fun h => ⟨by omega, by omega⟩, fun h => by omega, by omega, by simp, HIf.out, HV.out, World.grownBy.refl _ _, rfl⟩
  case round =>
    obtain ⟨i, jn, jz, dk, rfl, rfl, h1, h2, hk, hds, hifd, how, hgr, heq⟩ := hrel
    by_cases hlt : (i : Int) < jz
    · obtain ⟨rfl, hjn⟩ := h1 hlt
      have hij : i < jn := by omega
      obtain ⟨g, cp, hv⟩ := own_form (v := .slice ao vals.length cap) how (by omega)
      simp only [Value.slice.injEq] at hv
      obtain ⟨rfl, _, rfl⟩ := hv
      have ci : wr.cell? ⟨g, i, none⟩ = some dk[i]! := by
        rw [World.ownsRow.cellAt how i (by omega)]
        simp [getElem!_pos, show i < dk.size by omega]
      have cj : wr.cell? ⟨g, jn, none⟩ = some dk[jn]! := by
        rw [World.ownsRow.cellAt how jn (by omega)]
        simp [getElem!_pos, show jn < dk.size by omega]
      have fi := World.ownsRow.frozenAt how i
      have fj := World.ownsRow.frozenAt how jn
      have HOw := hid how
      have HGr := hid hgr
      have HEq := hid heq
      have hil : i < vals.length := by omega
      obtain ⟨xi, hxi⟩ : ∃ x, x = dk[i]! := ⟨_, rfl⟩
      obtain ⟨xj, hxj⟩ : ∃ x, x = dk[jn]! := ⟨_, rfl⟩
      rw [← hxi] at ci
      rw [← hxj] at cj
      obtain ⟨ti, yi, hyi⟩ : IfV xi := by rw [hxi, getElem!_pos dk i (by omega)]; exact hifd _ (Array.getElem_mem_toList (by omega))
      obtain ⟨tj, yj, hyj⟩ : IfV xj := by rw [hxj, getElem!_pos dk jn (by omega)]; exact hifd _ (Array.getElem_mem_toList (by omega))
      subst hyi
      subst hyj
      have HXi := hid hxi
      have HXj := hid hxj
      have HIf2 : Hid (∀ u ∈ (Sort.swp dk i jn).toList, IfV u) := fun u hu => hifd u (swp_mem (by omega) (by omega) hu)
      clear hifd
      clear how hgr heq hxi hxj h1 h2
      have hst := (World.ownsRow.stored HOw.out i (.iface tj yj)).1
      have hst2 := (World.ownsRow.stored hst jn (.iface ti yi)).1
      have HS2 : Hid (((wr.setCell ⟨g, i, none⟩ (.iface tj yj)).setCell ⟨g, jn, none⟩ (.iface ti yi)).drew.ownsRow base 64 1 (.slice (some ⟨g, 0, none⟩) vals.length cap) vals.length (Sort.swp dk i jn).toList) := by
        rw [swp_list (by omega) (by omega), ← HXi.out, ← HXj.out]
        exact ownsRow_later hst2 (drawn_below1 _)
      have HG2 : Hid (w.grownBy ((wr.setCell ⟨g, i, none⟩ (.iface tj yj)).setCell ⟨g, jn, none⟩ (.iface ti yi)).drew (some g)) :=
        grown_trans HGr.out (grown_trans (set_grownT wr g i (.iface tj yj)) (grown_trans (set_grownT _ g jn (.iface ti yi)) (grown_of_below (drawn_below1 _) _)))
      clear hst hst2
      go_wp2_with fail
      go_region_o
      go_wp2
      go_roundg (jn - 1 - (i + 1))
      case measure => omega
      case rel =>
        have h9 := HEq.out
        rw [Sort.reverseLoop, if_pos hij] at h9
        exact ⟨i + 1, jn - 1, (jn : Int) - 1, Sort.swp dk i jn, by simp, rfl, fun h => ⟨by omega, by omega⟩, fun h => by omega, Nat.le_refl _, by rw [Sort.size_swp]; exact hds, HIf2.out, HS2.out, HG2.out, h9⟩
    · have hnot := h2 hlt
      have HR : Hid (dk.toList = vals.reverse) := by
        show _ = _
        rw [Sort.reverseLoop, if_neg hnot] at heq
        have h9 := Lib.reverseLoop_reverse vals.toArray
        rw [show vals.toArray.size = vals.length by simp] at h9
        rw [heq, h9]
        simp
      have HOw := hid how
      have HGr := hid hgr
      clear how hgr heq
      go_wp2
      go_end0
      exact ⟨rfl, by rw [← HR.out]; exact HOw.out, HGr.out⟩

end Go.Proofs.YtelacmijkbgliaaDoor

/- take of package unify walked. -/
namespace Go.Proofs.YtelacmijkbgliaaDoor
open Go.RowKit Go.Maps Go.BigFrame

theorem ndI_form {M : List Nm} {i : Nat} (h : i < M.length) : ∃ ty b, ndI M i = .iface ty (.pointer (some ⟨b, 0, none⟩)) := by
  have e : M[i]? = some M[i] := List.getElem?_eq_getElem h
  rw [ndI_eq e]
  unfold ndV
  split
  · exact ⟨_, _, rfl⟩
  · exact ⟨_, _, rfl⟩

theorem if_self7 {f : Nat → Option Nat} {j d : Nat} {o : Option Nat} : (fun i => if i = j then (if j = d then o else f j) else if i = d then o else f i) = fun i => if i = d then o else f i := by
  funext i
  by_cases e : i = j
  · rw [if_pos e, e]
  · rw [if_neg e]

theorem faceN_lt {M : List Nm} {a b : Nat} (ha : a < M.length) (hb : b < M.length) : faceN (M.map Nm.nd) a b < M.length := by
  rcases uni_face (M.map Nm.nd) a b with h | h <;> rw [h] <;> assumption

set_option maxRecDepth 100000 in
set_option maxHeartbeats 3200000 in
theorem take_any {w : World} {B T : Nat} {M : List Nm} {into : Nat → Option Nat} {face : Nat → Nat} {cnt : Nat → Int} (hb : Bd6 w B T M into face cnt) {c d : Nat} {mc md : Nm} (hmc : M[c]? = some mc) (hmd : M[d]? = some md) (_hne : c ≠ d) (hfc : face c < M.length) (hfd : face d < M.length) :
    Calls Tryd.prog 63 #[.pointer (some ⟨mc.cls, 0, none⟩), .pointer (some ⟨md.cls, 0, none⟩)] w fun e w' => e = .returned (.tuple #[]) ∧ ∃ c' d', ((c' = c ∧ d' = d) ∨ (c' = d ∧ d' = c)) ∧ Bd6 w' B T M (fun i => if i = d' then some c' else into i) (fun i => if i = c' then faceN (M.map Nm.nd) (face c') (face d') else face i) cnt ∧ Ch6 M w w' := by
  have HB := hid hb
  have HMc := hid hmc
  have HMd := hid hmd
  obtain ⟨kc, _, _, xc1, _, _⟩ := hb.clc hmc
  obtain ⟨kd, _, _, xd1, _, _⟩ := hb.clc hmd
  clear hb hmc hmd
  by_cases hlt : kc < kd
  · have hdl : decide (kc < kd) = true := decide_eq_true hlt
    clear hlt
    go_enter Tryd.func63, Tryd.ntmps63
    go_wp2
    go_quiet (fail)
    have J1 := hid (drawn_below (w := w) (n := nq) rfl)
    obtain ⟨w1, hw1⟩ : ∃ X, X = w.drewN nq := ⟨_, rfl⟩
    rw [← hw1] at J1
    go_upto_region 2 with fail
    rw [← hw1]
    clear hw1
    have hb1 := HB.out.later J1.out
    obtain ⟨kD, hkD, _, _, _, _⟩ := hb1.clc HMc.out
    have z0 : w1.cell? ⟨mc.cls, 0, none⟩ = some (inV M (into c)) := cell_of_row _ _ _ _ _ _ hkD
    have f0 : w1.frozen? ⟨mc.cls, 0, none⟩ = false := frozen_of_row _ _ _ _ _ hkD
    obtain ⟨W2, hW2⟩ : ∃ X, X = w1.setCell ⟨mc.cls, 0, none⟩ (.pointer (some ⟨md.cls, 0, none⟩)) := ⟨_, rfl⟩
    obtain ⟨hb2, hc2⟩ := hb1.put HMc.out (o := some d) (f := face c) (n := cnt c) (w' := W2) (by rw [hW2]; exact set_grown _ _ _ _) ⟨kD, by rw [hW2, inV_some HMd.out]; exact heap_setCell_same _ _ _ _ _ _ hkD⟩
    rw [if_self6, if_self6] at hb2
    have HC2 := hid ((Ch6.of_below J1.out).trans hc2)
    obtain ⟨kC2, hkC2, _, s1, _, _⟩ := hb2.clc HMd.out
    obtain ⟨kD2, hkD2, _, t1, _, _⟩ := hb2.clc HMc.out
    have f1 : W2.frozen? ⟨md.cls, 1, none⟩ = false := frozen_of_row _ _ _ _ _ hkC2
    have HB2 := hid hb2
    have HK2 := hid hkC2
    unfold inV at z0
    clear hb1 hkD hb2 hc2 hkC2 hkD2 xc1 xd1 hdl
    go_upto_region 3 with fail
    rw [← hW2]
    clear hW2 z0 f0
    go_region
    obtain ⟨W3, hW3⟩ : ∃ X, X = (W2.setCell ⟨md.cls, 1, none⟩ (.int .i64 (wrap64 (kC2 + kD2)))).drew := ⟨_, rfl⟩
    rw [← hW3]
    have hk3 : W3.heap[md.cls]? = some (.cells #[inV M (if d = c then some d else into d), .int .i64 (wrap64 (kC2 + kD2)), ndI M (face d), .int .i64 (cnt d)] 76) := by
      rw [hW3]
      show (World.setCell _ _ _).heap[md.cls]? = _
      exact heap_setCell_same _ _ _ _ _ _ HK2.out
    obtain ⟨hb3, hc3⟩ := HB2.out.put HMd.out (o := if d = c then some d else into d) (f := face d) (n := cnt d) (w' := W3) (by rw [hW3]; exact grown_trans (set_grown _ _ _ _) (grown_of_below (drawn_below1 _) _)) ⟨_, hk3⟩
    rw [if_self6, if_self6, if_self7] at hb3
    have HB3 := hid hb3
    have HC3 := hid (HC2.out.trans hc3)
    obtain ⟨kC3, hkC3, _, _, s2, _⟩ := hb3.clc HMd.out
    obtain ⟨kD3, hkD3, _, _, t2, _⟩ := hb3.clc HMc.out
    have HK3 := hid hkC3
    obtain ⟨ty, bF, hF⟩ := ndI_form (faceN_lt (M := M) hfd hfc)
    have HFo := hid (faceOf_any (hb3.later (drawn_below1 W3)) hfd hfc)
    rw [hF] at HFo
    have HFe := hid hF
    have f2 : W3.frozen? ⟨md.cls, 2, none⟩ = false := frozen_of_row _ _ _ _ _ hkC3
    have HDone : Hid (∀ k : Nat, Bd6 ((W3.drewN k).setCell ⟨md.cls, 2, none⟩ (.iface ty (.pointer (some ⟨bF, 0, none⟩)))) B T M (fun i => if i = c then some d else into i) (fun i => if i = d then faceN (M.map Nm.nd) (face d) (face c) else face i) cnt ∧ Ch6 M w ((W3.drewN k).setCell ⟨md.cls, 2, none⟩ (.iface ty (.pointer (some ⟨bF, 0, none⟩))))) := fun k => by
      have hd4 : Below W3.heap.size W3 (W3.drewN k) := drawn_below rfl
      have hb4 := HB3.out.later hd4
      have hk4 : (W3.drewN k).heap[md.cls]? = some (.cells #[inV M (if d = c then some d else into d), .int .i64 kC3, ndI M (face d), .int .i64 (cnt d)] 76) := (hd4.block _ (Array.getElem?_eq_some_iff.1 HK3.out).1).trans HK3.out
      obtain ⟨hb5, hc5⟩ := hb4.put HMd.out (o := if d = c then some d else into d) (f := faceN (M.map Nm.nd) (face d) (face c)) (n := cnt d) (w' := (W3.drewN k).setCell ⟨md.cls, 2, none⟩ (.iface ty (.pointer (some ⟨bF, 0, none⟩)))) (set_grown _ _ _ _) ⟨kC3, by rw [hF]; exact heap_setCell_same _ _ _ _ _ _ hk4⟩
      rw [if_self6, if_self7] at hb5
      exact ⟨hb5, (HC3.out.trans (Ch6.of_below hd4)).trans hc5⟩
    clear hW3 hk3 hb3 hc3 hkC3 hkD3 s1 t1 f1 hF
    go_upto_region 4 with fail
    go_region_with (first
      | (refine HFo.out.mono ?_; rintro e w4 ⟨rfl, n4, hw4⟩; subst hw4))
    all_goals (
      go_wp2
      go_end0
      exact ⟨rfl, d, c, .inr ⟨rfl, rfl⟩, (HDone.out _).1, (HDone.out _).2⟩)
  · have hdl : decide (kc < kd) = false := decide_eq_false hlt
    clear hlt
    go_enter Tryd.func63, Tryd.ntmps63
    go_wp2
    go_quiet (fail)
    have J1 := hid (drawn_below (w := w) (n := nq) rfl)
    obtain ⟨w1, hw1⟩ : ∃ X, X = w.drewN nq := ⟨_, rfl⟩
    rw [← hw1] at J1
    go_upto_region 2 with fail
    rw [← hw1]
    clear hw1
    have hb1 := HB.out.later J1.out
    obtain ⟨kD, hkD, _, _, _, _⟩ := hb1.clc HMd.out
    have z0 : w1.cell? ⟨md.cls, 0, none⟩ = some (inV M (into d)) := cell_of_row _ _ _ _ _ _ hkD
    have f0 : w1.frozen? ⟨md.cls, 0, none⟩ = false := frozen_of_row _ _ _ _ _ hkD
    obtain ⟨W2, hW2⟩ : ∃ X, X = w1.setCell ⟨md.cls, 0, none⟩ (.pointer (some ⟨mc.cls, 0, none⟩)) := ⟨_, rfl⟩
    obtain ⟨hb2, hc2⟩ := hb1.put HMd.out (o := some c) (f := face d) (n := cnt d) (w' := W2) (by rw [hW2]; exact set_grown _ _ _ _) ⟨kD, by rw [hW2, inV_some HMc.out]; exact heap_setCell_same _ _ _ _ _ _ hkD⟩
    rw [if_self6, if_self6] at hb2
    have HC2 := hid ((Ch6.of_below J1.out).trans hc2)
    obtain ⟨kC2, hkC2, _, s1, _, _⟩ := hb2.clc HMc.out
    obtain ⟨kD2, hkD2, _, t1, _, _⟩ := hb2.clc HMd.out
    have f1 : W2.frozen? ⟨mc.cls, 1, none⟩ = false := frozen_of_row _ _ _ _ _ hkC2
    have HB2 := hid hb2
    have HK2 := hid hkC2
    unfold inV at z0
    clear hb1 hkD hb2 hc2 hkC2 hkD2 xc1 xd1 hdl
    go_upto_region 3 with fail
    rw [← hW2]
    clear hW2 z0 f0
    go_region
    obtain ⟨W3, hW3⟩ : ∃ X, X = (W2.setCell ⟨mc.cls, 1, none⟩ (.int .i64 (wrap64 (kC2 + kD2)))).drew := ⟨_, rfl⟩
    rw [← hW3]
    have hk3 : W3.heap[mc.cls]? = some (.cells #[inV M (if c = d then some c else into c), .int .i64 (wrap64 (kC2 + kD2)), ndI M (face c), .int .i64 (cnt c)] 76) := by
      rw [hW3]
      show (World.setCell _ _ _).heap[mc.cls]? = _
      exact heap_setCell_same _ _ _ _ _ _ HK2.out
    obtain ⟨hb3, hc3⟩ := HB2.out.put HMc.out (o := if c = d then some c else into c) (f := face c) (n := cnt c) (w' := W3) (by rw [hW3]; exact grown_trans (set_grown _ _ _ _) (grown_of_below (drawn_below1 _) _)) ⟨_, hk3⟩
    rw [if_self6, if_self6, if_self7] at hb3
    have HB3 := hid hb3
    have HC3 := hid (HC2.out.trans hc3)
    obtain ⟨kC3, hkC3, _, _, s2, _⟩ := hb3.clc HMc.out
    obtain ⟨kD3, hkD3, _, _, t2, _⟩ := hb3.clc HMd.out
    have HK3 := hid hkC3
    obtain ⟨ty, bF, hF⟩ := ndI_form (faceN_lt (M := M) hfc hfd)
    have HFo := hid (faceOf_any (hb3.later (drawn_below1 W3)) hfc hfd)
    rw [hF] at HFo
    have HFe := hid hF
    have f2 : W3.frozen? ⟨mc.cls, 2, none⟩ = false := frozen_of_row _ _ _ _ _ hkC3
    have HDone : Hid (∀ k : Nat, Bd6 ((W3.drewN k).setCell ⟨mc.cls, 2, none⟩ (.iface ty (.pointer (some ⟨bF, 0, none⟩)))) B T M (fun i => if i = d then some c else into i) (fun i => if i = c then faceN (M.map Nm.nd) (face c) (face d) else face i) cnt ∧ Ch6 M w ((W3.drewN k).setCell ⟨mc.cls, 2, none⟩ (.iface ty (.pointer (some ⟨bF, 0, none⟩))))) := fun k => by
      have hd4 : Below W3.heap.size W3 (W3.drewN k) := drawn_below rfl
      have hb4 := HB3.out.later hd4
      have hk4 : (W3.drewN k).heap[mc.cls]? = some (.cells #[inV M (if c = d then some c else into c), .int .i64 kC3, ndI M (face c), .int .i64 (cnt c)] 76) := (hd4.block _ (Array.getElem?_eq_some_iff.1 HK3.out).1).trans HK3.out
      obtain ⟨hb5, hc5⟩ := hb4.put HMc.out (o := if c = d then some c else into c) (f := faceN (M.map Nm.nd) (face c) (face d)) (n := cnt c) (w' := (W3.drewN k).setCell ⟨mc.cls, 2, none⟩ (.iface ty (.pointer (some ⟨bF, 0, none⟩)))) (set_grown _ _ _ _) ⟨kC3, by rw [hF]; exact heap_setCell_same _ _ _ _ _ _ hk4⟩
      rw [if_self6, if_self7] at hb5
      exact ⟨hb5, (HC3.out.trans (Ch6.of_below hd4)).trans hc5⟩
    clear hW3 hk3 hb3 hc3 hkC3 hkD3 s1 t1 f1 hF
    go_upto_region 4 with fail
    go_region_with (first
      | (refine HFo.out.mono ?_; rintro e w4 ⟨rfl, n4, hw4⟩; subst hw4))
    all_goals (
      go_wp2
      go_end0
      exact ⟨rfl, c, d, .inl ⟨rfl, rfl⟩, (HDone.out _).1, (HDone.out _).2⟩)

end Go.Proofs.YtelacmijkbgliaaDoor

/- parts of package unify walked. -/
namespace Go.Proofs.YtelacmijkbgliaaDoor
open Go.RowKit Go.Maps Go.BigFrame

/-- The classes of a node's arguments. -/
def ptsN (M : List Nm) (root : Nat → Nat) (f : Nat) : List Nat := match (M[f]?).map Nm.nd with | some (.app _ xs) => xs.map root | _ => []

set_option maxRecDepth 100000 in
set_option maxHeartbeats 3200000 in
theorem parts_any {w : World} {B T : Nat} {M : List Nm} {into : Nat → Option Nat} {face : Nat → Nat} {cnt : Nat → Int} {root rk : Nat → Nat} (hb : Bd6 w B T M into face cnt) (hf : Fr6 M.length into root rk) (hlow : T ≤ w.heap.size) (hwf : ∀ (i : Nat) (m : Nm) (c : Int) (xs : List Nat), M[i]? = some m → m.nd = .app c xs → (∀ x ∈ xs, x < M.length) ∧ xs.length ≤ 1000)
    {i : Nat} {mi : Nm} (hmi : M[i]? = some mi) (hfl : face i < M.length) :
    Calls Tryd.prog 65 #[.pointer (some ⟨mi.cls, 0, none⟩)] w fun e w' => ∃ v' into', e = .returned v' ∧ OwC6 w' w.heap.size M v' (ptsN M root (face i)) ∧ Bd6 w' B T M into' face cnt ∧ Fr6 M.length into' root rk ∧ Ch6 M w w' := by
  obtain ⟨mf, hmf⟩ : ∃ m, M[face i]? = some m := ⟨_, List.getElem?_eq_getElem hfl⟩
  obtain ⟨k9, _, _, _, x2, _⟩ := hb.clc hmi
  have HB := hid hb
  have HF := hid hf
  have HLo := hid hlow
  have HWf := hid hwf
  have HMf := hid hmf
  have HIs := hid (uIsVar_any w hfl)
  obtain ⟨P, hP⟩ : ∃ P, P = ptsN M root (face i) := ⟨_, rfl⟩
  rw [← hP]
  unfold ptsN at hP
  rw [hmf] at hP
  simp only [Option.map_some] at hP
  unfold isVarN at HIs
  rw [hmf] at HIs
  simp only [Option.map_some] at HIs
  cases hn : mf.nd with
  | var n =>
    rw [hn] at hP HIs
    simp only at hP HIs
    rw [ndI_var hmf hn] at x2 HIs
    subst hP
    clear hb hf hlow hwf hmi hfl hmf hn
    go_enter Tryd.func65, Tryd.ntmps65
    go_wp2_with fail
    refine HIs.out.mono ?_
    rintro e w1 ⟨rfl, hw1⟩
    have hw8 := hw1.symm
    subst hw8
    clear hw1
    go_wp2
    go_ret
    exact ⟨_, into, rfl, ⟨rfl, .inl ⟨rfl, rfl⟩⟩, HB.out, HF.out, Ch6.refl _ _⟩
  | app c xs =>
    rw [hn] at hP HIs
    simp only at hP HIs
    rw [ndI_app hmf hn] at x2 HIs
    obtain ⟨ao, cap, ⟨_, y1, _⟩, hcap1, hcap2, hargs⟩ := hb.app hmf hn
    unfold maxLen at hcap2
    obtain ⟨hx1, hx2⟩ := hwf _ _ _ _ hmf hn
    have HX1 := hid hx1
    have HArg := hid hargs
    have HPe := hid hP
    have ha := as_uapp (.pointer (some ⟨mf.blk, 0, none⟩))
    clear hb hf hlow hwf hmi hfl hmf hn hargs hP hx1
    go_enter Tryd.func65, Tryd.ntmps65
    go_wp2_with fail
    refine HIs.out.mono ?_
    rintro e w1 ⟨rfl, hw1⟩
    have hw8 := hw1.symm
    subst hw8
    clear hw1
    go_wp2
    clear ha x2 y1
    go_loopw [3, 20] (fun v kv wr => ∃ (k : Nat) (into' : Nat → Option Nat), k ≤ xs.length ∧ kv = .int .i64 k ∧ OwC6 wr w.heap.size M v ((xs.take k).map root) ∧ Bd6 wr B T M into' face cnt ∧ Fr6 M.length into' root rk ∧ Ch6 M w wr) (fun _ kv _ => xs.length - (intOf kv).toNat)
    case atStart => exact ⟨0, into, Nat.zero_le _, rfl, ⟨rfl, .inl ⟨rfl, rfl⟩⟩, HB.out, HF.out, Ch6.refl _ _⟩
    case round =>
      obtain ⟨k, into', hk, rfl, how, hb', hf', hch⟩ := hrel
      have HOw := hid how
      have HB' := hid hb'
      have HF' := hid hf'
      have HC := hid hch
      clear how hb' hf' hch
      by_cases hlt : k < xs.length
      · have hdk : decide ((k : Int) < (xs.length : Int)) = true := by simpa using hlt
        obtain ⟨x, hx⟩ : ∃ x, xs[k]? = some x := ⟨_, List.getElem?_eq_getElem hlt⟩
        have hxl := HX1.out x (List.mem_of_getElem? hx)
        obtain ⟨mx, hmx⟩ : ∃ m, M[x]? = some m := ⟨_, List.getElem?_eq_getElem hxl⟩
        obtain ⟨g, off, rfl, hgc, hcell⟩ : ∃ g off, ao = some ⟨g, off, none⟩ ∧ (∀ m' ∈ M, m'.cls ≠ g) ∧ w.cell? ⟨g, off + k, none⟩ = some (ndI M x) := by
          rcases HArg.out with h | ⟨g, off, h1, h2⟩
          · rw [h] at hlt; simp at hlt
          · exact ⟨g, off, h1, h2.2.1, h2.2.2 k x hx⟩
        have hcr := HC.out.cell hgc hcell
        have HXk := hid hx
        have HMx := hid hmx
        cases hnx : mx.nd with
        | var n =>
          rw [ndI_var hmx hnx] at hcr
          have HCl := hid (varClass_any HB'.out HF'.out hmx hnx)
          clear hx hcell hgc hmx hnx
          go_wp2_with fail
          refine HCl.out.mono ?_
          rintro e w1 ⟨into2, rfl, hrl, hb2, hf2, hc2⟩
          obtain ⟨mr, hmr⟩ : ∃ m, M[root x]? = some m := ⟨_, List.getElem?_eq_getElem hrl⟩
          rw [clV_eq hmr]
          have hCw := HC.out.trans hc2
          have ho1 : OwC6 w1 w.heap.size M _ ((xs.take k).map root) := own_ch6 HOw.out hc2 (fun m hm => Nat.lt_of_lt_of_le (HB.out.low m hm).1.2 HLo.out)
          obtain ⟨WA, hWA⟩ : ∃ X, X = w1.alloc (.cells #[.pointer (some ⟨mr.cls, 0, none⟩)] 68) := ⟨_, rfl⟩
          have bA : Below w1.heap.size w1 WA := by rw [hWA]; exact below_alloc _
          obtain ⟨v2, w2, hr2, o2, g2, _⟩ := join_cls6 102 (ao := some ⟨w1.heap.size, 0, none⟩) (cap := 1) (ys := [root x]) (own_ch6 ho1 (Ch6.of_below (M := M) bA) (fun m hm => Nat.lt_of_lt_of_le (HB.out.low m hm).1.2 HLo.out)) (.inr ⟨w1.heap.size, 0, rfl, fun j y hj => by
            match j, hj with
            | 0, hj =>
              cases hj
              rw [clV_eq hmr, hWA]
              exact cell_new rfl
            | j + 1, hj => simp at hj⟩) (Nat.le_trans hCw.size bA.size) (by rw [List.length_map, List.length_take]; simp; omega)
          have hnx2 : (xs.take (k + 1)).map root = (xs.take k).map root ++ [root x] := by rw [take_get HXk.out, List.map_append]; rfl
          rw [← hnx2] at o2
          have HR2 := hid hr2
          have HO2 := hid o2
          have hB2 : ∀ b, b < w.heap.size → w2.heap[b]? = w1.heap[b]? := fun b hb9 => by
            refine (g2.block b (Nat.lt_of_lt_of_le hb9 (Nat.le_trans hCw.size bA.size)) (fun e9 => ?_)).trans (bA.block b (Nat.lt_of_lt_of_le hb9 hCw.size))
            have := own_blk ho1 e9.symm
            omega
          have HB2 := hid (hb2.keep fun b hb9 => hB2 b (Nat.lt_of_lt_of_le hb9 HLo.out))
          have HC2 : Hid (Ch6 M w w2) := ⟨(g2.os.trans bA.os).trans hCw.os, (g2.tape.trans bA.tape).trans hCw.tape, (g2.output.trans bA.output).trans hCw.output, Nat.le_trans hCw.size (Nat.le_trans bA.size g2.size), fun b hb9 hm9 => (hB2 b hb9).trans (hCw.block b hb9 hm9)⟩
          have HF2 := hid hf2
          clear hb2 hf2 hc2 hCw ho1 bA hr2 o2 g2 hnx2 hB2 HCl hmr
          go_wp2_with (first
            | (rw [← hWA]; at_builtin; refine wpList_append_run rfl _ _ _ rfl _ _ rfl rfl HR2.out ?_))
          go_roundw
          case rel => exact ⟨k + 1, into2, hlt, by go_num, HO2.out, HB2.out, HF2.out, HC2.out⟩
          case measure => simp [intOf]; omega
        | app c2 xs2 =>
          rw [ndI_app hmx hnx] at hcr
          have HCl := hid (appClass_any HB'.out HF'.out hmx hnx)
          clear hx hcell hgc hmx hnx
          go_wp2_with fail
          refine HCl.out.mono ?_
          rintro e w1 ⟨into2, rfl, hrl, hb2, hf2, hc2⟩
          obtain ⟨mr, hmr⟩ : ∃ m, M[root x]? = some m := ⟨_, List.getElem?_eq_getElem hrl⟩
          rw [clV_eq hmr]
          have hCw := HC.out.trans hc2
          have ho1 : OwC6 w1 w.heap.size M _ ((xs.take k).map root) := own_ch6 HOw.out hc2 (fun m hm => Nat.lt_of_lt_of_le (HB.out.low m hm).1.2 HLo.out)
          obtain ⟨WA, hWA⟩ : ∃ X, X = w1.alloc (.cells #[.pointer (some ⟨mr.cls, 0, none⟩)] 68) := ⟨_, rfl⟩
          have bA : Below w1.heap.size w1 WA := by rw [hWA]; exact below_alloc _
          obtain ⟨v2, w2, hr2, o2, g2, _⟩ := join_cls6 102 (ao := some ⟨w1.heap.size, 0, none⟩) (cap := 1) (ys := [root x]) (own_ch6 ho1 (Ch6.of_below (M := M) bA) (fun m hm => Nat.lt_of_lt_of_le (HB.out.low m hm).1.2 HLo.out)) (.inr ⟨w1.heap.size, 0, rfl, fun j y hj => by
            match j, hj with
            | 0, hj =>
              cases hj
              rw [clV_eq hmr, hWA]
              exact cell_new rfl
            | j + 1, hj => simp at hj⟩) (Nat.le_trans hCw.size bA.size) (by rw [List.length_map, List.length_take]; simp; omega)
          have hnx2 : (xs.take (k + 1)).map root = (xs.take k).map root ++ [root x] := by rw [take_get HXk.out, List.map_append]; rfl
          rw [← hnx2] at o2
          have HR2 := hid hr2
          have HO2 := hid o2
          have hB2 : ∀ b, b < w.heap.size → w2.heap[b]? = w1.heap[b]? := fun b hb9 => by
            refine (g2.block b (Nat.lt_of_lt_of_le hb9 (Nat.le_trans hCw.size bA.size)) (fun e9 => ?_)).trans (bA.block b (Nat.lt_of_lt_of_le hb9 hCw.size))
            have := own_blk ho1 e9.symm
            omega
          have HB2 := hid (hb2.keep fun b hb9 => hB2 b (Nat.lt_of_lt_of_le hb9 HLo.out))
          have HC2 : Hid (Ch6 M w w2) := ⟨(g2.os.trans bA.os).trans hCw.os, (g2.tape.trans bA.tape).trans hCw.tape, (g2.output.trans bA.output).trans hCw.output, Nat.le_trans hCw.size (Nat.le_trans bA.size g2.size), fun b hb9 hm9 => (hB2 b hb9).trans (hCw.block b hb9 hm9)⟩
          have HF2 := hid hf2
          clear hb2 hf2 hc2 hCw ho1 bA hr2 o2 g2 hnx2 hB2 HCl hmr
          go_wp2_with (first
            | (rw [← hWA]; at_builtin; refine wpList_append_run rfl _ _ _ rfl _ _ rfl rfl HR2.out ?_))
          go_roundw
          case rel => exact ⟨k + 1, into2, hlt, by go_num, HO2.out, HB2.out, HF2.out, HC2.out⟩
          case measure => simp [intOf]; omega
      · have hdk : decide ((k : Int) < (xs.length : Int)) = false := by simpa using (show ¬ (k : Int) < (xs.length : Int) by omega)
        have hke : xs.take k = xs := List.take_of_length_le (by omega)
        rw [hke, ← HPe.out] at HOw
        clear hke
        go_wp2
        go_ret
        exact ⟨_, into', rfl, HOw.out, HB'.out, HF'.out, HC.out⟩

end Go.Proofs.YtelacmijkbgliaaDoor

/- argumentPairs of package unify walked. -/
namespace Go.Proofs.YtelacmijkbgliaaDoor
open Go.RowKit Go.Maps Go.BigFrame

/-- Pairs of nodes as values. -/
def prV (M : List Nm) (P : List (Nat × Nat)) : List (Value × Value) := P.map fun p => (ndI M p.1, ndI M p.2)

theorem prV_one {M : List Nm} {P : List (Nat × Nat)} (h : ∀ p ∈ P, p.1 < M.length ∧ p.2 < M.length) : ∀ u ∈ prC (prV M P), u.oneCell' = true := fun u hu => by
  unfold prC prV at hu
  rw [List.flatMap_map] at hu
  obtain ⟨p, hp, hu⟩ := List.mem_flatMap.1 hu
  obtain ⟨h1, h2⟩ := h p hp
  simp only [List.mem_cons, List.not_mem_nil, or_false] at hu
  rcases hu with rfl | rfl
  · obtain ⟨ty, b, e⟩ := ndI_form h1
    rw [e]
    rfl
  · obtain ⟨ty, b, e⟩ := ndI_form h2
    rw [e]
    rfl

set_option maxRecDepth 100000 in
set_option maxHeartbeats 3200000 in
theorem uArgs_any {w : World} {B T : Nat} {M : List Nm} {into : Nat → Option Nat} {face : Nat → Nat} {cnt : Nat → Int} (hb : Bd6 w B T M into face cnt) (hlow : T ≤ w.heap.size) (hwf : ∀ (i : Nat) (m : Nm) (c : Int) (xs : List Nat), M[i]? = some m → m.nd = .app c xs → (∀ x ∈ xs, x < M.length) ∧ xs.length ≤ 1000) (hsym : ∀ (i j : Nat) (m m' : Nm) (c : Int) (xs ys : List Nat), M[i]? = some m → M[j]? = some m' → m.nd = .app c xs → m'.nd = .app c ys → xs.length = ys.length)
    {a b : Nat} (ha : a < M.length) (hbl : b < M.length) :
    Calls Tryd.prog 62 #[ndI M a, ndI M b] w fun e w' => ∃ v', e = .returned (.tuple #[v', .bool (!clash (M.map Nm.nd) a b)]) ∧ (clash (M.map Nm.nd) a b = false → OwP6 w' w.heap.size v' (prV M (argP (M.map Nm.nd) a b))) ∧ Below w.heap.size w w' := by
  obtain ⟨ma, hma⟩ : ∃ m, M[a]? = some m := ⟨_, List.getElem?_eq_getElem ha⟩
  obtain ⟨mb, hmb⟩ : ∃ m, M[b]? = some m := ⟨_, List.getElem?_eq_getElem hbl⟩
  have eA : (M.map Nm.nd)[a]? = some ma.nd := by rw [List.getElem?_map, hma]; rfl
  have eB : (M.map Nm.nd)[b]? = some mb.nd := by rw [List.getElem?_map, hmb]; rfl
  obtain ⟨C, hC⟩ : ∃ C, C = clash (M.map Nm.nd) a b := ⟨_, rfl⟩
  obtain ⟨P, hP⟩ : ∃ P, P = argP (M.map Nm.nd) a b := ⟨_, rfl⟩
  rw [← hC, ← hP]
  unfold clash at hC
  unfold argP at hP
  rw [eA, eB] at hC hP
  have HIa := hid (uIsVar_any w ha)
  have HIb := hid (uIsVar_any w hbl)
  unfold isVarN at HIa HIb
  rw [hma] at HIa
  rw [hmb] at HIb
  simp only [Option.map_some] at HIa HIb
  cases hna : ma.nd with
  | var n =>
    rw [hna] at hC hP HIa
    simp only at hC hP HIa
    rw [ndI_var hma hna] at HIa ⊢
    subst hC hP
    obtain ⟨vb, hvb⟩ : ∃ v, v = ndI M b := ⟨_, rfl⟩
    rw [← hvb]
    clear hb hlow hwf hsym ha hbl hma hmb eA eB hna hvb HIb
    go_enter Tryd.func62, Tryd.ntmps62
    go_wp2_with fail
    refine HIa.out.mono ?_
    rintro e w1 ⟨rfl, hw1⟩
    have hw8 := hw1.symm
    subst hw8
    clear hw1
    go_wp2
    go_ret2
    exact ⟨_, rfl, fun _ => ⟨rfl, .inl ⟨rfl, rfl⟩⟩, Below.refl _ _⟩
  | app c xs =>
    rw [hna] at hC hP HIa
    rw [ndI_app hma hna] at HIa ⊢
    cases hnb : mb.nd with
    | var n =>
      rw [hnb] at hC hP HIb
      simp only at hC hP HIa HIb
      rw [ndI_var hmb hnb] at HIb ⊢
      subst hC hP
      clear hb hlow hwf hsym ha hbl hma hmb eA eB hna hnb
      go_enter Tryd.func62, Tryd.ntmps62
      go_wp2_with fail
      refine HIa.out.mono ?_
      rintro e w1 ⟨rfl, hw1⟩
      have hw8 := hw1.symm
      subst hw8
      clear hw1
      go_wp2_with fail
      refine HIb.out.mono ?_
      rintro e w1 ⟨rfl, hw1⟩
      have hw8 := hw1.symm
      subst hw8
      clear hw1
      go_wp2
      go_ret2
      exact ⟨_, rfl, fun _ => ⟨rfl, .inl ⟨rfl, rfl⟩⟩, Below.refl _ _⟩
    | app c' ys =>
      rw [hnb] at hC hP HIb
      simp only at hC hP HIa HIb
      rw [ndI_app hmb hnb] at HIb ⊢
      obtain ⟨ao, cap, ⟨x0, x1, _⟩, hcap1, hcap2, hargs⟩ := hb.app hma hna
      obtain ⟨bo, cap', ⟨y0, y1, _⟩, hcap1', hcap2', hargs'⟩ := hb.app hmb hnb
      unfold maxLen at hcap2 hcap2'
      have has1 := as_uapp (.pointer (some ⟨ma.blk, 0, none⟩))
      have has2 := as_uapp (.pointer (some ⟨mb.blk, 0, none⟩))
      have HLo := hid hlow
      by_cases hcc : c = c'
      · subst hcc
        have hlen := hsym a b ma mb c xs ys hma hmb hna hnb
        obtain ⟨hx1, hx2⟩ := hwf _ _ _ _ hma hna
        obtain ⟨hy1, hy2⟩ := hwf _ _ _ _ hmb hnb
        have hCf : C = false := by rw [hC]; simp
        subst hCf
        have HX1 := hid hx1
        have HY1 := hid hy1
        have HArg := hid hargs
        have HArg' := hid hargs'
        have HPe := hid hP
        have HLen := hid hlen
        have hcn : (c != c) = false := by simp
        clear hb hlow hwf hsym ha hbl hma hmb eA eB hna hnb hC hP hx1 hy1 hargs hargs' hlen
        go_enter Tryd.func62, Tryd.ntmps62
        go_wp2_with fail
        refine HIa.out.mono ?_
        rintro e w1 ⟨rfl, hw1⟩
        have hw8 := hw1.symm
        subst hw8
        clear hw1
        go_wp2_with fail
        refine HIb.out.mono ?_
        rintro e w1 ⟨rfl, hw1⟩
        have hw8 := hw1.symm
        subst hw8
        clear hw1
        go_wp2
        go_quiet (fail)
        go_wp2
        go_quiet (fail)
        go_wp2
        go_loopw [8, 35] (fun v kv wr => ∃ k : Nat, k ≤ xs.length ∧ kv = .int .i64 k ∧ OwP6 wr w.heap.size v (prV M ((xs.zip ys).take k)) ∧ Below w.heap.size w wr) (fun _ kv _ => xs.length - (intOf kv).toNat)
        case atStart => exact ⟨0, Nat.zero_le _, rfl, ⟨rfl, .inl ⟨rfl, rfl⟩⟩, drawn_below rfl⟩
        case round =>
          obtain ⟨k, hk, rfl, how, hbr⟩ := hrel
          have HOw := hid how
          have HBr := hid hbr
          clear how hbr
          by_cases hlt : k < xs.length
          · have hdk : decide ((k : Int) < (xs.length : Int)) = true := by simpa using hlt
            have hlt2 : k < ys.length := by have := HLen.out; omega
            obtain ⟨x, hx⟩ : ∃ x, xs[k]? = some x := ⟨_, List.getElem?_eq_getElem hlt⟩
            obtain ⟨y, hy⟩ : ∃ y, ys[k]? = some y := ⟨_, List.getElem?_eq_getElem hlt2⟩
            have hxl := HX1.out x (List.mem_of_getElem? hx)
            have hyl := HY1.out y (List.mem_of_getElem? hy)
            obtain ⟨g, off, rfl, hcell⟩ : ∃ g off, ao = some ⟨g, off, none⟩ ∧ w.cell? ⟨g, off + k, none⟩ = some (ndI M x) := by
              rcases HArg.out with h | ⟨g, off, h1, h2⟩
              · rw [h] at hlt; simp at hlt
              · exact ⟨g, off, h1, h2.2.2 k x hx⟩
            obtain ⟨g', off', rfl, hcell'⟩ : ∃ g off, bo = some ⟨g, off, none⟩ ∧ w.cell? ⟨g, off + k, none⟩ = some (ndI M y) := by
              rcases HArg'.out with h | ⟨g, off, h1, h2⟩
              · rw [h] at hlt2; simp at hlt2
              · exact ⟨g, off, h1, h2.2.2 k y hy⟩
            have q0 := (Kp.of_below HBr.out).cell _ _ hcell
            have q1 := (Kp.of_below HBr.out).cell _ _ hcell'
            have q2 := (Kp.of_below HBr.out).cell _ _ y1
            have hone := prV_one (M := M) (P := [(x, y)]) (fun p hp => by rw [List.mem_singleton] at hp; subst hp; exact ⟨hxl, hyl⟩)
            have hnx : prV M ((xs.zip ys).take (k + 1)) = prV M ((xs.zip ys).take k) ++ prV M [(x, y)] := by
              have hz : (xs.zip ys)[k]? = some (x, y) := by rw [List.getElem?_zip_eq_some]; exact ⟨hx, hy⟩
              rw [List.take_add_one, hz, Option.toList_some]
              unfold prV
              rw [List.map_append]
            obtain ⟨tx, bx, ex⟩ := ndI_form hxl
            obtain ⟨ty, bY, ey⟩ := ndI_form hyl
            have hpe : prV M [(x, y)] = [(.iface tx (.pointer (some ⟨bx, 0, none⟩)), .iface ty (.pointer (some ⟨bY, 0, none⟩)))] := by unfold prV; simp only [List.map_cons, List.map_nil]; rw [ex, ey]
            rw [hpe] at hnx hone
            rw [ex] at q0
            rw [ey] at q1
            have hplen : (prV M ((xs.zip ys).take k)).length ≤ 1000 := by unfold prV; rw [List.length_map, List.length_take]; omega
            obtain ⟨WA, hWA⟩ : ∃ X, X = wr.alloc (.cells #[.iface tx (.pointer (some ⟨bx, 0, none⟩)), .iface ty (.pointer (some ⟨bY, 0, none⟩))] 97) := ⟨_, rfl⟩
            have bA : Below wr.heap.size wr WA := by rw [hWA]; exact below_alloc _
            obtain ⟨v2, w2, hr2, o2, g2, _⟩ := join_pairs6 98 (ao := some ⟨wr.heap.size, 0, none⟩) (cap := 1) (ys := [(.iface tx (.pointer (some ⟨bx, 0, none⟩)), .iface ty (.pointer (some ⟨bY, 0, none⟩)))]) (own_ch6 HOw.out (Ch6.of_below (M := []) bA) (fun m hm => by cases hm)) (.inr ⟨wr.heap.size, 0, rfl, fun j u hj => by
              rw [hWA]
              match j, hj with
              | 0, hj =>
                cases hj
                exact cell_new rfl
              | 1, hj =>
                cases hj
                exact cell_new rfl
              | j + 2, hj => simp [prC] at hj⟩) hone (Nat.le_trans HBr.out.size bA.size) (by simp only [List.length_cons, List.length_nil]; omega)
            rw [← hnx] at o2
            have HR2 := hid hr2
            have HO2 := hid o2
            have HB2 : Hid (Below w.heap.size w w2) := (below_step HBr.out bA).grown g2 (Nat.le_trans HBr.out.size bA.size) (fun j hj => own_blk HOw.out hj)
            clear hx hy hcell hcell' hone hnx ex ey hpe hplen bA hr2 o2 g2
            go_wp2_with (first
              | (rw [← hWA]; at_builtin; refine wpList_append_run rfl _ _ _ rfl _ _ rfl rfl HR2.out ?_))
            go_roundw
            case rel => exact ⟨k + 1, hlt, by go_num, HO2.out, HB2.out⟩
            case measure => simp [intOf]; omega
          · have hdk : decide ((k : Int) < (xs.length : Int)) = false := by simpa using (show ¬ (k : Int) < (xs.length : Int) by omega)
            have hke : (xs.zip ys).take k = P := by
              rw [HPe.out]
              exact List.take_of_length_le (by rw [List.length_zip]; omega)
            rw [hke] at HOw
            clear hke
            go_wp2
            go_ret2
            exact ⟨_, rfl, fun _ => HOw.out, HBr.out⟩
      · have hCt : C = true := by rw [hC]; simp [hcc]
        subst hCt
        have hcn : (c != c') = true := by rw [bne_iff_ne]; exact hcc
        clear hb hlow hwf hsym ha hbl hma hmb eA eB hna hnb hC hP hargs hargs'
        go_enter Tryd.func62, Tryd.ntmps62
        go_wp2_with fail
        refine HIa.out.mono ?_
        rintro e w1 ⟨rfl, hw1⟩
        have hw8 := hw1.symm
        subst hw8
        clear hw1
        go_wp2_with fail
        refine HIb.out.mono ?_
        rintro e w1 ⟨rfl, hw1⟩
        have hw8 := hw1.symm
        subst hw8
        clear hw1
        go_wp2
        go_quiet (fail)
        go_wp2
        go_quiet (fail)
        go_wp2
        go_ret2
        exact ⟨_, rfl, fun h => (by cases h), drawn_below (World.drewN_drewN _ _ _)⟩

end Go.Proofs.YtelacmijkbgliaaDoor

/- For join of package unify: forests and roots, plainly. -/
namespace Go.Proofs.YtelacmijkbgliaaDoor
open Go.RowKit Go.Maps Go.BigFrame

theorem clash_symm (L : List Nd) (a b : Nat) : clash L a b = clash L b a := by
  unfold clash
  cases h1 : L[a]? with
  | none =>
    cases h2 : L[b]? with
    | none => rfl
    | some y => cases y <;> rfl
  | some x =>
    cases h2 : L[b]? with
    | none => cases x <;> rfl
    | some y =>
      cases x with
      | var n => cases y <;> rfl
      | app c xs =>
        cases y with
        | var n => rfl
        | app c' ys =>
          simp only
          by_cases e : c = c'
          · subst e
            rfl
          · rw [decide_eq_false e, decide_eq_false (fun h => e h.symm)]

/-- Two ways made one. -/
theorem Fr6.uni {n : Nat} {into : Nat → Option Nat} {root rk : Nat → Nat} (h : Fr6 n into root rk) {c d : Nat} (hc : c < n) (hrc : root c = c) (hrd : root d = d) (hne : c ≠ d) : Fr6 n (fun i => if i = d then some c else into i) (uniR root c d) (fun i => if root i = c then rk i + rk d + 1 else rk i) := fun i hi => by
  by_cases e : i = d
  · subst e
    simp only [if_true]
    refine ⟨fun h9 => (by cases h9), fun j hj => ?_⟩
    cases hj
    refine ⟨hc, ?_, ?_⟩
    · rw [hrd, if_neg (fun h => hne h.symm), hrc, if_pos rfl]
      omega
    · unfold uniR
      rw [hrc, hrd, if_neg hne, if_pos rfl]
  · simp only [if_neg e]
    refine ⟨fun h9 => ?_, fun j hj => ?_⟩
    · have h1 := (h i hi).1 h9
      unfold uniR
      rw [h1, if_neg e]
    · obtain ⟨h1, h2, h3⟩ := (h i hi).2 j hj
      refine ⟨h1, ?_, ?_⟩
      · rw [h3]
        split
        · omega
        · exact h2
      · unfold uniR
        rw [h3]

/-- How many classes there are. -/
def nRoots (n : Nat) (root : Nat → Nat) : Nat := ((List.range n).filter fun i => decide (root i = i)).length

theorem filter_less {α : Type} {p q : α → Bool} : ∀ {l : List α}, (∀ a ∈ l, p a = true → q a = true) → (l.filter p).length ≤ (l.filter q).length
  | [], _ => Nat.le_refl _
  | a :: l, h => by
    have ih := filter_less (p := p) (q := q) (l := l) (fun x hx => h x (by simp [hx]))
    by_cases hp : p a = true
    · rw [List.filter_cons_of_pos hp, List.filter_cons_of_pos (h a (by simp) hp)]
      simp only [List.length_cons]
      omega
    · rw [List.filter_cons_of_neg hp]
      by_cases hq : q a = true
      · rw [List.filter_cons_of_pos hq]
        simp only [List.length_cons]
        omega
      · rw [List.filter_cons_of_neg hq]
        exact ih

theorem filter_lt {α : Type} {p q : α → Bool} {l : List α} (h : ∀ a ∈ l, p a = true → q a = true) {x : α} (hx : x ∈ l) (hq : q x = true) (hp : p x = false) : (l.filter p).length < (l.filter q).length := by
  obtain ⟨u, v, rfl⟩ := List.append_of_mem hx
  rw [List.filter_append, List.filter_append, List.filter_cons_of_pos hq, List.filter_cons_of_neg (by rw [hp]; simp), List.length_append, List.length_append, List.length_cons]
  have h1 := filter_less (p := p) (q := q) (l := u) (fun a ha => h a (by simp [ha]))
  have h2 := filter_less (p := p) (q := q) (l := v) (fun a ha => h a (by simp [ha]))
  omega

theorem nRoots_uni {n : Nat} {root : Nat → Nat} {c d : Nat} (hd : d < n) (hrd : root d = d) (hrc : root c = c) (hne : c ≠ d) : nRoots n (uniR root c d) < nRoots n root := by
  unfold nRoots
  refine filter_lt (fun i _ hp => ?_) (List.mem_range.2 hd) (decide_eq_true hrd) (decide_eq_false ?_)
  · have h1 := of_decide_eq_true hp
    refine decide_eq_true ?_
    unfold uniR at h1
    split at h1
    · rename_i h2
      subst h1
      rw [hrc] at h2
      exact absurd h2 hne
    · exact h1
  · unfold uniR
    rw [hrd, if_pos rfl]
    exact hne

theorem nRoots_le (n : Nat) (root : Nat → Nat) : nRoots n root ≤ n := by
  unfold nRoots
  have := List.length_filter_le (fun i => decide (root i = i)) (List.range n)
  simpa using this

theorem argP_len {sig : List Sy} (ha : ArOk sig) {L : List Nd} (hL : NdOk sig L) (a b : Nat) : (argP L a b).length ≤ 1000 ∧ ∀ p ∈ argP L a b, p.1 < L.length ∧ p.2 < L.length := by
  unfold argP
  split
  · rename_i c xs c' ys h1 h2
    obtain ⟨_, g2, g3⟩ := hL.sym _ _ _ h1
    have hs : sig[c.toNat]? = some sig[c.toNat] := List.getElem?_eq_getElem g2
    have h8 : xs.length ≤ 1000 := by
      rw [g3]
      unfold arN
      rw [hs]
      have := ha _ (List.mem_of_getElem? hs)
      simp only
      omega
    refine ⟨by rw [List.length_zip]; omega, fun p hp => ?_⟩
    obtain ⟨i, hi⟩ := List.getElem?_of_mem hp
    rw [List.getElem?_zip_eq_some] at hi
    exact ⟨Nat.lt_trans (hL.ahead _ _ _ h1 _ (List.mem_of_getElem? hi.1)) (List.getElem?_eq_some_iff.1 h1).1, Nat.lt_trans (hL.ahead _ _ _ h2 _ (List.mem_of_getElem? hi.2)) (List.getElem?_eq_some_iff.1 h2).1⟩
  · exact ⟨Nat.zero_le _, fun p hp => by cases hp⟩

/-- What the walks ask of nodes. -/
theorem nd_wf {sig : List Sy} (ha : ArOk sig) {M : List Nm} (hL : NdOk sig (M.map Nm.nd)) : (∀ (i : Nat) (m : Nm) (c : Int) (xs : List Nat), M[i]? = some m → m.nd = .app c xs → (∀ x ∈ xs, x < M.length) ∧ xs.length ≤ 1000) ∧ ∀ (i j : Nat) (m m' : Nm) (c : Int) (xs ys : List Nat), M[i]? = some m → M[j]? = some m' → m.nd = .app c xs → m'.nd = .app c ys → xs.length = ys.length := by
  have key : ∀ (i : Nat) (m : Nm) (c : Int) (xs : List Nat), M[i]? = some m → m.nd = .app c xs → (M.map Nm.nd)[i]? = some (Nd.app c xs) := fun i m c xs h1 h2 => by rw [List.getElem?_map, h1, Option.map_some, h2]
  refine ⟨fun i m c xs h1 h2 => ?_, fun i j m m' c xs ys h1 h2 h3 h4 => ?_⟩
  · have h3 := key i m c xs h1 h2
    obtain ⟨_, g2, g3⟩ := hL.sym _ _ _ h3
    have hs : sig[c.toNat]? = some sig[c.toNat] := List.getElem?_eq_getElem g2
    refine ⟨fun x hx => Nat.lt_trans (hL.ahead _ _ _ h3 x hx) (List.getElem?_eq_some_iff.1 h1).1, ?_⟩
    rw [g3]
    unfold arN
    rw [hs]
    have := ha _ (List.mem_of_getElem? hs)
    simp only
    omega
  · rw [(hL.sym _ _ _ (key i m c xs h1 h3)).2.2, (hL.sym _ _ _ (key j m' c ys h2 h4)).2.2]

end Go.Proofs.YtelacmijkbgliaaDoor
