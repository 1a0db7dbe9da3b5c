/- The document's table of what is above what, in memory. -/
import Derived.Test.YtagndlcpcggmpaaTPrcG
import Derived.Test.YtagndlcpcggmpaaTPrcW
import Derived.Laws.MakeOwn
namespace Go.Proofs.Ytagndlcpcggmpaa
open Go.RowKit Go.Maps

def rowB (n : Nat) (U : Nat → Bool) : Array Value := ((List.range n).map fun j => Value.bool (U j)).toArray

theorem rowB_get {n : Nat} (U : Nat → Bool) {j : Nat} (hj : j < n) : (rowB n U)[j]? = some (.bool (U j)) := by simp [rowB, hj]

theorem rowB_set {n : Nat} (U : Nat → Bool) (j : Nat) (x : Bool) : (rowB n U).setIfInBounds j (.bool x) = rowB n (fun b => if b = j then x else U b) := by
  apply Array.ext_getElem?
  intro k
  rw [Array.getElem?_setIfInBounds]
  by_cases hk : k < n
  · by_cases e : j = k
    · subst e
      rw [if_pos rfl, if_pos (by simp [rowB]; omega), rowB_get _ hk, if_pos rfl]
    · rw [if_neg e, rowB_get _ hk, rowB_get _ hk, if_neg (fun h => e h.symm)]
  · have hs : ∀ V : Nat → Bool, (rowB n V)[k]? = none := fun V => by simp [rowB]; omega
    rw [hs, hs]
    split
    · rw [if_neg (by simp [rowB]; omega)]
    · rfl

structure RU (base : Nat) (w : World) (gp : Nat) (ro : Option Addr) (rc : Nat) (rb : Nat → Nat) (n k : Nat) (U : Nat → Nat → Bool) : Prop where
  ptr : w.heap[gp]? = some (.cells #[.slice ro k rc] 50 (0, 0))
  lo : base ≤ gp
  own : w.ownsRow base 51 1 (.slice ro k rc) k ((List.range k).map fun i => .slice (some ⟨rb i, 0, none⟩) n n)
  rows : ∀ i, i < k → w.heap[rb i]? = some (.cells (rowB n (U i)) 4 (0, 0))
  low : ∀ i, i < k → base ≤ rb i
  inj : ∀ i j, i < k → j < k → rb i = rb j → i = j

theorem RU.later {base : Nat} {w w' : World} {gp : Nat} {ro : Option Addr} {rc : Nat} {rb : Nat → Nat} {n k : Nat} {U : Nat → Nat → Bool} (h : RU base w gp ro rc rb n k U) (hb : Below w.heap.size w w') : RU base w' gp ro rc rb n k U :=
  ⟨(hb.block _ (Array.getElem?_eq_some_iff.1 h.ptr).1).trans h.ptr, h.lo, ownsRow_later h.own hb, fun i hi => (hb.block _ (Array.getElem?_eq_some_iff.1 (h.rows i hi)).1).trans (h.rows i hi), h.low, h.inj⟩

theorem RU.congr {base : Nat} {w : World} {gp : Nat} {ro : Option Addr} {rc : Nat} {rb : Nat → Nat} {n k : Nat} {U V : Nat → Nat → Bool} (h : RU base w gp ro rc rb n k U) (e : ∀ a b, a < k → b < n → U a b = V a b) : RU base w gp ro rc rb n k V :=
  ⟨h.ptr, h.lo, h.own, fun i hi => by
    rw [h.rows i hi]
    congr 2
    unfold rowB
    congr 1
    exact List.map_congr_left fun j hj => by rw [e i j hi (List.mem_range.1 hj)], h.low, h.inj⟩

theorem RU.cellP {base : Nat} {w : World} {gp : Nat} {ro : Option Addr} {rc : Nat} {rb : Nat → Nat} {n k : Nat} {U : Nat → Nat → Bool} (h : RU base w gp ro rc rb n k U) : w.cell? ⟨gp, 0, none⟩ = some (.slice ro k rc) := cell_of_row w gp 0 _ _ _ h.ptr

theorem RU.form {base : Nat} {w : World} {gp : Nat} {ro : Option Addr} {rc : Nat} {rb : Nat → Nat} {n k : Nat} {U : Nat → Nat → Bool} (h : RU base w gp ro rc rb n k U) (hk : 0 < k) :
    ∃ g, ro = some ⟨g, 0, none⟩ ∧ k ≤ rc ∧ ∀ i, i < k → w.cell? ⟨g, i, none⟩ = some (.slice (some ⟨rb i, 0, none⟩) n n) := by
  have ho := h.own
  rcases ho.2 with ⟨_, h0⟩ | ⟨g, cap, cur, hv, hb, hg, hc, hm, hs, ht⟩
  · omega
  · simp only [Value.slice.injEq, true_and] at hv
    obtain ⟨rfl, rfl⟩ := hv
    refine ⟨g, rfl, hc, fun i hi => ?_⟩
    rw [World.ownsRow.cellAt ho i (by omega)]
    simp [hi]

theorem RU.bit {base : Nat} {w : World} {gp : Nat} {ro : Option Addr} {rc : Nat} {rb : Nat → Nat} {n k : Nat} {U : Nat → Nat → Bool} (h : RU base w gp ro rc rb n k U) {i j : Nat} (hi : i < k) (hj : j < n) : w.cell? ⟨rb i, j, none⟩ = some (.bool (U i j)) := by
  rw [cell_of_row w (rb i) j _ _ _ (h.rows i hi), rowB_get _ hj]

theorem RU.free {base : Nat} {w : World} {gp : Nat} {ro : Option Addr} {rc : Nat} {rb : Nat → Nat} {n k : Nat} {U : Nat → Nat → Bool} (h : RU base w gp ro rc rb n k U) {i : Nat} (hi : i < k) (j : Nat) : w.frozen? ⟨rb i, j, none⟩ = false := frozen_of_row w _ _ _ _ (h.rows i hi)

theorem type_ne {w : World} {g g' : Nat} {c c' : Array Value} {t t' : TypeId} (h : w.heap[g]? = some (.cells c t (0, 0))) (h' : w.heap[g']? = some (.cells c' t' (0, 0))) (hne : t ≠ t') : g ≠ g' := by
  rintro rfl
  rw [h] at h'
  simp only [Option.some.injEq, Obj.cells.injEq] at h'
  exact hne h'.2.1

theorem RU.set {base : Nat} {w : World} {gp : Nat} {ro : Option Addr} {rc : Nat} {rb : Nat → Nat} {n k : Nat} {U : Nat → Nat → Bool} (h : RU base w gp ro rc rb n k U) {i : Nat} (hi : i < k) (j : Nat) (x : Bool) : RU base (w.setCell ⟨rb i, j, none⟩ (.bool x)) gp ro rc rb n k (updB U i j x) := by
  refine ⟨?_, h.lo, ⟨h.own.1, ?_⟩, fun i' hi' => ?_, h.low, h.inj⟩
  · exact (heap_setCell_other _ _ _ _ (type_ne h.ptr (h.rows i hi) (by decide))).trans h.ptr
  · rcases h.own.2 with h0 | ⟨g, cap, cur, hv, hb, hg, r⟩
    · exact .inl h0
    · exact .inr ⟨g, cap, cur, hv, hb, (heap_setCell_other _ _ _ _ (type_ne hg (h.rows i hi) (by decide))).trans hg, r⟩
  · by_cases e : i' = i
    · subst e
      rw [heap_setCell_same w (rb i') j _ _ _ (h.rows i' hi'), rowB_set]
      congr 2
      congr 1
      funext b
      simp [updB]
    · rw [heap_setCell_other _ _ _ _ (fun e2 => e (h.inj _ _ hi' hi e2)), h.rows i' hi']
      congr 2
      congr 1
      funext b
      simp [updB, e]

theorem info_rowB : (Try.prog.info? 51).map (fun i => (i.zero, i.size, i.bytes)) = some (some (.slice none 0 0), 1, 24) := by kernel_rfl

theorem info_boolB : (Try.prog.info? 4).map (fun i => (i.zero, i.size, i.bytes)) = some (some (.bool false), 1, 1) := by kernel_rfl

theorem under_rowsB : Try.prog.underlying 48 = some (.slice 51) := by kernel_rfl

theorem under_rowB : Try.prog.underlying 51 = some (.slice 4) := by kernel_rfl

theorem made_bool (n : Nat) : madeCells (Value.bool false).cells (n * 1) = rowB n (fun _ => false) := by
  apply Array.ext'
  have : (Value.bool false).cells = #[Value.bool false] := rfl
  rw [this, toList_madeCells_one]
  simp [rowB, List.map_const']

theorem run_make_bool (w : World) (n : Nat) (hn : n ≤ 128) : (Instr.makeSlice 51 (.int .i64 (n : Int)) (.int .i64 (n : Int))).run Try.prog w = .ok (.slice (some ⟨w.heap.size, 0, none⟩) n n) (w.alloc (.cells (rowB n (fun _ => false)) 4)) := by
  obtain ⟨i0, hi, hz0, hz1, hz2⟩ := info_parts3 info_boolB
  have h := run_make (P := Try.prog) w 51 4 i0 (.bool false) under_rowB hi hz0 .i64 .i64 (n : Int) (n : Int) (by omega) (Int.le_refl _) (by rw [hz2]; omega) (by omega)
  rw [hz1, Int.toNat_natCast, made_bool] at h
  exact h

/-- A row more. -/
theorem ru_grow {base : Nat} {w : World} {gp : Nat} {ro : Option Addr} {rc : Nat} {rb : Nat → Nat} {n k : Nat} (h : RU base w gp ro rc rb n k (fun _ _ => false)) (hb : base ≤ w.heap.size) (hk : k < 128) {B : Nat} {w0 : World} (hB : Below B w0 w) (hBb : B ≤ base) :
    ∃ ro' rc' w3, (Builtin.append_ #[48, 48] 48 #[.slice ro k rc, .slice (some ⟨w.heap.size + 1, 0, none⟩) 1 1]).run Try.prog ((w.alloc (.cells (rowB n (fun _ => false)) 4)).alloc (.cells #[.slice (some ⟨w.heap.size, 0, none⟩) n n] 51)) = .ok (.slice ro' (k + 1) rc') w3 ∧
      w3.cell? ⟨gp, 0, none⟩ = some (.slice ro k rc) ∧ w3.frozen? ⟨gp, 0, none⟩ = false ∧ RU base (w3.setCell ⟨gp, 0, none⟩ (.slice ro' (k + 1) rc')) gp ro' rc' (fun i => if i = k then w.heap.size else rb i) n (k + 1) (fun _ _ => false) ∧
      Below B w0 (w3.setCell ⟨gp, 0, none⟩ (.slice ro' (k + 1) rc')) := by
  obtain ⟨i0, hi, hz0, hz1, hz2⟩ := info_parts3 info_rowB
  obtain ⟨w2, hw2⟩ : ∃ X, X = (w.alloc (.cells (rowB n (fun _ => false)) 4)).alloc (.cells #[.slice (some ⟨w.heap.size, 0, none⟩) n n] 51) := ⟨_, rfl⟩
  have hb2 : Below w.heap.size w w2 := by rw [hw2]; exact below_step (below_alloc _) (below_alloc _)
  have hr : w2.heap[w.heap.size]? = some (.cells (rowB n (fun _ => false)) 4 (0, 0)) := by rw [hw2]; exact heap_alloc2_old _ _ _
  have hl : w2.heap[w.heap.size + 1]? = some (.cells #[.slice (some ⟨w.heap.size, 0, none⟩) n n] 51 (0, 0)) := by rw [hw2]; exact heap_alloc2_new _ _ _
  have h2 := h.later hb2
  obtain ⟨v', w3, hrun, ho3, hg3, _, _⟩ := run_append_own_at (P := Try.prog) w2 base 48 48 51 i0 _ 1 24 under_rowsB hi hz0 hz1 hz2 rfl (by decide) _ k _ h2.own ⟨w.heap.size + 1, 0, none⟩ 1 1 [.slice (some ⟨w.heap.size, 0, none⟩) n n] rfl (fun j u hj => by
    rw [Addr.add_lit]
    match j, hj with
    | 0, hj =>
      cases hj
      exact cell_of_row w2 _ _ _ _ _ hl) (fun u hu => by
    simp only [List.mem_singleton] at hu
    subst hu
    rfl) (by unfold maxLen; omega) (by omega) (Nat.le_trans hb hb2.size)
  obtain ⟨g3, rc', hv⟩ := own_form ho3 (by omega)
  subst hv
  rw [← hw2]
  have hne : ∀ (g : Nat) (c : Array Value) (t : TypeId), w2.heap[g]? = some (.cells c t (0, 0)) → t ≠ 51 → w3.heap[g]? = some (.cells c t (0, 0)) := fun g c t hg ht => by
    refine (hg3.block g (Array.getElem?_eq_some_iff.1 hg).1 (fun e => ?_)).trans hg
    rcases h2.own.2 with ⟨hv, _⟩ | ⟨g', cap', cur', hv, _, hg', _⟩
    · rw [hv] at e; cases e
    · rw [hv] at e
      simp only [Value.ownBlock, Option.some.injEq] at e
      subst e
      exact type_ne hg hg' ht rfl
  have hp3 := hne _ _ _ h2.ptr (by decide)
  have hgp : ∀ (g : Nat) (c : Array Value) (t : TypeId), w3.heap[g]? = some (.cells c t (0, 0)) → t ≠ 50 → (w3.setCell ⟨gp, 0, none⟩ (.slice (some ⟨g3, 0, none⟩) (k + 1) rc')).heap[g]? = some (.cells c t (0, 0)) := fun g c t hg ht =>
    (heap_setCell_other _ _ _ _ (type_ne hg hp3 ht)).trans hg
  have hB3 : Below B w0 w3 := (hB.trans (hb2.mono (Nat.le_trans hBb hb))).grown hg3 (by have := hB.size; have := hb2.size; omega) (fun j hj => Nat.le_trans hBb (World.ownsRow.lt h2.own _ hj).1)
  refine ⟨_, _, w3, hrun, cell_of_row w3 gp 0 _ _ _ hp3, frozen_of_row w3 gp 0 _ _ hp3, ⟨?_, h.lo, ⟨by simp, ?_⟩, fun i hi' => ?_, fun i hi' => ?_, fun i j hi' hj' e => ?_⟩, hB3.setCell (p := ⟨gp, 0, none⟩) (Nat.le_trans hBb h.lo) _⟩
  · rw [heap_setCell_same w3 gp 0 _ _ _ hp3]
    rfl
  · rcases ho3.2 with ⟨hv, _⟩ | ⟨g', cap', cur', hv, hb', hg', hc', hm', hs', ht'⟩
    · cases hv
    · refine .inr ⟨g', cap', cur', hv, hb', hgp _ _ _ hg' (by decide), hc', hm', hs', ht'.trans ?_⟩
      rw [List.range_succ, List.map_append]
      simp only [List.map_cons, List.map_nil, if_true]
      congr 1
      exact List.map_congr_left fun i hi' => by rw [if_neg (by have := List.mem_range.1 hi'; omega)]
  · refine hgp _ _ _ ?_ (by decide)
    by_cases e : i = k
    · subst e
      rw [if_pos rfl]
      exact hne _ _ _ hr (by decide)
    · rw [if_neg e]
      exact hne _ _ _ (h2.rows i (by omega)) (by decide)
  · by_cases e : i = k
    · simp only [e, if_true]
      exact hb
    · simp only [e, if_false]
      exact h.low i (by omega)
  · have hlt : ∀ i, i < k → rb i < w.heap.size := fun i hi => (Array.getElem?_eq_some_iff.1 (h.rows i hi)).1
    by_cases e1 : i = k <;> by_cases e2 : j = k
    · omega
    · simp only [e1, e2, if_true, if_false] at e
      have := hlt j (by omega)
      omega
    · simp only [e1, e2, if_true, if_false] at e
      have := hlt i (by omega)
      omega
    · simp only [e1, e2, if_false] at e
      exact h.inj i j (by omega) (by omega) e

end Go.Proofs.Ytagndlcpcggmpaa
