/- Texts of the proof, one behind the other. -/
import Derived.Test.YtcoaabgaolblfaaDoorOwn7
import Derived.Test.YtcoaabgaolblfaaDoorOwn12
import Derived.Laws.MakeOwn
import Derived.Test.YtcoaabgaolblfaaDoorOwn10
/- By way of each symbol in turn, plainly. -/
namespace Go.Proofs.YtcoaabgaolblfaaDoor

/-- What has been told as far as the place (i, j), by way of k. -/
def stp (W : Nat → Nat → Bool) (k i j : Nat) : Nat → Nat → Bool := fun a b => W a b || (decide (a < i ∨ (a = i ∧ b < j)) && W a k && W k b)

theorem stp_start (W : Nat → Nat → Bool) (k : Nat) : stp W k 0 0 = W := by
  funext a b
  simp [stp]

theorem stp_row (W : Nat → Nat → Bool) (k i j b : Nat) : stp W k i j k b = W k b := by
  unfold stp
  cases W k b <;> simp

theorem stp_col (W : Nat → Nat → Bool) (k i j a : Nat) : stp W k i j a k = W a k := by
  unfold stp
  cases W a k <;> simp

theorem stp_at (W : Nat → Nat → Bool) (k i j : Nat) : stp W k i j i j = W i j := by simp [stp]

def updB (U : Nat → Nat → Bool) (i j : Nat) (x : Bool) : Nat → Nat → Bool := fun a b => if a = i ∧ b = j then x else U a b

theorem stp_step {W : Nat → Nat → Bool} {k i j : Nat} (h : W i k = true) : updB (stp W k i j) i j (W i j || W k j) = stp W k i (j + 1) := by
  funext a b
  unfold updB stp
  by_cases hc : a = i ∧ b = j
  · obtain ⟨rfl, rfl⟩ := hc
    rw [if_pos ⟨rfl, rfl⟩, h]
    simp
  · rw [if_neg hc, show decide (a < i ∨ a = i ∧ b < j) = decide (a < i ∨ a = i ∧ b < j + 1) from by rw [decide_eq_decide]; omega]

theorem stp_skip {W : Nat → Nat → Bool} {k i : Nat} (h : W i k = false) : stp W k i 0 = stp W k (i + 1) 0 := by
  funext a b
  unfold stp
  by_cases hc : a = i
  · subst hc
    simp [h]
  · rw [show decide (a < i ∨ a = i ∧ b < 0) = decide (a < i + 1 ∨ a = i + 1 ∧ b < 0) from by rw [decide_eq_decide]; omega]

theorem stp_next (W : Nat → Nat → Bool) (k i n a b : Nat) (hb : b < n) : stp W k i n a b = stp W k (i + 1) 0 a b := by
  unfold stp
  rw [show decide (a < i ∨ a = i ∧ b < n) = decide (a < i + 1 ∨ a = i + 1 ∧ b < 0) from by rw [decide_eq_decide]; omega]

/-- As far as the symbol k: whatever goes by way of a lesser one is told. -/
structure War (B : Nat → Nat → Prop) (n k : Nat) (U : Nat → Nat → Bool) : Prop where
  base : ∀ i j, B i j → i < n ∧ j < n ∧ U i j = true
  least : ∀ S : Nat → Nat → Prop, (∀ i j, B i j → S i j) → TrP S → ∀ i j, i < n → j < n → U i j = true → S i j
  tr : ∀ i m j, i < n → m < k → j < n → U i m = true → U m j = true → U i j = true

theorem War.congr {B : Nat → Nat → Prop} {n k : Nat} {U V : Nat → Nat → Bool} (h : War B n k U) (hk : k ≤ n) (e : ∀ a b, a < n → b < n → U a b = V a b) : War B n k V :=
  ⟨fun i j hb => by obtain ⟨h1, h2, h3⟩ := h.base i j hb; exact ⟨h1, h2, by rw [← e _ _ h1 h2]; exact h3⟩,
   fun S hb hS i j hi hj hv => h.least S hb hS i j hi hj (by rw [e _ _ hi hj]; exact hv),
   fun i m j hi hm hj h1 h2 => by rw [← e _ _ hi hj]; exact h.tr i m j hi hm hj (by rw [e _ _ hi (by omega)]; exact h1) (by rw [e _ _ (by omega) hj]; exact h2)⟩

theorem War.next {B : Nat → Nat → Prop} {n k : Nat} {W : Nat → Nat → Bool} (h : War B n k W) (hk : k < n) : War B n (k + 1) (stp W k n 0) := by
  have e : ∀ a b, a < n → (stp W k n 0 a b = true ↔ W a b = true ∨ (W a k = true ∧ W k b = true)) := fun a b ha => by
    unfold stp
    simp [ha]
  refine ⟨fun i j hb => ?_, fun S hb hS i j hi hj hv => ?_, fun i m j hi hm hj h1 h2 => ?_⟩
  · obtain ⟨h1, h2, h3⟩ := h.base i j hb
    exact ⟨h1, h2, (e i j h1).2 (.inl h3)⟩
  · rcases (e i j hi).1 hv with hv | ⟨h1, h2⟩
    · exact h.least S hb hS i j hi hj hv
    · exact hS _ _ _ (h.least S hb hS i k hi hk h1) (h.least S hb hS k j hk hj h2)
  · rw [e _ _ hi] at h1 ⊢
    rw [e _ _ (by omega)] at h2
    by_cases hmk : m = k
    · subst hmk
      have h3 : W i m = true := by rcases h1 with h1 | h1; exact h1; exact h1.1
      have h4 : W m j = true := by rcases h2 with h2 | h2; exact h2; exact h2.2
      exact .inr ⟨h3, h4⟩
    · have hm2 : m < k := by omega
      rcases h1 with h1 | ⟨h1, h1'⟩ <;> rcases h2 with h2 | ⟨h2, h2'⟩
      · exact .inl (h.tr i m j hi hm2 hj h1 h2)
      · exact .inr ⟨h.tr i m k hi hm2 hk h1 h2, h2'⟩
      · exact .inr ⟨h1, h.tr k m j hk hm2 hj h1' h2⟩
      · exact .inr ⟨h1, h2'⟩

theorem War.up {ps : List (Int × Int)} {n : Nat} {U : Nat → Nat → Bool} (h : War (PR ps) n n U) (i j : Nat) : (i < n ∧ j < n ∧ U i j = true) ↔ Up ps i j :=
  ⟨fun hh S hb hS => h.least S hb hS i j hh.1 hh.2.1 hh.2.2, fun hu => hu (fun i j => i < n ∧ j < n ∧ U i j = true) h.base (fun i m j h1 h2 => ⟨h1.1, h2.2.1, h.tr i m j h1.1 h1.2.1 h2.2.1 h1.2.2 h2.2.2⟩)⟩

/-- The pairs themselves. -/
def ToldU (ps : List (Int × Int)) (U : Nat → Nat → Bool) : Prop := ∀ i j, U i j = true ↔ PR ps i j

theorem toldU_zero : ToldU [] (fun _ _ => false) := fun i j => by simp [PR]

theorem toldU_step {ps : List (Int × Int)} {U : Nat → Nat → Bool} (h : ToldU ps U) (f g : Nat) : ToldU (ps ++ [((f : Int), (g : Int))]) (updB U f g true) := fun i j => by
  unfold updB PR
  rw [List.mem_append]
  by_cases hc : i = f ∧ j = g
  · obtain ⟨rfl, rfl⟩ := hc
    simp
  · rw [if_neg hc, h i j]
    simp only [List.mem_singleton, Prod.mk.injEq]
    constructor
    · exact .inl
    · rintro (h | ⟨h1, h2⟩)
      · exact h
      · exact absurd ⟨by omega, by omega⟩ hc

theorem ToldU.war {ps : List (Int × Int)} {U : Nat → Nat → Bool} {n : Nat} (h : ToldU ps U) (hn : InN (n : Int) ps) : War (PR ps) n 0 U :=
  ⟨fun i j hp => by have := hn _ hp; simp only at this; exact ⟨by omega, by omega, (h i j).2 hp⟩, fun S hb _ i j _ _ hu => hb i j ((h i j).1 hu), fun _ _ _ _ hm => by omega⟩

end Go.Proofs.YtcoaabgaolblfaaDoor

/- The document's table of what is above what, in memory. -/
namespace Go.Proofs.YtcoaabgaolblfaaDoor
open Go.RowKit Go.Maps

def rowB (n : Nat) (U : Nat → Bool) : Array Value := ((List.range n).map fun j => Value.bool (U j)).toArray

theorem rowB_get {n : Nat} (U : Nat → Bool) {j : Nat} (hj : j < n) : (rowB n U)[j]? = some (.bool (U j)) := by simp [rowB, hj]

theorem rowB_set {n : Nat} (U : Nat → Bool) (j : Nat) (x : Bool) : (rowB n U).setIfInBounds j (.bool x) = rowB n (fun b => if b = j then x else U b) := by
  apply Array.ext_getElem?
  intro k
  rw [Array.getElem?_setIfInBounds]
  by_cases hk : k < n
  · by_cases e : j = k
    · subst e
      rw [if_pos rfl, if_pos (by simp [rowB]; omega), rowB_get _ hk, if_pos rfl]
    · rw [if_neg e, rowB_get _ hk, rowB_get _ hk, if_neg (fun h => e h.symm)]
  · have hs : ∀ V : Nat → Bool, (rowB n V)[k]? = none := fun V => by simp [rowB]; omega
    rw [hs, hs]
    split
    · rw [if_neg (by simp [rowB]; omega)]
    · rfl

structure RUP (base : Nat) (w : World) (gp : Nat) (ro : Option Addr) (rc : Nat) (rb : Nat → Nat) (n k : Nat) (U : Nat → Nat → Bool) : Prop where
  ptr : w.heap[gp]? = some (.cells #[.slice ro k rc] 79 (0, 0))
  lo : base ≤ gp
  own : w.ownsRow base 60 1 (.slice ro k rc) k ((List.range k).map fun i => .slice (some ⟨rb i, 0, none⟩) n n)
  rows : ∀ i, i < k → w.heap[rb i]? = some (.cells (rowB n (U i)) 4 (0, 0))
  low : ∀ i, i < k → base ≤ rb i
  inj : ∀ i j, i < k → j < k → rb i = rb j → i = j

theorem RUP.later {base : Nat} {w w' : World} {gp : Nat} {ro : Option Addr} {rc : Nat} {rb : Nat → Nat} {n k : Nat} {U : Nat → Nat → Bool} (h : RUP base w gp ro rc rb n k U) (hb : Below w.heap.size w w') : RUP base w' gp ro rc rb n k U :=
  ⟨(hb.block _ (Array.getElem?_eq_some_iff.1 h.ptr).1).trans h.ptr, h.lo, ownsRow_later h.own hb, fun i hi => (hb.block _ (Array.getElem?_eq_some_iff.1 (h.rows i hi)).1).trans (h.rows i hi), h.low, h.inj⟩

theorem RUP.congr {base : Nat} {w : World} {gp : Nat} {ro : Option Addr} {rc : Nat} {rb : Nat → Nat} {n k : Nat} {U V : Nat → Nat → Bool} (h : RUP base w gp ro rc rb n k U) (e : ∀ a b, a < k → b < n → U a b = V a b) : RUP base w gp ro rc rb n k V :=
  ⟨h.ptr, h.lo, h.own, fun i hi => by
    rw [h.rows i hi]
    congr 2
    unfold rowB
    congr 1
    exact List.map_congr_left fun j hj => by rw [e i j hi (List.mem_range.1 hj)], h.low, h.inj⟩

theorem RUP.cellP {base : Nat} {w : World} {gp : Nat} {ro : Option Addr} {rc : Nat} {rb : Nat → Nat} {n k : Nat} {U : Nat → Nat → Bool} (h : RUP base w gp ro rc rb n k U) : w.cell? ⟨gp, 0, none⟩ = some (.slice ro k rc) := cell_of_row w gp 0 _ _ _ h.ptr

theorem RUP.form {base : Nat} {w : World} {gp : Nat} {ro : Option Addr} {rc : Nat} {rb : Nat → Nat} {n k : Nat} {U : Nat → Nat → Bool} (h : RUP base w gp ro rc rb n k U) (hk : 0 < k) :
    ∃ g, ro = some ⟨g, 0, none⟩ ∧ k ≤ rc ∧ ∀ i, i < k → w.cell? ⟨g, i, none⟩ = some (.slice (some ⟨rb i, 0, none⟩) n n) := by
  have ho := h.own
  rcases ho.2 with ⟨_, h0⟩ | ⟨g, cap, cur, hv, hb, hg, hc, hm, hs, ht⟩
  · omega
  · simp only [Value.slice.injEq, true_and] at hv
    obtain ⟨rfl, rfl⟩ := hv
    refine ⟨g, rfl, hc, fun i hi => ?_⟩
    rw [World.ownsRow.cellAt ho i (by omega)]
    simp [hi]

theorem RUP.bit {base : Nat} {w : World} {gp : Nat} {ro : Option Addr} {rc : Nat} {rb : Nat → Nat} {n k : Nat} {U : Nat → Nat → Bool} (h : RUP base w gp ro rc rb n k U) {i j : Nat} (hi : i < k) (hj : j < n) : w.cell? ⟨rb i, j, none⟩ = some (.bool (U i j)) := by
  rw [cell_of_row w (rb i) j _ _ _ (h.rows i hi), rowB_get _ hj]

theorem RUP.free {base : Nat} {w : World} {gp : Nat} {ro : Option Addr} {rc : Nat} {rb : Nat → Nat} {n k : Nat} {U : Nat → Nat → Bool} (h : RUP base w gp ro rc rb n k U) {i : Nat} (hi : i < k) (j : Nat) : w.frozen? ⟨rb i, j, none⟩ = false := frozen_of_row w _ _ _ _ (h.rows i hi)

theorem type_ne {w : World} {g g' : Nat} {c c' : Array Value} {t t' : TypeId} (h : w.heap[g]? = some (.cells c t (0, 0))) (h' : w.heap[g']? = some (.cells c' t' (0, 0))) (hne : t ≠ t') : g ≠ g' := by
  rintro rfl
  rw [h] at h'
  simp only [Option.some.injEq, Obj.cells.injEq] at h'
  exact hne h'.2.1

theorem RUP.set {base : Nat} {w : World} {gp : Nat} {ro : Option Addr} {rc : Nat} {rb : Nat → Nat} {n k : Nat} {U : Nat → Nat → Bool} (h : RUP base w gp ro rc rb n k U) {i : Nat} (hi : i < k) (j : Nat) (x : Bool) : RUP base (w.setCell ⟨rb i, j, none⟩ (.bool x)) gp ro rc rb n k (updB U i j x) := by
  refine ⟨?_, h.lo, ⟨h.own.1, ?_⟩, fun i' hi' => ?_, h.low, h.inj⟩
  · exact (heap_setCell_other _ _ _ _ (type_ne h.ptr (h.rows i hi) (by decide))).trans h.ptr
  · rcases h.own.2 with h0 | ⟨g, cap, cur, hv, hb, hg, r⟩
    · exact .inl h0
    · exact .inr ⟨g, cap, cur, hv, hb, (heap_setCell_other _ _ _ _ (type_ne hg (h.rows i hi) (by decide))).trans hg, r⟩
  · by_cases e : i' = i
    · subst e
      rw [heap_setCell_same w (rb i') j _ _ _ (h.rows i' hi'), rowB_set]
      congr 2
      congr 1
      funext b
      simp [updB]
    · rw [heap_setCell_other _ _ _ _ (fun e2 => e (h.inj _ _ hi' hi e2)), h.rows i' hi']
      congr 2
      congr 1
      funext b
      simp [updB, e]

theorem info_rowB : (Tryd.prog.info? 60).map (fun i => (i.zero, i.size, i.bytes)) = some (some (.slice none 0 0), 1, 24) := by kernel_rfl

theorem info_boolB : (Tryd.prog.info? 4).map (fun i => (i.zero, i.size, i.bytes)) = some (some (.bool false), 1, 1) := by kernel_rfl

theorem under_rowsB : Tryd.prog.underlying 57 = some (.slice 60) := by kernel_rfl

theorem under_rowB : Tryd.prog.underlying 60 = some (.slice 4) := by kernel_rfl

theorem made_bool (n : Nat) : madeCells (Value.bool false).cells (n * 1) = rowB n (fun _ => false) := by
  apply Array.ext'
  have : (Value.bool false).cells = #[Value.bool false] := rfl
  rw [this, toList_madeCells_one]
  simp [rowB, List.map_const']

theorem run_make_bool (w : World) (n : Nat) (hn : n ≤ 128) : (Instr.makeSlice 60 (.int .i64 (n : Int)) (.int .i64 (n : Int))).run Tryd.prog w = .ok (.slice (some ⟨w.heap.size, 0, none⟩) n n) (w.alloc (.cells (rowB n (fun _ => false)) 4)) := by
  obtain ⟨i0, hi, hz0, hz1, hz2⟩ := info_parts3 info_boolB
  have h := run_make (P := Tryd.prog) w 60 4 i0 (.bool false) under_rowB hi hz0 .i64 .i64 (n : Int) (n : Int) (by omega) (Int.le_refl _) (by rw [hz2]; omega) (by omega)
  rw [hz1, Int.toNat_natCast, made_bool] at h
  exact h

set_option maxRecDepth 100000 in
/-- A row more. -/
theorem ru_grow {base : Nat} {w : World} {gp : Nat} {ro : Option Addr} {rc : Nat} {rb : Nat → Nat} {n k : Nat} (h : RUP base w gp ro rc rb n k (fun _ _ => false)) (hb : base ≤ w.heap.size) (hk : k < 128) {B : Nat} {w0 : World} (hB : Below B w0 w) (hBb : B ≤ base) :
    ∃ ro' rc' w3, (Builtin.append_ #[57, 57] 57 #[.slice ro k rc, .slice (some ⟨w.heap.size + 1, 0, none⟩) 1 1]).run Tryd.prog ((w.alloc (.cells (rowB n (fun _ => false)) 4)).alloc (.cells #[.slice (some ⟨w.heap.size, 0, none⟩) n n] 60)) = .ok (.slice ro' (k + 1) rc') w3 ∧
      w3.cell? ⟨gp, 0, none⟩ = some (.slice ro k rc) ∧ w3.frozen? ⟨gp, 0, none⟩ = false ∧ RUP base (w3.setCell ⟨gp, 0, none⟩ (.slice ro' (k + 1) rc')) gp ro' rc' (fun i => if i = k then w.heap.size else rb i) n (k + 1) (fun _ _ => false) ∧
      Below B w0 (w3.setCell ⟨gp, 0, none⟩ (.slice ro' (k + 1) rc')) := by
  obtain ⟨i0, hi, hz0, hz1, hz2⟩ := info_parts3 info_rowB
  obtain ⟨w2, hw2⟩ : ∃ X, X = (w.alloc (.cells (rowB n (fun _ => false)) 4)).alloc (.cells #[.slice (some ⟨w.heap.size, 0, none⟩) n n] 60) := ⟨_, rfl⟩
  have hb2 : Below w.heap.size w w2 := by rw [hw2]; exact below_step (below_alloc _) (below_alloc _)
  have hr : w2.heap[w.heap.size]? = some (.cells (rowB n (fun _ => false)) 4 (0, 0)) := by rw [hw2]; exact heap_alloc2_old _ _ _
  have hl : w2.heap[w.heap.size + 1]? = some (.cells #[.slice (some ⟨w.heap.size, 0, none⟩) n n] 60 (0, 0)) := by rw [hw2]; exact heap_alloc2_new _ _ _
  have h2 := h.later hb2
  obtain ⟨v', w3, hrun, ho3, hg3, _, _⟩ := run_append_own_at (P := Tryd.prog) w2 base 57 57 60 i0 _ 1 24 under_rowsB hi hz0 hz1 hz2 rfl (by decide) _ k _ h2.own ⟨w.heap.size + 1, 0, none⟩ 1 1 [.slice (some ⟨w.heap.size, 0, none⟩) n n] rfl (fun j u hj => by
    rw [Addr.add_lit]
    match j, hj with
    | 0, hj =>
      cases hj
      exact cell_of_row w2 _ _ _ _ _ hl) (fun u hu => by
    simp only [List.mem_singleton] at hu
    subst hu
    rfl) (by unfold maxLen; omega) (by omega) (Nat.le_trans hb hb2.size)
  obtain ⟨g3, rc', hv⟩ := own_form ho3 (by omega)
  subst hv
  rw [← hw2]
  have hne : ∀ (g : Nat) (c : Array Value) (t : TypeId), w2.heap[g]? = some (.cells c t (0, 0)) → t ≠ 60 → w3.heap[g]? = some (.cells c t (0, 0)) := fun g c t hg ht => by
    refine (hg3.block g (Array.getElem?_eq_some_iff.1 hg).1 (fun e => ?_)).trans hg
    rcases h2.own.2 with ⟨hv, _⟩ | ⟨g', cap', cur', hv, _, hg', _⟩
    · rw [hv] at e; cases e
    · rw [hv] at e
      simp only [Value.ownBlock, Option.some.injEq] at e
      subst e
      exact type_ne hg hg' ht rfl
  have hp3 := hne _ _ _ h2.ptr (by decide)
  have hgp : ∀ (g : Nat) (c : Array Value) (t : TypeId), w3.heap[g]? = some (.cells c t (0, 0)) → t ≠ 79 → (w3.setCell ⟨gp, 0, none⟩ (.slice (some ⟨g3, 0, none⟩) (k + 1) rc')).heap[g]? = some (.cells c t (0, 0)) := fun g c t hg ht =>
    (heap_setCell_other _ _ _ _ (type_ne hg hp3 ht)).trans hg
  have hB3 : Below B w0 w3 := (hB.trans (hb2.mono (Nat.le_trans hBb hb))).grown hg3 (by have := hB.size; have := hb2.size; omega) (fun j hj => Nat.le_trans hBb (World.ownsRow.lt h2.own _ hj).1)
  refine ⟨_, _, w3, hrun, cell_of_row w3 gp 0 _ _ _ hp3, frozen_of_row w3 gp 0 _ _ hp3, ⟨?_, h.lo, ⟨by simp, ?_⟩, fun i hi' => ?_, fun i hi' => ?_, fun i j hi' hj' e => ?_⟩, hB3.setCell (p := ⟨gp, 0, none⟩) (Nat.le_trans hBb h.lo) _⟩
  · rw [heap_setCell_same w3 gp 0 _ _ _ hp3]
    rfl
  · rcases ho3.2 with ⟨hv, _⟩ | ⟨g', cap', cur', hv, hb', hg', hc', hm', hs', ht'⟩
    · cases hv
    · refine .inr ⟨g', cap', cur', hv, hb', hgp _ _ _ hg' (by decide), hc', hm', hs', ht'.trans ?_⟩
      rw [List.range_succ, List.map_append]
      simp only [List.map_cons, List.map_nil, if_true]
      congr 1
      exact List.map_congr_left fun i hi' => by rw [if_neg (by have := List.mem_range.1 hi'; omega)]
  · refine hgp _ _ _ ?_ (by decide)
    by_cases e : i = k
    · subst e
      rw [if_pos rfl]
      exact hne _ _ _ hr (by decide)
    · rw [if_neg e]
      exact hne _ _ _ (h2.rows i (by omega)) (by decide)
  · by_cases e : i = k
    · simp only [e, if_true]
      exact hb
    · simp only [e, if_false]
      exact h.low i (by omega)
  · have hlt : ∀ i, i < k → rb i < w.heap.size := fun i hi => (Array.getElem?_eq_some_iff.1 (h.rows i hi)).1
    by_cases e1 : i = k <;> by_cases e2 : j = k
    · omega
    · simp only [e1, e2, if_true, if_false] at e
      have := hlt j (by omega)
      omega
    · simp only [e1, e2, if_true, if_false] at e
      have := hlt i (by omega)
      omega
    · simp only [e1, e2, if_false] at e
      exact h.inj i j (by omega) (by omega) e

end Go.Proofs.YtcoaabgaolblfaaDoor

/- The document's Close of layer 10. -/
namespace Go.Proofs.YtcoaabgaolblfaaDoor
open Go.RowKit Go.Maps

/-- The document's precedence of these pairs. -/
def Rc (w : World) (v : Value) (ps : List (Int × Int)) : Prop := ∃ base gp ro rc rb N U, v = .pointer (some ⟨gp, 0, none⟩) ∧ RUP base w gp ro rc rb N N U ∧ ∀ i j, (i < N ∧ j < N ∧ U i j = true) ↔ Up ps i j

theorem Rc.later {w w' : World} {v : Value} {ps : List (Int × Int)} (h : Rc w v ps) (hb : Below w.heap.size w w') : Rc w' v ps := by
  obtain ⟨base, gp, ro, rc, rb, N, U, hv, h1, h2⟩ := h
  exact ⟨base, gp, ro, rc, rb, N, U, hv, h1.later hb, h2⟩

/-- What the document's Close answers. -/
def RefO (n : Int) (ps : List (Int × Int)) (w : World) (e : Ending) (w' : World) : Prop :=
  Below w.heap.size w w' ∧ ((closeE n ps ≠ 0 ∧ e = .returned (.tuple #[.pointer none, .int .i64 (closeE n ps)])) ∨ (closeE n ps = 0 ∧ ∃ g, e = .returned (.tuple #[.pointer (some ⟨g, 0, none⟩), .int .i64 0]) ∧ Rc w' (.pointer (some ⟨g, 0, none⟩)) ps))

theorem refO_err {n c : Int} {ps : List (Int × Int)} {w w' : World} (hE : closeE n ps = c) (hc : c ≠ 0) (hb : Below w.heap.size w w') : RefO n ps w (.returned (.tuple #[.pointer none, .int .i64 c])) w' :=
  ⟨hb, .inl ⟨by rw [hE]; exact hc, by rw [hE]⟩⟩

theorem ru_start (w : World) (n : Nat) : RUP w.heap.size (w.alloc (.cells #[.slice none 0 0] 79)) w.heap.size none 0 (fun _ => 0) n 0 (fun _ _ => false) :=
  ⟨heap_alloc_new _ _, Nat.le_refl _, ⟨rfl, .inl ⟨rfl, rfl⟩⟩, fun _ h => by omega, fun _ h => by omega, fun _ _ h => by omega⟩

set_option maxRecDepth 100000 in
set_option maxHeartbeats 6400000 in
theorem refClose_any (n : Int) (v : Value) (ps : List (Int × Int)) (w : World) (h : Prs w v ps) :
    Calls Tryd.prog 13 #[.int .i64 n, v] w (RefO n ps w) := by
  obtain ⟨ao, cap, rfl, hcap, hcm, _⟩ := Row.flat h
  unfold maxLen at hcm
  have HP : Hid (Prs w (.slice ao ps.length cap) ps) := h
  clear h
  by_cases hn0 : n < 0
  · go_enter Tryd.func13, Tryd.ntmps13
    go_wp2
    go_ret2
    exact refO_err (closeE_arg (.inl hn0)) (by decide) (Below.refl _ _)
  by_cases hn1 : 128 < n
  · go_enter Tryd.func13, Tryd.ntmps13
    go_wp2
    go_ret2
    exact refO_err (closeE_arg (.inr hn1)) (by decide) (Below.refl _ _)
  obtain ⟨N, rfl⟩ := Int.eq_ofNat_of_zero_le (show 0 ≤ n by omega)
  have hN : N ≤ 128 := by omega
  have hd0 : decide ((N : Int) < 0) = false := by simp
  have hd1 : decide (128 < (N : Int)) = false := by simp; omega
  have HN : Hid ((0 : Int) ≤ (N : Int) ∧ (N : Int) ≤ 128) := by constructor <;> omega
  clear hn0 hn1
  go_enter Tryd.func13, Tryd.ntmps13
  go_wp2
  go_loopw [7] (fun i wr => ∃ (k : Nat) (ro : Option Addr) (rc : Nat) (rb : Nat → Nat), k ≤ N ∧ i = .int .i64 k ∧ RUP w.heap.size wr w.heap.size ro rc rb N k (fun _ _ => false) ∧ Below w.heap.size w wr) (fun i _ => N - (intOf i).toNat)
  case atStart => exact ⟨0, none, 0, fun _ => 0, by omega, rfl, ru_start w N, below_alloc _⟩
  case round =>
    obtain ⟨k, ro, rc, rb, hk, rfl, hR, hbl⟩ := hrel
    have HR : Hid (RUP w.heap.size wr w.heap.size ro rc rb N k (fun _ _ => false)) := hR
    have B1 : Hid (Below w.heap.size w wr) := hbl
    clear hR hbl
    by_cases hk2 : k < N
    · go_wp2_with fail
      refine wp_region_held_drew (S := fun _ => True) (by kernel_rfl) trivial (fun _ => ?_)
      obtain ⟨wd, hwd⟩ : ∃ X, X = wr.drew := ⟨_, rfl⟩
      have HR2 : Hid (RUP w.heap.size wd w.heap.size ro rc rb N k (fun _ _ => false)) := by rw [hwd]; exact HR.out.later (Below.refl _ _).drew
      have B2 : Hid (Below w.heap.size w wd) := by rw [hwd]; exact B1.out.drew
      rw [← hwd]
      clear hwd HR B1
      obtain ⟨ro', rc', w3, hr3, c2, c3, hR3, hB3⟩ := ru_grow HR2.out B2.out.size (by omega) B2.out (Nat.le_refl _)
      have c1 := HR2.out.cellP
      have c1b := (Kp.of_below (below_alloc (w := wd) (.cells (rowB N (fun _ => false)) 4))).cell _ _ c1
      have c1c := (Kp.of_below (below_alloc (w := wd.alloc (.cells (rowB N (fun _ => false)) 4)) (.cells #[.slice (some ⟨wd.heap.size, 0, none⟩) N N] 60))).cell _ _ c1b
      have HR3 := hidP hr3
      have HM := hidP (run_make_bool wd N hN)
      have HU3 := hidP hR3
      have B3 := hidP hB3
      clear hr3 hR3 hB3
      refine wpAnyH_take (i := 0) (v := .pointer (some ⟨w.heap.size, 0, none⟩)) rfl (by kernel_rfl) (by kernel_rfl) (by kernel_rfl) (fun _ _ _ h => h) (Or.inl ⟨by rfl, fun w' h => by go_simp⟩) trivial ?_
      simp only [Act.put, List.setIfInBounds_toArray]
      refine wpAnyH_take (i := 1) (v := .pointer (some ⟨w.heap.size, 0, none⟩)) rfl (by kernel_rfl) (by kernel_rfl) (by kernel_rfl) (fun _ _ _ h => h) (Or.inl ⟨by rfl, fun w' h => by go_simp⟩) trivial ?_
      simp only [Act.put]
      refine wpAnyH_take (i := 2) (v := .pointer (some ⟨w.heap.size, 0, none⟩)) rfl (by kernel_rfl) (by kernel_rfl) (by kernel_rfl) (fun _ _ _ h => h) (Or.inl ⟨by rfl, fun w' h => by go_simp⟩) trivial ?_
      simp only [Act.put]
      refine wpAnyH_take (i := 3) (v := .pointer (some ⟨w.heap.size, 0, none⟩)) rfl (by kernel_rfl) (by kernel_rfl) (by kernel_rfl) (fun _ _ _ h => h) (Or.inl ⟨by rfl, fun w' h => by go_simp⟩) trivial ?_
      simp only [Act.put]
      refine wpAnyH_take (i := 5) (v := .int .i64 (N : Int)) rfl (by kernel_rfl) (by kernel_rfl) (by kernel_rfl) (fun _ _ _ h => h) (Or.inl ⟨by rfl, fun w' h => by go_simp⟩) trivial ?_
      simp only [Act.put]
      refine wpAnyH_ready (rs := [4, 6]) (by kernel_rfl) (by simp) (AllReadyH.cons rfl (fun K hK => ?_) (AllReadyH.cons rfl (fun K hK => ?_) AllReadyH.nil))
      · go_simp
        refine hK.out _ _ trivial (fun hS9 => ?_)
        clear hK K hS9
        try simp only [Act.put]
        refine wpAnyH_ready (rs := [6]) (by kernel_rfl) (by simp) (AllReadyH.cons rfl (fun K hK => ?_) AllReadyH.nil)
        · have hm := HM.out
          go_simp
          refine hK.out _ _ trivial (fun hS9 => ?_)
          clear hK K hS9 hm
          try simp only [Act.put]
          refine wpAnyH_ready (rs := [7]) (by kernel_rfl) (by simp) (AllReadyH.cons rfl (fun K hK => ?_) AllReadyH.nil)
          · go_simp
            refine hK.out _ _ trivial (fun hS9 => ?_)
            clear hK K hS9
            try simp only [Act.put]
            refine wpAnyH_ready (rs := [8]) (by kernel_rfl) (by simp) (AllReadyH.cons rfl (fun K hK => ?_) AllReadyH.nil)
            refine step_append_run rfl _ _ 57 rfl _ _ rfl rfl HR3.out ?_
            refine hK.out _ _ trivial (fun hS9 => ?_)
            clear hK K hS9
            try simp only [Act.put]
            refine wpAnyH_take (i := 9) (v := .pointer (some ⟨w.heap.size, 0, none⟩)) rfl (by kernel_rfl) (by kernel_rfl) (by kernel_rfl) (fun _ _ _ h => h) (Or.inl ⟨by rfl, fun w' h => by go_simp⟩) trivial ?_
            simp only [Act.put]
            refine wpAnyH_take (i := 10) (v := .pointer (some ⟨w.heap.size, 0, none⟩)) rfl (by kernel_rfl) (by kernel_rfl) (by kernel_rfl) (fun _ _ _ h => h) (Or.inl ⟨by rfl, fun w' h => by go_simp⟩) trivial ?_
            simp only [Act.put]
            refine wpAnyH_ready (rs := [11]) (by kernel_rfl) (by simp) (AllReadyH.cons rfl (fun K hK => ?_) AllReadyH.nil)
            go_simp
            refine hK.out _ _ trivial (fun hS9 => ?_)
            clear hK K hS9
            refine wpAnyH_done (by kernel_rfl) ?_ _
            clear HM HR3 c1 c2 c3 c1b c1c
            go_wp2
            go_roundw
            case rel => exact ⟨k + 1, _, _, _, by omega, by go_num, HU3.out, B3.out⟩
            case measure => simp [intOf]; omega
      · have hm := HM.out
        go_simp
        refine hK.out _ _ trivial (fun hS9 => ?_)
        clear hK K hS9 hm
        try simp only [Act.put]
        refine wpAnyH_ready (rs := [4, 7]) (by kernel_rfl) (by simp) (AllReadyH.cons rfl (fun K hK => ?_) (AllReadyH.cons rfl (fun K hK => ?_) AllReadyH.nil))
        · go_simp
          refine hK.out _ _ trivial (fun hS9 => ?_)
          clear hK K hS9
          try simp only [Act.put]
          refine wpAnyH_ready (rs := [7]) (by kernel_rfl) (by simp) (AllReadyH.cons rfl (fun K hK => ?_) AllReadyH.nil)
          · go_simp
            refine hK.out _ _ trivial (fun hS9 => ?_)
            clear hK K hS9
            try simp only [Act.put]
            refine wpAnyH_ready (rs := [8]) (by kernel_rfl) (by simp) (AllReadyH.cons rfl (fun K hK => ?_) AllReadyH.nil)
            refine step_append_run rfl _ _ 57 rfl _ _ rfl rfl HR3.out ?_
            refine hK.out _ _ trivial (fun hS9 => ?_)
            clear hK K hS9
            try simp only [Act.put]
            refine wpAnyH_take (i := 9) (v := .pointer (some ⟨w.heap.size, 0, none⟩)) rfl (by kernel_rfl) (by kernel_rfl) (by kernel_rfl) (fun _ _ _ h => h) (Or.inl ⟨by rfl, fun w' h => by go_simp⟩) trivial ?_
            simp only [Act.put]
            refine wpAnyH_take (i := 10) (v := .pointer (some ⟨w.heap.size, 0, none⟩)) rfl (by kernel_rfl) (by kernel_rfl) (by kernel_rfl) (fun _ _ _ h => h) (Or.inl ⟨by rfl, fun w' h => by go_simp⟩) trivial ?_
            simp only [Act.put]
            refine wpAnyH_ready (rs := [11]) (by kernel_rfl) (by simp) (AllReadyH.cons rfl (fun K hK => ?_) AllReadyH.nil)
            go_simp
            refine hK.out _ _ trivial (fun hS9 => ?_)
            clear hK K hS9
            refine wpAnyH_done (by kernel_rfl) ?_ _
            clear HM HR3 c1 c2 c3 c1b c1c
            go_wp2
            go_roundw
            case rel => exact ⟨k + 1, _, _, _, by omega, by go_num, HU3.out, B3.out⟩
            case measure => simp [intOf]; omega
        · go_simp
          refine hK.out _ _ trivial (fun hS9 => ?_)
          clear hK K hS9
          try simp only [Act.put]
          refine wpAnyH_ready (rs := [4]) (by kernel_rfl) (by simp) (AllReadyH.cons rfl (fun K hK => ?_) AllReadyH.nil)
          · go_simp
            refine hK.out _ _ trivial (fun hS9 => ?_)
            clear hK K hS9
            try simp only [Act.put]
            refine wpAnyH_ready (rs := [8]) (by kernel_rfl) (by simp) (AllReadyH.cons rfl (fun K hK => ?_) AllReadyH.nil)
            refine step_append_run rfl _ _ 57 rfl _ _ rfl rfl HR3.out ?_
            refine hK.out _ _ trivial (fun hS9 => ?_)
            clear hK K hS9
            try simp only [Act.put]
            refine wpAnyH_take (i := 9) (v := .pointer (some ⟨w.heap.size, 0, none⟩)) rfl (by kernel_rfl) (by kernel_rfl) (by kernel_rfl) (fun _ _ _ h => h) (Or.inl ⟨by rfl, fun w' h => by go_simp⟩) trivial ?_
            simp only [Act.put]
            refine wpAnyH_take (i := 10) (v := .pointer (some ⟨w.heap.size, 0, none⟩)) rfl (by kernel_rfl) (by kernel_rfl) (by kernel_rfl) (fun _ _ _ h => h) (Or.inl ⟨by rfl, fun w' h => by go_simp⟩) trivial ?_
            simp only [Act.put]
            refine wpAnyH_ready (rs := [11]) (by kernel_rfl) (by simp) (AllReadyH.cons rfl (fun K hK => ?_) AllReadyH.nil)
            go_simp
            refine hK.out _ _ trivial (fun hS9 => ?_)
            clear hK K hS9
            refine wpAnyH_done (by kernel_rfl) ?_ _
            clear HM HR3 c1 c2 c3 c1b c1c
            go_wp2
            go_roundw
            case rel => exact ⟨k + 1, _, _, _, by omega, by go_num, HU3.out, B3.out⟩
            case measure => simp [intOf]; omega
    · obtain rfl : k = N := by omega
      have HRs : Hid (RUP w.heap.size wr w.heap.size ro rc rb k k (fun _ _ => false)) := HR.out
      clear HR
      go_wp2
      go_loopw [8] (fun i wr => ∃ (m : Nat) (U : Nat → Nat → Bool), m ≤ ps.length ∧ i = .int .i64 m ∧ RUP w.heap.size wr w.heap.size ro rc rb k k U ∧ ToldU (ps.take m) U ∧ InN (k : Int) (ps.take m) ∧ Below w.heap.size w wr) (fun i _ => ps.length - (intOf i).toNat)
      case atStart => exact ⟨0, fun _ _ => false, by omega, rfl, HRs.out, toldU_zero, (fun x hx => by simp at hx), B1.out⟩
      case round =>
        clear HRs B1
        obtain ⟨m, U, hm, rfl, hR, hT, hI, hbl⟩ := hrel
        have HR : Hid (RUP w.heap.size wr w.heap.size ro rc rb k k U) := hR
        have HT : Hid (ToldU (ps.take m) U) := hT
        have HI : Hid (InN (k : Int) (ps.take m)) := hI
        have B1 : Hid (Below w.heap.size w wr) := hbl
        clear hR hT hI hbl
        by_cases hm2 : m < ps.length
        · obtain ⟨g, off, a, b, rfl, hab, c1, c2, ha, hb⟩ := (HP.out.later B1.out).at hm2
          have HAB : Hid (ps[m]? = some (a, b)) := hab
          clear hab
          by_cases q1 : a < 0
          · go_wp2
            go_ret2
            exact refO_err (closeE_sym HN.out.1 HN.out.2 (not_inN HAB.out (fun h => by omega))) (by decide) B1.out
          have q1b : 0 ≤ a := by omega
          by_cases q2 : (k : Int) ≤ a
          · go_wp2
            go_ret2
            exact refO_err (closeE_sym HN.out.1 HN.out.2 (not_inN HAB.out (fun h => by omega))) (by decide) B1.out
          have q2b : a < (k : Int) := by omega
          by_cases q3 : b < 0
          · go_wp2
            go_ret2
            exact refO_err (closeE_sym HN.out.1 HN.out.2 (not_inN HAB.out (fun h => by omega))) (by decide) B1.out
          have q3b : 0 ≤ b := by omega
          by_cases q4 : (k : Int) ≤ b
          · go_wp2
            go_ret2
            exact refO_err (closeE_sym HN.out.1 HN.out.2 (not_inN HAB.out (fun h => by omega))) (by decide) B1.out
          have q4b : b < (k : Int) := by omega
          obtain ⟨F, rfl⟩ := Int.eq_ofNat_of_zero_le q1b
          obtain ⟨G, rfl⟩ := Int.eq_ofNat_of_zero_le q3b
          have hF : F < k := by omega
          have hG : G < k := by omega
          have HI2 : Hid (InN (k : Int) (ps.take (m + 1))) := inN_take_step HI.out HAB.out ⟨q1b, q2b⟩ ⟨q3b, q4b⟩
          have HT2 : Hid (ToldU (ps.take (m + 1)) (updB U F G true)) := by rw [take_get HAB.out]; exact toldU_step HT.out F G
          obtain ⟨gr, hro, hrc, hrow⟩ := HR.out.form (by omega)
          subst hro
          have c3 := HR.out.cellP
          have c4 := hrow F hF
          have c5 := HR.out.bit hF hG
          have c6 := HR.out.free hF G
          have HR2 := hidP (HR.out.set hF G true)
          have B2 := hidP (B1.out.setCell (p := ⟨rb F, G, none⟩) (HR.out.low F hF) (.bool true))
          clear hrow HT HI
          go_wp2
          go_region
          go_wp2
          go_roundw
          case rel => exact ⟨m + 1, _, by omega, by go_num, HR2.out.later (Below.refl _ _).drew, HT2.out, HI2.out, B2.out.drew⟩
          case measure => simp [intOf]; omega
        · obtain rfl : m = ps.length := by omega
          have hT := HT.out
          have hI := HI.out
          rw [List.take_length] at hT hI
          have HI2 := hidP hI
          have HW : Hid (War (PR ps) k 0 U) := hT.war hI
          clear hT hI HT HI
          go_wp2
          go_loopw [9] (fun i wr => ∃ (c : Nat) (U : Nat → Nat → Bool), c ≤ k ∧ i = .int .i64 c ∧ RUP w.heap.size wr w.heap.size ro rc rb k k U ∧ War (PR ps) k c U ∧ Below w.heap.size w wr) (fun i _ => k - (intOf i).toNat)
          case atStart => exact ⟨0, U, by omega, rfl, HR.out, HW.out, B1.out⟩
          case round =>
            clear HR HW B1
            obtain ⟨c, W, hc, rfl, hR, hW, hbl⟩ := hrel
            have HR : Hid (RUP w.heap.size wr w.heap.size ro rc rb k k W) := hR
            have HW : Hid (War (PR ps) k c W) := hW
            have B1 : Hid (Below w.heap.size w wr) := hbl
            clear hR hW hbl
            by_cases hc2 : c < k
            · have hcd : decide ((c : Int) < (k : Int)) = true := by simp; omega
              go_wp2
              go_loopw [10] (fun x wr => ∃ i : Nat, i ≤ k ∧ x = .int .i64 i ∧ RUP w.heap.size wr w.heap.size ro rc rb k k (stp W c i 0) ∧ Below w.heap.size w wr) (fun x _ => k - (intOf x).toNat)
              case atStart => exact ⟨0, by omega, rfl, by rw [stp_start]; exact HR.out, B1.out⟩
              case round =>
                clear HR B1
                obtain ⟨i, hi, rfl, hR, hbl⟩ := hrel
                have HR : Hid (RUP w.heap.size wr w.heap.size ro rc rb k k (stp W c i 0)) := hR
                have B1 : Hid (Below w.heap.size w wr) := hbl
                clear hR hbl
                by_cases hi2 : i < k
                · have hid : decide ((i : Int) < (k : Int)) = true := by simp; omega
                  obtain ⟨gr, hro, hrc, hrow⟩ := HR.out.form (by omega)
                  cases hWc : W i c with
                  | false =>
                    have HWc := hidP hWc
                    clear hWc
                    go_wp2
                    go_loopw [11] (fun x wr => x = .int .i64 0 ∧ RUP w.heap.size wr w.heap.size ro rc rb k k (stp W c i 0) ∧ Below w.heap.size w wr) (fun _ _ => 0)
                    case atStart => exact ⟨rfl, HR.out, B1.out⟩
                    case round =>
                      clear HR B1
                      obtain ⟨rfl, hR, hbl⟩ := hrel
                      have HR2 : Hid (RUP w.heap.size wr w.heap.size ro rc rb k k (stp W c (i + 1) 0)) := by rw [← stp_skip HWc.out]; exact hR
                      have B1 : Hid (Below w.heap.size w wr) := hbl
                      obtain ⟨gr', hro', hrc', hrow'⟩ := hR.form (by omega)
                      have c3 := hR.cellP
                      rw [hro'] at c3
                      have c4 := hrow' i hi2
                      have c5 := hR.bit hi2 hc2
                      rw [stp_col, HWc.out] at c5
                      clear hR hbl hro hrow hrow' hro'
                      go_wp2
                      go_roundw
                      case rel => exact ⟨i + 1, by omega, by go_num, HR2.out, B1.out⟩
                      case measure => simp [intOf]; omega
                  | true =>
                    have HWc := hidP hWc
                    clear hWc
                    go_wp2
                    go_loopw [11] (fun x wr => ∃ j : Nat, j ≤ k ∧ x = .int .i64 j ∧ RUP w.heap.size wr w.heap.size ro rc rb k k (stp W c i j) ∧ Below w.heap.size w wr) (fun x _ => k - (intOf x).toNat)
                    case atStart => exact ⟨0, by omega, rfl, HR.out, B1.out⟩
                    case round =>
                      clear HR B1
                      obtain ⟨j, hj, rfl, hR, hbl⟩ := hrel
                      have HR : Hid (RUP w.heap.size wr w.heap.size ro rc rb k k (stp W c i j)) := hR
                      have B1 : Hid (Below w.heap.size w wr) := hbl
                      obtain ⟨gr', hro', hrc', hrow'⟩ := hR.form (by omega)
                      have c3 := hR.cellP
                      rw [hro'] at c3
                      have c4 := hrow' i hi2
                      have c4k := hrow' c hc2
                      have c5 := hR.bit hi2 hc2
                      rw [stp_col, HWc.out] at c5
                      clear hR hbl hro hrow hrow' hro'
                      by_cases hj2 : j < k
                      · have c6 := HR.out.bit hi2 hj2
                        rw [stp_at] at c6
                        have c7 := HR.out.bit hc2 hj2
                        rw [stp_row] at c7
                        have c8 := HR.out.free hi2 j
                        have hjd : decide ((j : Int) < (k : Int)) = true := by simp; omega
                        obtain ⟨X, hX⟩ : ∃ X, (W i j || W c j) = X := ⟨_, rfl⟩
                        have HS : Hid (updB (stp W c i j) i j X = stp W c i (j + 1)) := by rw [← hX]; exact stp_step HWc.out
                        have hR9 := HR.out.set hi2 j X
                        rw [HS.out] at hR9
                        have HR9 := hidP hR9
                        have B9 := hidP (B1.out.setCell (p := ⟨rb i, j, none⟩) (HR.out.low i hi2) (.bool X))
                        clear hR9
                        cases hWij : W i j with
                        | true =>
                          obtain rfl : X = true := by rw [← hX, hWij]; rfl
                          rw [hWij] at c6
                          clear hX hWij
                          go_wp2
                          go_region
                          go_wp2
                          go_roundw
                          case rel => exact ⟨j + 1, by omega, by go_num, HR9.out.later (Below.refl _ _).drew, B9.out.drew⟩
                          case measure => simp [intOf]; omega
                        | false =>
                          have hX2 : W c j = X := by rw [← hX, hWij]; rfl
                          rw [hWij] at c6
                          rw [hX2] at c7
                          clear hX hWij hX2
                          go_wp2
                          go_region
                          go_wp2
                          go_roundw
                          case rel => exact ⟨j + 1, by omega, by go_num, HR9.out.later (Below.refl _ _).drew, B9.out.drew⟩
                          case measure => simp [intOf]; omega
                      · obtain rfl : j = k := by omega
                        have HR9 : Hid (RUP w.heap.size wr w.heap.size ro rc rb j j (stp W c (i + 1) 0)) := HR.out.congr (fun a b _ hb => stp_next W c i j a b hb)
                        have hjd : decide ((j : Int) < (j : Int)) = false := by simp
                        go_wp2
                        go_roundw
                        case rel => exact ⟨i + 1, by omega, by go_num, HR9.out, B1.out⟩
                        case measure => simp [intOf]; omega
                · obtain rfl : i = k := by omega
                  have HW2 : Hid (War (PR ps) i (c + 1) (stp W c i 0)) := HW.out.next hc2
                  go_wp2
                  go_roundw
                  case rel => exact ⟨c + 1, _, by omega, by go_num, HR.out, HW2.out, B1.out⟩
                  case measure => simp [intOf]; omega
            · obtain rfl : c = k := by omega
              have HUp := hidP (fun i j => HW.out.up i j)
              go_wp2
              go_loopw [12] (fun x wr => ∃ i : Nat, i ≤ c ∧ x = .int .i64 i ∧ (∀ a, a < i → W a a = false) ∧ RUP w.heap.size wr w.heap.size ro rc rb c c W ∧ Below w.heap.size w wr) (fun x _ => c - (intOf x).toNat)
              case atStart => exact ⟨0, by omega, rfl, (fun a h => by omega), HR.out, B1.out⟩
              case round =>
                clear HR B1
                obtain ⟨i, hi, rfl, hno, hR, hbl⟩ := hrel
                have HNo := hidP hno
                have HR := hidP hR
                have B1 := hidP hbl
                clear hno hR hbl
                by_cases hi2 : i < c
                · obtain ⟨gr', hro', hrc', hrow'⟩ := HR.out.form (by omega)
                  have c3 := HR.out.cellP
                  rw [hro'] at c3
                  have c4 := hrow' i hi2
                  have c5 := HR.out.bit hi2 hi2
                  clear hrow' hro'
                  cases hWi : W i i with
                  | true =>
                    rw [hWi] at c5
                    have HX : Hid (∃ i, Up ps i i) := ⟨i, (HUp.out i i).1 ⟨hi2, hi2, hWi⟩⟩
                    clear hWi
                    go_wp2
                    go_ret2
                    exact refO_err (closeE_cyc HN.out.1 HN.out.2 HI2.out HX.out) (by decide) B1.out
                  | false =>
                    rw [hWi] at c5
                    have HNo2 : Hid (∀ a, a < i + 1 → W a a = false) := fun a ha => by by_cases e : a = i; rw [e]; exact hWi; exact HNo.out a (by omega)
                    clear hWi
                    go_wp2
                    go_roundw
                    case rel => exact ⟨i + 1, by omega, by go_num, HNo2.out, HR.out, B1.out⟩
                    case measure => simp [intOf]; omega
                · obtain rfl : i = c := by omega
                  have HX : Hid (∀ a, ¬ Up ps a a) := fun a ha => by
                    obtain ⟨h1, _, h3⟩ := (HUp.out a a).2 ha
                    rw [HNo.out a h1] at h3
                    cases h3
                  go_wp2
                  go_ret2
                  exact ⟨B1.out, .inr ⟨closeE_ok HN.out.1 HN.out.2 HI2.out HX.out, w.heap.size, rfl, w.heap.size, w.heap.size, ro, rc, rb, i, W, rfl, HR.out, HUp.out⟩⟩

end Go.Proofs.YtcoaabgaolblfaaDoor

/- The document's Above of layer 10. -/
namespace Go.Proofs.YtcoaabgaolblfaaDoor
open Go.RowKit Go.Maps

theorem abB_outU {ps : List (Int × Int)} {f g : Int} {N : Nat} {U : Nat → Nat → Bool} (h : ∀ i j, (i < N ∧ j < N ∧ U i j = true) ↔ Up ps i j) (hn : ¬ (0 ≤ f ∧ f < N ∧ 0 ≤ g ∧ g < N)) : abB ps f g = false := by
  rw [Bool.eq_false_iff]
  intro hh
  rw [abB_iff] at hh
  obtain ⟨h1, h2, h3⟩ := hh
  have := (h _ _).2 h3
  have h4 := this.1
  have h5 := this.2.1
  omega

theorem abB_inU {ps : List (Int × Int)} {N : Nat} {U : Nat → Nat → Bool} (h : ∀ i j, (i < N ∧ j < N ∧ U i j = true) ↔ Up ps i j) {f g : Nat} (hf : f < N) (hg : g < N) : abB ps (f : Int) (g : Int) = U f g := by
  rw [Bool.eq_iff_iff, abB_nat, ← h]
  exact ⟨fun x => x.2.2, fun x => ⟨hf, hg, x⟩⟩

set_option maxRecDepth 100000 in
set_option maxHeartbeats 1600000 in
theorem refAboveP_any (ps : List (Int × Int)) (v : Value) (f g : Int) (w : World) (h : Rc w v ps) :
    Calls Tryd.prog 37 #[v, .int .i64 f, .int .i64 g] w fun e w' => e = .returned (.bool (abB ps f g)) ∧ w' = w := by
  obtain ⟨base, gp, ro, rc, rb, N, U, rfl, hR, hu⟩ := h
  have HU := hidP hu
  have HR := hidP hR
  have c3 := hR.cellP
  clear hu hR
  by_cases q1 : f < 0
  · have HX := hidP (abB_outU HU.out (f := f) (g := g) (by omega))
    have q1b : ¬ 0 ≤ f := by omega
    go_enter Tryd.func37, Tryd.ntmps37
    go_wp2
    go_ret
    exact ⟨ret1b HX.out.symm, rfl⟩
  have q1b : 0 ≤ f := by omega
  by_cases q2 : g < 0
  · have HX := hidP (abB_outU HU.out (f := f) (g := g) (by omega))
    have q2b : ¬ 0 ≤ g := by omega
    go_enter Tryd.func37, Tryd.ntmps37
    go_wp2
    go_ret
    exact ⟨ret1b HX.out.symm, rfl⟩
  have q2b : 0 ≤ g := by omega
  by_cases q3 : (N : Int) ≤ f
  · have HX := hidP (abB_outU HU.out (f := f) (g := g) (by omega))
    have q3b : ¬ f < (N : Int) := by omega
    go_enter Tryd.func37, Tryd.ntmps37
    go_wp2
    go_ret
    exact ⟨ret1b HX.out.symm, rfl⟩
  have q3b : f < (N : Int) := by omega
  by_cases q4 : (N : Int) ≤ g
  · have HX := hidP (abB_outU HU.out (f := f) (g := g) (by omega))
    have q4b : ¬ g < (N : Int) := by omega
    go_enter Tryd.func37, Tryd.ntmps37
    go_wp2
    go_ret
    exact ⟨ret1b HX.out.symm, rfl⟩
  have q4b : g < (N : Int) := by omega
  obtain ⟨F, rfl⟩ := Int.eq_ofNat_of_zero_le q1b
  obtain ⟨G, rfl⟩ := Int.eq_ofNat_of_zero_le q2b
  have hF : F < N := by omega
  have hG : G < N := by omega
  obtain ⟨gr, hro, hrc, hrow⟩ := HR.out.form (by omega)
  subst hro
  have c4 := hrow F hF
  have c5 := HR.out.bit hF hG
  rw [← abB_inU HU.out hF hG] at c5
  generalize abB ps (F : Int) (G : Int) = X at c5 ⊢
  clear hrow
  go_enter Tryd.func37, Tryd.ntmps37
  go_wp2
  go_ret
  exact ⟨rfl, rfl⟩

end Go.Proofs.YtcoaabgaolblfaaDoor

/- The document's table of layer 11, read. -/
namespace Go.Proofs.YtcoaabgaolblfaaDoor
open Go.RowKit Go.Maps Go.BigFrame

set_option maxHeartbeats 400000 in
theorem sameRow11_any (v u : Value) (xs ys : List Int) (w : World) (h : Is w v xs) (h' : Is w u ys) :
    Calls Tryd.prog 21 #[v, u] w fun e w' => e = .returned (.bool (decide (xs = ys))) ∧ ∃ n, w' = w.drewN n := by
  obtain ⟨ao, cap, rfl, hao, hca, hcl⟩ := h.flatI
  obtain ⟨bo, cap', rfl, hbo, hcb, hcl'⟩ := h'.flatI
  clear h h'
  by_cases hl : xs.length = ys.length
  · have hle : ((xs.length : Int) != ys.length) = false := by simp; omega
    go_enter Tryd.func21, Tryd.ntmps21
    go_wp2
    go_loopw [5] (fun i wr => ∃ k : Nat, k ≤ xs.length ∧ i = .int .i64 k ∧ xs.take k = ys.take k ∧ ∃ n, wr = w.drewN n) (fun i _ => xs.length - (intOf i).toNat)
    case atStart => exact ⟨0, Nat.zero_le _, rfl, rfl, 0, rfl⟩
    case round =>
      obtain ⟨k, hk, rfl, ht, n, rfl⟩ := hrel
      have HT : Hid (xs.take k = ys.take k) := ht
      clear ht
      by_cases hlt : k < xs.length
      · obtain ⟨g, off, x, rfl, hx1, hx3⟩ := hcl k hlt
        obtain ⟨g', off', y, rfl, hy1, hy3⟩ := hcl' k (by omega)
        have HX : Hid (xs[k]? = some x) := hx1
        have HY : Hid (ys[k]? = some y) := hy1
        have hlt' : k < ys.length := by omega
        clear hx1 hy1 hcl hcl'
        by_cases hxy : x = y
        · subst hxy
          have hxx : (x != x) = false := by simp
          go_wp2
          go_quiet (fail)
          go_wp2
          go_roundw
          case rel => exact ⟨k + 1, by omega, by go_num, by rw [take_get HX.out, take_get HY.out, HT.out], _, rfl⟩
          case measure => simp [intOf]; omega
        · have hne : (x != y) = true := by rw [bne_iff_ne]; exact hxy
          go_wp2
          go_quiet (fail)
          go_wp2
          go_ret
          exact ⟨ret1b (by rw [eq_comm, decide_eq_false_iff_not]; rintro rfl; have := HX.out.symm.trans HY.out; simp at this; exact hxy this), _, World.drewN_drewN _ _ _⟩
      · have hk' : k = xs.length := by omega
        go_wp2
        go_ret
        refine ⟨ret1b ?_, n, rfl⟩
        have := HT.out
        rw [List.take_of_length_le (by omega), List.take_of_length_le (by omega)] at this
        simp [this]
  · have hle : ((xs.length : Int) != ys.length) = true := by rw [bne_iff_ne]; omega
    go_enter Tryd.func21, Tryd.ntmps21
    go_wp2
    go_ret
    exact ⟨ret1b (by rw [eq_comm, decide_eq_false_iff_not]; rintro rfl; exact hl rfl), 0, rfl⟩

set_option maxRecDepth 100000 in
theorem kids11_any (sv v : Value) (sig : List Sy) (t : List Int) (p : Int) (w : World) (hs : Sg w sv sig) (h : Is w v t) (hb : t.length * 8 ≤ 140737488351232) (hp1 : -9223372036854775808 ≤ p) (hp2 : p ≤ 9223372036854775807) :
    Calls Tryd.prog 19 #[sv, v, .int .i64 p] w fun e w' => ∃ v', e = .returned v' ∧ OwI w' w.heap.size v' (kidsL sig t p) ∧ Below w.heap.size w w' := by
  have HS := hid hs
  have HI := hid h
  clear hs h
  go_enter Tryd.func19, Tryd.ntmps19
  go_wp2_with fail
  refine (refKids_any _ _ sig t p w HS.out HI.out hb hp1 hp2).mono ?_
  rintro e w1 ⟨v', rfl, ho, hb1⟩
  have HO := hid ho
  have HB := hid hb1
  clear ho hb1
  go_wp2
  go_ret
  exact ⟨_, rfl, HO.out, HB.out⟩

/-- The table, read. -/
structure TbR (w : World) (gx : Nat) (pv v1 v2 : Value) (n m : Nat) (sm mo : Nat → Nat → Bool) (gs gm cs cm : Nat) (rs rm : Nat → Nat) : Prop where
  c1 : w.cell? ⟨gx, 1, none⟩ = some pv
  c2 : w.cell? ⟨gx, 2, none⟩ = some v1
  c3 : w.cell? ⟨gx, 3, none⟩ = some v2
  c4 : w.cell? ⟨gx, 4, none⟩ = some (.slice (some ⟨gs, 0, none⟩) n cs)
  c5 : w.cell? ⟨gx, 5, none⟩ = some (.slice (some ⟨gm, 0, none⟩) n cm)
  hs : ∀ i, i < n → w.cell? ⟨gs, i, none⟩ = some (.slice (some ⟨rs i, 0, none⟩) m m)
  hm : ∀ i, i < n → w.cell? ⟨gm, i, none⟩ = some (.slice (some ⟨rm i, 0, none⟩) m m)
  bs : ∀ i j, i < n → j < m → w.cell? ⟨rs i, j, none⟩ = some (.bool (sm i j))
  bm : ∀ i j, i < n → j < m → w.cell? ⟨rm i, j, none⟩ = some (.bool (mo i j))

theorem TbR.kp {w w' : World} {gx : Nat} {pv v1 v2 : Value} {n m : Nat} {sm mo : Nat → Nat → Bool} {gs gm cs cm : Nat} {rs rm : Nat → Nat} (h : TbR w gx pv v1 v2 n m sm mo gs gm cs cm rs rm) (k : Kp w w') : TbR w' gx pv v1 v2 n m sm mo gs gm cs cm rs rm :=
  ⟨k.cell _ _ h.c1, k.cell _ _ h.c2, k.cell _ _ h.c3, k.cell _ _ h.c4, k.cell _ _ h.c5, fun i hi => k.cell _ _ (h.hs i hi), fun i hi => k.cell _ _ (h.hm i hi), fun i j hi hj => k.cell _ _ (h.bs i j hi hj), fun i j hi hj => k.cell _ _ (h.bm i j hi hj)⟩

/-- What is told of a row of places. -/
def allP11 (mo : Nat → Nat → Bool) (i : Nat) (l : List Int) : Bool := l.all fun p => mo i p.toNat

theorem allP11_iff {mo : Nat → Nat → Bool} {i m : Nat} {l : List Int} (hin : ∀ (k : Nat) (p : Int), l[k]? = some p → ∃ P : Nat, p = P ∧ P < m) : allP11 mo i l = true ↔ ∀ (k q : Nat), l[k]? = some (q : Int) → mo i q = true := by
  unfold allP11
  rw [List.all_eq_true]
  constructor
  · intro h k q hk
    exact h _ (List.mem_of_getElem? hk)
  · intro h p hp
    obtain ⟨k, hk⟩ := List.getElem?_of_mem hp
    obtain ⟨P, rfl, _⟩ := hin k p hk
    exact h k P hk

set_option maxRecDepth 100000 in
set_option maxHeartbeats 1600000 in
theorem all11_any (gx : Nat) (pv v1 v2 : Value) (n m : Nat) (sm mo : Nat → Nat → Bool) (gs gm cs cm : Nat) (rs rm : Nat → Nat) (i : Nat) (lv : Value) (l : List Int) (w : World) (hx : TbR w gx pv v1 v2 n m sm mo gs gm cs cm rs rm) (hi : i < n) (hl : Is w lv l) (hin : ∀ (k : Nat) (p : Int), l[k]? = some p → ∃ P : Nat, p = P ∧ P < m) :
    Calls Tryd.prog 38 #[.pointer (some ⟨gx, 0, none⟩), .int .i64 i, lv] w fun e w' => e = .returned (.bool (allP11 mo i l)) ∧ ∃ n, w' = w.drewN n := by
  obtain ⟨ao, cap, rfl, hao, hca, hcl⟩ := hl.flatI
  have HX := hid hx
  have HN := hid hin
  have HC := hid hcl
  have c5 := hx.c5
  have r5 := hx.hm i hi
  clear hx hl hin hcl
  go_enter Tryd.func38, Tryd.ntmps38
  go_wp2
  go_loopw [7] (fun x wr => ∃ k : Nat, k ≤ l.length ∧ x = .int .i64 k ∧ allP11 mo i (l.take k) = true ∧ ∃ n, wr = w.drewN n) (fun x _ => l.length - (intOf x).toNat)
  case atStart => exact ⟨0, Nat.zero_le _, rfl, rfl, 0, rfl⟩
  case round =>
    obtain ⟨k, hk, rfl, ht, q, rfl⟩ := hrel
    have HT := hid ht
    clear ht
    by_cases hlt : k < l.length
    · obtain ⟨g, off, x, rfl, hx1, hx3⟩ := HC.out k hlt
      obtain ⟨P, rfl, hP⟩ := HN.out k x hx1
      have HX1 := hid hx1
      have b5 := HX.out.bm i P hi hP
      clear hx1
      cases hb : mo i P with
      | true =>
        rw [hb] at b5
        have HB := hid hb
        clear hb
        go_wp2
        go_quiet (fail)
        go_wp2
        go_roundw
        case rel => exact ⟨k + 1, by omega, by go_num, by rw [take_get HX1.out]; unfold allP11; rw [List.all_append]; simp only [List.all_cons, List.all_nil, Bool.and_true, Int.toNat_natCast, HB.out]; exact HT.out, _, rfl⟩
        case measure => simp [intOf]; omega
      | false =>
        rw [hb] at b5
        have HB := hid hb
        clear hb
        go_wp2
        go_quiet (fail)
        go_wp2
        go_ret
        refine ⟨ret1b ?_, _, World.drewN_drewN _ _ _⟩
        unfold allP11
        rw [eq_comm, List.all_eq_false]
        exact ⟨_, List.mem_of_getElem? HX1.out, by rw [Int.toNat_natCast, HB.out]; decide⟩
    · have hk' : k = l.length := by omega
      go_wp2
      go_ret
      refine ⟨ret1b ?_, q, rfl⟩
      have := HT.out
      rw [List.take_of_length_le (by omega)] at this
      exact this.symm

end Go.Proofs.YtcoaabgaolblfaaDoor
