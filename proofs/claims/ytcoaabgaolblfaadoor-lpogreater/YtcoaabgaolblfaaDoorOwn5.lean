/- Texts of the proof, one behind the other. -/
import Derived.Test.YtcoaabgaolblfaaDoorOwn4
import Derived.Sort.QuietTacIn
import Derived.Sort.CutIn
/- grow walked. -/
namespace Go.Proofs.YtcoaabgaolblfaaDoor
open Go.RowKit Go.Maps Go.Shelf

attribute [local go_sem] Oper.semAt_some

section
variable {F : Fence} {n : Nat} {P : Program} {w w' : World} {ops : Array Oper} {rest : List Oper} {o : Oper} {a : Act} {Q : Exit → Act → World → Prop}

theorem wpListIn_append_run (hg : o.guard = none) (s x : Operand) (t : TypeId) (hop : o.op = .call { callee := .builtin .append, args := #[s, x], argTypes := #[t, t] }) (v u : Value) {v' : Value} (hs : a.eval s = v) (hx : a.eval x = u)
    (hr : (Builtin.append_ #[t, t] o.type #[v, u]).run P w = .ok v' w') (h : wpListIn F n P ops Q rest (a.put o.dst v') w') : wpListIn F n P ops Q (o :: rest) a w := by
  refine wpListIn_plain hg fun K hK => ?_
  unfold Oper.wpIn
  refine ⟨?_, ?_⟩
  · simp [Oper.about, hop, resolve, Target.leads, Sem.run_pure]
  · rw [Oper.semAt_plain F _ _ (by rw [hop]; intro c hc; cases hc)]
    simp [execOp, hop, resolve, invoke, builtin, hs, hx, hr, Result.andThen]
    exact hK _ _ h

theorem operIn_append_run {K : Act → World → Prop} (s x : Operand) (t : TypeId) (hop : o.op = .call { callee := .builtin .append, args := #[s, x], argTypes := #[t, t] }) (v u : Value) {v' : Value} (hs : a.eval s = v) (hx : a.eval x = u)
    (hr : (Builtin.append_ #[t, t] o.type #[v, u]).run P w = .ok v' w') (h : K (a.put o.dst v') w') : o.wpIn F n P a w K Q := by
  unfold Oper.wpIn
  refine ⟨?_, ?_⟩
  · simp [Oper.about, hop, resolve, Target.leads, Sem.run_pure]
  · rw [Oper.semAt_plain F _ _ (by rw [hop]; intro c hc; cases hc)]
    simp [execOp, hop, resolve, invoke, builtin, hs, hx, hr, Result.andThen]
    exact h

theorem wpAnyIn_round {md : Region.Mode} (l : Nat) (hnd : (ops.all fun o => match o.op with | .defer _ => false | _ => true) = true) :
    ∀ (fuel : Nat) (listed : Array Bool) (a : Act) (w : World), wpAnyIn F n P md ops Q fuel listed a w → wpAnyIn (F.inRound l) n P md ops Q fuel listed a w := by
  intro fuel
  induction fuel with
  | zero => intro listed a w h; exact h
  | succ fuel ih =>
    intro listed a w h
    refine ⟨h.1, fun i hi => ?_⟩
    have h1 := wpOpIn_mono (fun a w h => ih (listed.setIfInBounds i true) a w h) (h.2 i hi)
    unfold wpOpIn at h1 ⊢
    cases ho : ops[i]? with
    | none => simp only [ho] at h1; exact h1
    | some o =>
      simp only [ho] at h1 ⊢
      have hno : ∀ c, o.op ≠ .defer c := fun c hc => by
        obtain ⟨hl, he⟩ := Array.getElem?_eq_some_iff.1 ho
        have h2 := Array.all_eq_true.1 hnd i hl
        rw [he, hc] at h2
        cases h2
      split
      · rename_i hw
        rw [if_pos hw] at h1
        unfold Oper.wpIn at h1 ⊢
        rw [Oper.semAt_plain _ _ _ hno] at h1 ⊢
        refine ⟨h1.1, ?_⟩
        have h3 := h1.2
        generalize (execOp a.eval o).run P w = r at h3 ⊢
        cases r with
        | ok x w' => cases x <;> exact h3
        | halt x w' => cases x <;> exact h3
      · rename_i hw
        rw [if_neg hw] at h1
        exact h1

end

theorem cell_newg' {w : World} {t : TypeId} {x : Value} {g : Nat} (hg : g = w.heap.size) (_h : x = x) : (w.alloc (.cells #[x] t)).cell? ⟨g, 0, none⟩ = some x := by
  subst hg
  rw [cell_of_row _ _ _ _ _ _ (heap_alloc_new _ _)]
  rfl

theorem frozen_newg {w : World} {t : TypeId} {x : Value} {g : Nat} (hg : g = w.heap.size) : (w.alloc (.cells #[x] t)).frozen? ⟨g, 0, none⟩ = false := by
  subst hg
  simp

theorem drop_rev {t : List Int} {k : Nat} (hk : k < t.length) : ∃ c, t.reverse[k]? = some c ∧ t.drop (t.length - (k + 1)) = c :: t.drop (t.length - k) ∧ t = t.take (t.length - (k + 1)) ++ c :: t.drop (t.length - k) := by
  have hj : t.length - (k + 1) < t.length := by omega
  refine ⟨t[t.length - (k + 1)], ?_, ?_, ?_⟩
  · rw [List.getElem?_reverse hk, show t.length - 1 - k = t.length - (k + 1) by omega]
    exact List.getElem?_eq_getElem hj
  · rw [List.drop_eq_getElem_cons hj, show t.length - (k + 1) + 1 = t.length - k by omega]
  · have h1 := List.take_append_drop (t.length - (k + 1)) t
    rw [List.drop_eq_getElem_cons hj, show t.length - (k + 1) + 1 = t.length - k by omega] at h1
    exact h1.symm

/-- The frame of a round. -/
def growA (sv v : Value) (B : Nat) (t : List Int) (k : Nat) : Act :=
  { tmps := #[sv, v, .pointer (some ⟨B, 0, none⟩), undef, .nilIface, .pointer (some ⟨B + 1, 0, none⟩), undef, .int .i64 (t.reverse[k]?.getD 0), undef, undef, v, .func (.func 46) #[] #[.pointer (some ⟨B + 1 + 1, 0, none⟩)], .int .i64 ((t.length - 1 - k : Nat) : Int), .int .i64 (t.reverse[k]?.getD 0), undef, undef, undef, undef, undef, undef, undef, undef, undef, undef, undef, undef, undef, undef, undef, undef, undef, undef, undef, undef, undef, undef, undef, undef, undef, undef, undef, undef, undef, undef, undef], defers := [] }

end Go.Proofs.YtcoaabgaolblfaaDoor

/- The tree of a right term, of package lpo: where grow stands. -/
namespace Go.Proofs.YtcoaabgaolblfaaDoor
open Go.RowKit Go.Maps Go.Shelf

attribute [local go_sem] Oper.semAt_some

theorem growE_sizes (sig : List Sy) (u : List Int) : sizeL (growE sig u) = u.length := by
  rw [← sizeL_rev, ← size_rowL, growE_row]

theorem growE_code {sig : List Sy} (ha : ArOk sig) (p : List Int) (c : Int) (u : List Int) (m : Int) (i : Nat) (hm : 1 ≤ m) (h : firstT sig m i (p ++ c :: u) = ((i : Int) + (p ++ c :: u).length, 0)) (hv : ¬ c < 0) : c.toNat < sig.length ∧ arN sig c ≤ (growE sig u).length := by
  have := grow_code ha p c u m i hm h hv
  rw [← growE_shape, List.length_map] at this
  exact this

/-- Where grow stands: what begins first in the row is the last one; it begins at p. -/
structure GLp (w W : World) (S : Nat → Nat → Value) (sv v gv : Value) (vals : List Value) (st : List Te) (p : Nat) : Prop where
  box : W.cell? ⟨w.heap.size + 2, 0, none⟩ = some gv
  frz : W.frozen? ⟨w.heap.size + 2, 0, none⟩ = false
  sigb : W.cell? ⟨w.heap.size, 0, none⟩ = some sv
  rowb : W.cell? ⟨w.heap.size + 1, 0, none⟩ = some v
  bck : W.cell? ⟨w.heap.size + 3, 0, none⟩ = some v
  own : W.ownsRow (w.heap.size + 4) 53 1 gv vals.length vals
  tv : TLl W (fun b => w.heap.size + 4 ≤ b ∧ b < W.heap.size ∧ gv.ownBlock ≠ some b) S vals.reverse st.reverse p
  bel : Below w.heap.size w W
  sz : w.heap.size + 4 ≤ W.heap.size

theorem GLp.put {w W : World} {S : Nat → Nat → Value} {sv v gv : Value} {vals : List Value} {st : List Te} {p : Nat} (h : GLp w W S sv v gv vals st p) {l : Nat} {o o' : Obj} (hl : w.heap.size + 4 ≤ l) (ho : W.heap[l]? = some o) (hc : o.isCells = false) : GLp w (W.putObj l o') S sv v gv vals st p := by
  have hsz : (W.putObj l o').heap.size = W.heap.size := by simp [World.putObj]
  refine ⟨cell_putObj ho hc h.box, ?_, cell_putObj ho hc h.sigb, cell_putObj ho hc h.rowb, cell_putObj ho hc h.bck, ownsRow_putObj h.own _ ho hc, h.tv.keep (fun b o x _ hx => cell_putObj ho hc hx) (fun b hb => ⟨hb.1, by rw [hsz]; exact hb.2.1, hb.2.2⟩), ?_, by rw [hsz]; exact h.sz⟩
  · rw [frozen_same (World.putObj_heap_other (by simp only; omega))]
    exact h.frz
  · exact ⟨h.bel.os, h.bel.tape, h.bel.output, by rw [hsz]; exact h.bel.size, fun k hk => (World.putObj_heap_other (by omega)).trans (h.bel.block k hk)⟩

/-- What changed nothing that lay changes nothing here. -/
theorem GLp.later {w W W' : World} {S : Nat → Nat → Value} {sv v gv : Value} {vals : List Value} {st : List Te} {p : Nat} (h : GLp w W S sv v gv vals st p) (hb : Below W.heap.size W W') : GLp w W' S sv v gv vals st p := by
  have hk := Kp.of_below hb
  exact ⟨hk.cell _ _ h.box, by rw [frozen_same (hb.block _ (by have := h.sz; simp only; omega))]; exact h.frz, hk.cell _ _ h.sigb, hk.cell _ _ h.rowb, hk.cell _ _ h.bck, ownsRow_later h.own hb,
    h.tv.keep (fun b o x _ hx => hk.cell _ _ hx) (fun b hb2 => ⟨hb2.1, Nat.lt_of_lt_of_le hb2.2.1 hb.size, hb2.2.2⟩), below_step h.bel hb, Nat.le_trans h.sz hb.size⟩

/-- A tree joined, and the box set. -/
theorem GLp.push (ty : TypeId) {w W W1 : World} {S : Nat → Nat → Value} {sv v gv u : Value} {vals : List Value} {st : List Te} {k p p' : Nat} {T : Te} {ao : Option Addr} {cap : Nat} (h : GLp w W S sv v gv vals st p) (hgv : gv = .slice ao vals.length cap) (hk : k ≤ vals.length) (hb : Below W.heap.size W W1)
    (hT : TL W1 (fun b => w.heap.size + 4 ≤ b ∧ b < W1.heap.size ∧ gv.ownBlock ≠ some b) S u T p') (hp : p' + T.size = p + sizeL (st.drop k)) (hl : (k + 1) * 16 ≤ 140737488355328) :
    ∃ g cp W2, (Builtin.append_ #[89, 89] ty #[.slice ao k cap, .slice (some ⟨W1.heap.size, 0, none⟩) 1 1]).run Tryd.prog (W1.alloc (.cells #[u] 53)) = .ok (.slice (some ⟨g, 0, none⟩) (k + 1) cp) W2 ∧
      W2.cell? ⟨w.heap.size + 2, 0, none⟩ = some gv ∧ W2.frozen? ⟨w.heap.size + 2, 0, none⟩ = false ∧
      GLp w (W2.setCell ⟨w.heap.size + 2, 0, none⟩ (.slice (some ⟨g, 0, none⟩) (k + 1) cp)) S sv v (.slice (some ⟨g, 0, none⟩) (k + 1) cp) (vals.take k ++ [u]) (st.take k ++ [T]) p' ∧ KeepsFrom (w.heap.size + 4) W (W2.setCell ⟨w.heap.size + 2, 0, none⟩ (.slice (some ⟨g, 0, none⟩) (k + 1) cp)) := by
  obtain ⟨i0, hi, hz0, hz1, hz2⟩ := info_parts info_treeL
  have ha := below_alloc (w := W1) (.cells #[u] 53)
  have hba := below_step hb ha
  have hown := h.own
  rw [hgv] at hown
  have hcut := own_cut (ownsRow_later hown hba) hk
  have hsz := h.sz
  obtain ⟨v', W2, hr, h2, h3, _, h5⟩ := run_append_own_at (P := Tryd.prog) (W1.alloc (.cells #[u] 53)) (w.heap.size + 4) 89 ty 53 i0 _ 1 16 under_treesL hi hz0 hz1 hz2 rfl (by decide) (.slice ao k cap) k (vals.take k) hcut ⟨W1.heap.size, 0, none⟩ 1 1 [u] rfl
    (fun j y hj => by
      rw [Addr.add_lit, Nat.zero_add]
      cases j with
      | zero =>
        simp at hj
        subst hj
        rw [cell_of_row _ _ _ _ _ _ (heap_alloc_new _ _)]
        rfl
      | succ j => simp at hj) (fun y hy => by simp at hy; subst hy; exact hT.ifv.one) (by unfold maxLen; omega) (by omega) (Nat.le_trans hsz hba.size)
  obtain ⟨g, cp, rfl⟩ := own_form h2 (by omega)
  have hge := own_ge h2
  -- the block of the slice, before
  have hob : (Value.slice ao k cap).ownBlock = gv.ownBlock := by rw [hgv]; cases ao <;> rfl
  rw [hob] at h3 h5
  have hgb : ∀ j, gv.ownBlock = some j → w.heap.size + 4 ≤ j := fun j hj => own_blk h.own hj
  have hold : ∀ b, b < w.heap.size + 4 → W2.heap[b]? = W.heap[b]? := fun b hb2 => by
    rw [h3.block b (Nat.lt_of_lt_of_le (Nat.lt_of_lt_of_le hb2 hsz) hba.size) (fun e => by have := hgb b e.symm; omega)]
    exact hba.block b (Nat.lt_of_lt_of_le hb2 hsz)
  have hbox : W2.cell? ⟨w.heap.size + 2, 0, none⟩ = some gv := by
    rw [World.cell?_of_block (hold _ (by simp only; omega))]
    exact h.box
  have hfrz : W2.frozen? ⟨w.heap.size + 2, 0, none⟩ = false := by
    rw [frozen_same (hold _ (by simp only; omega))]
    exact h.frz
  -- cells away from the slice's block stay
  have hfar : ∀ (b o : Nat) (x : Value), w.heap.size + 4 ≤ b → b < (W1.alloc (.cells #[u] 53)).heap.size → gv.ownBlock ≠ some b → (W1.alloc (.cells #[u] 53)).cell? ⟨b, o, none⟩ = some x → (W2.setCell ⟨w.heap.size + 2, 0, none⟩ (.slice (some ⟨g, 0, none⟩) (k + 1) cp)).cell? ⟨b, o, none⟩ = some x := fun b o x hb1 hb2 hb3 hx => by
    rw [World.cell?_setCell_far _ _ _ _ (by simp only; omega), World.cell?_of_block (h3.block b hb2 (fun e => hb3 e.symm))]
    exact hx
  have hne : ∀ b, b < (W1.alloc (.cells #[u] 53)).heap.size → gv.ownBlock ≠ some b → g ≠ b := fun b hb1 hb2 e => by
    subst e
    rcases h5 with h5 | h5
    · exact hb2 (by rw [← h5]; rfl)
    · simp only [Value.ownBlock, Option.some.injEq] at h5
      omega
  have hs2 : (W2.setCell ⟨w.heap.size + 2, 0, none⟩ (.slice (some ⟨g, 0, none⟩) (k + 1) cp)).heap.size = W2.heap.size := by simp [World.setCell]
  have hsw : W.heap.size ≤ (W1.alloc (.cells #[u] 53)).heap.size := hba.size
  have hvl : (vals.take k ++ [u]).length = k + 1 := by rw [List.length_append, List.length_take, Nat.min_eq_left hk]; rfl
  refine ⟨g, cp, W2, hr, hbox, hfrz, ⟨World.cell?_setCell_same' _ _ _ (by rw [hbox]; rfl), by rw [World.frozen?_setCell]; exact hfrz, ?_, ?_, ?_, ?_, ?_, ?_, ?_⟩, ?_⟩
  · rw [World.cell?_setCell_far _ _ _ _ (by simp only; omega), World.cell?_of_block (hold _ (by simp only; omega))]
    exact h.sigb
  · rw [World.cell?_setCell_far _ _ _ _ (by simp only; omega), World.cell?_of_block (hold _ (by simp only; omega))]
    exact h.rowb
  · rw [World.cell?_setCell_far _ _ _ _ (by simp only; omega), World.cell?_of_block (hold _ (by simp only; omega))]
    exact h.bck
  · rw [hvl]
    exact h2.kept (set_grownT W2 (w.heap.size + 2) 0 _) (.inr (by simp only [Value.ownBlock, ne_eq, Option.some.injEq]; omega))
  · rw [List.reverse_append, List.reverse_append, List.reverse_singleton, List.reverse_singleton]
    have hlk : vals.length = st.length := by have := h.tv.len; rw [List.length_reverse, List.length_reverse] at this; exact this
    have hd1 : (vals.take k).reverse = vals.reverse.drop (vals.length - k) := by
      have e1 : vals.reverse = (vals.drop k).reverse ++ (vals.take k).reverse := by rw [← List.reverse_append, List.take_append_drop]
      rw [e1, show vals.length - k = (vals.drop k).reverse.length by rw [List.length_reverse, List.length_drop], List.drop_left]
    have hd2 : (st.take k).reverse = st.reverse.drop (vals.length - k) := by
      have e1 : st.reverse = (st.drop k).reverse ++ (st.take k).reverse := by rw [← List.reverse_append, List.take_append_drop]
      rw [e1, hlk, show st.length - k = (st.drop k).reverse.length by rw [List.length_reverse, List.length_drop], List.drop_left]
    have hd3 : sizeL (st.reverse.take (vals.length - k)) = sizeL (st.drop k) := by
      have e1 : st.reverse = (st.drop k).reverse ++ (st.take k).reverse := by rw [← List.reverse_append, List.take_append_drop]
      rw [e1, hlk, show st.length - k = (st.drop k).reverse.length by rw [List.length_reverse, List.length_drop], List.take_left, sizeL_rev]
    have htk := (h.tv.take (vals.length - k)).2
    rw [hd3, ← hp] at htk
    rw [← hd1, ← hd2] at htk
    refine ⟨?_, ?_⟩
    rotate_left
    · refine htk.keep (fun b o x hA hx => hfar b o x hA.1 (Nat.lt_of_lt_of_le hA.2.1 hsw) hA.2.2 ((Kp.of_below hba).cell _ _ hx)) (fun b hA => ⟨hA.1, ?_, ?_⟩)
      · rw [hs2]; exact Nat.lt_of_lt_of_le (Nat.lt_of_lt_of_le hA.2.1 hsw) h3.size
      · simp only [Value.ownBlock, ne_eq, Option.some.injEq]; exact hne b (Nat.lt_of_lt_of_le hA.2.1 hsw) hA.2.2
    · refine hT.keep (fun b o x hA hx => hfar b o x hA.1 (Nat.lt_of_lt_of_le hA.2.1 ha.size) hA.2.2 ((Kp.of_below ha).cell _ _ hx)) (fun b hA => ⟨hA.1, ?_, ?_⟩)
      · rw [hs2]; exact Nat.lt_of_lt_of_le (Nat.lt_of_lt_of_le hA.2.1 ha.size) h3.size
      · simp only [Value.ownBlock, ne_eq, Option.some.injEq]; exact hne b (Nat.lt_of_lt_of_le hA.2.1 ha.size) hA.2.2
  · exact ((below_step h.bel hba).grown h3 (below_step h.bel hba).size (fun j hj => by have := hgb j hj; omega)).setCell (p := ⟨w.heap.size + 2, 0, none⟩) (by simp only; omega) _
  · rw [hs2]
    exact Nat.le_trans hsz (Nat.le_trans hsw h3.size)
  · refine ⟨by rw [hs2]; exact Nat.le_trans hsw h3.size, fun j o hj ho hoc => ?_⟩
    have hjl := (Array.getElem?_eq_some_iff.1 ho).1
    rw [heap_setCell_other _ _ _ _ (show j ≠ w.heap.size + 2 by omega), h3.block j (Nat.lt_of_lt_of_le hjl hsw) (fun e => ?_), hba.block j hjl]
    · exact ho
    · rcases h.own.2 with ⟨h8, _⟩ | ⟨g8, c8, cur8, h8, _, hg8, _⟩
      · rw [h8] at e; cases e
      · rw [h8] at e
        simp only [Value.ownBlock, Option.some.injEq] at e
        subst e
        rw [hg8] at ho
        cases ho
        simp [Obj.isCells] at hoc

end Go.Proofs.YtcoaabgaolblfaaDoor
