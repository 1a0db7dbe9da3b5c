/- Texts of the proof, one behind the other. -/
import Derived.Test.YtelacmijkbgliaaDoorOwn7
import Derived.Test.YtelacmijkbgliaaDoorOwn3
/- Rows that are made, in a block older than what they hold (for seats without package pairs). -/
namespace Go.Proofs.YtelacmijkbgliaaDoor
open Go.RowKit Go.Maps Go.BigFrame

theorem cell_block {w w' : World} {g : Nat} (h : w'.heap[g]? = w.heap[g]?) (k : Nat) : w'.cell? ⟨g, k, none⟩ = w.cell? ⟨g, k, none⟩ := by
  simp only [World.cell?, h]

theorem is_one {w : World} {v : Value} {xs : List Int} (h : Is w v xs) : v.oneCell' = true := by
  obtain ⟨_, _, rfl, _⟩ := h
  rfl

theorem nil_own13 (w : World) (base : Nat) : OwI w base (.slice none 0 0) [] := ⟨fun k x hk => (by simp at hk), World.ownsRow_nil _ _ _ _⟩

theorem step_append13 {P : Program} {ops : Array Oper} {o : Oper} {a : Act} {w w' : World} {v' : Value} {K : Act → World → Prop} {E : Prop} {Q : Exit → Act → World → Prop} (hgd : Region.wanted o (yielded ops a.tmps) = true) (s x : Operand) (t : TypeId)
    (ho : o.op = .call { callee := .builtin .append, args := #[s, x], argTypes := #[t, t] }) (v u : Value) (hs : a.eval s = v) (hx : a.eval x = u)
    (hr : (Builtin.append_ #[t, t] o.type #[v, u]).run P w = .ok v' w') (hK : K (a.put o.dst v') w') :
    if Region.wanted o (yielded ops a.tmps) = true then Oper.wp P o a w K Q else E := by
  rw [if_pos hgd]
  unfold Oper.wp execOp
  simp only [ho, resolve, invoke, builtin, Sem.run_bind, Sem.run_pure, Result.andThen_ok, List.map_toArray, List.map_cons, List.map_nil, hs, hx, hr]
  exact hK

/-- All blocks but X are as they were. -/
structure Exg (W W' : World) (X : Nat) : Prop where
  bel : Below X W W'
  same : ∀ g, g ≠ X → g < W.heap.size → W'.heap[g]? = W.heap[g]?

theorem Exg.cell {W W' : World} {X g o : Nat} {v : Value} (h : Exg W W' X) (hne : g ≠ X) (hc : W.cell? ⟨g, o, none⟩ = some v) : W'.cell? ⟨g, o, none⟩ = some v :=
  (cell_block (h.same g hne (World.block_lt_of_cell? _ _ hc)) o).trans hc

theorem zip_set13 {α β : Type} (xs : List α) (ys : List β) (k : Nat) (x : α) (y : β) : (xs.zip ys).set k (x, y) = (xs.set k x).zip (ys.set k y) := by
  induction xs generalizing ys k with
  | nil => simp
  | cons a xs ih =>
    cases ys with
    | nil => cases k <;> simp
    | cons b ys =>
      cases k with
      | zero => rfl
      | succ k => simp [ih]

/-- The rows that are made: their headers in the block g, which is older than W; what they hold, and some rows beside, in blocks that are newer. -/
structure G13 (W w : World) (g n : Nat) (vals : List Value) (rws : List (List Int)) (ex : List (Value × List Int)) : Prop where
  exg : Exg W w g
  lt : g < W.heap.size
  blk : w.heap[g]? = some (.cells vals.toArray 23 (0, 0))
  len : vals.length = n
  rlen : rws.length = n
  own : Owns w W.heap.size (vals.zip rws ++ ex)

theorem Exg.step {W w w' : World} {g : Nat} (h : Exg W w g) (hlt : g < W.heap.size) (hb : Below w.heap.size w w') : Exg W w' g :=
  ⟨h.bel.trans (hb.mono (by have := h.bel.size; omega)), fun k hne hk => (hb.block k (Nat.lt_of_lt_of_le hk h.bel.size)).trans (h.same k hne hk)⟩

theorem G13.later {W w w' : World} {g n : Nat} {vals : List Value} {rws : List (List Int)} {ex : List (Value × List Int)} (h : G13 W w g n vals rws ex) (hb : Below w.heap.size w w') : G13 W w' g n vals rws ex :=
  ⟨h.exg.step h.lt hb, h.lt, (hb.block g (Array.getElem?_eq_some_iff.1 h.blk).1).trans h.blk, h.len, h.rlen, h.own.later hb⟩

theorem G13.add {W w w1 : World} {g n : Nat} {vals : List Value} {rws : List (List Int)} {ex : List (Value × List Int)} {u : Value} {t : List Int} (h : G13 W w g n vals rws ex) (hb : Below w.heap.size w w1) (hu : OwI w1 w.heap.size u t) : G13 W w1 g n vals rws (ex ++ [(u, t)]) :=
  ⟨h.exg.step h.lt hb, h.lt, (hb.block g (Array.getElem?_eq_some_iff.1 h.blk).1).trans h.blk, h.len, h.rlen, by rw [← List.append_assoc]; exact h.own.snoc hb hu h.exg.bel.size⟩

theorem G13.drop {W w : World} {g n : Nat} {vals : List Value} {rws : List (List Int)} {ex : List (Value × List Int)} (h : G13 W w g n vals rws ex) : G13 W w g n vals rws [] := by
  have hz : ∀ {i : Nat} {v : Value} {xs : List Int}, (vals.zip rws ++ [])[i]? = some (v, xs) → (vals.zip rws ++ ex)[i]? = some (v, xs) := fun {i v xs} hi => by
    rw [List.append_nil] at hi
    rw [List.getElem?_append_left (List.getElem?_eq_some_iff.1 hi).1]
    exact hi
  exact ⟨h.exg, h.lt, h.blk, h.len, h.rlen, ⟨fun i v xs hi => h.own.own i v xs (hz hi), fun i j v u xs ys hne hi hj => h.own.dis i j v u xs ys hne (hz hi) (hz hj)⟩⟩

theorem G13.beside {W w : World} {g n : Nat} {vals : List Value} {rws : List (List Int)} {u : Value} {t : List Int} (h : G13 W w g n vals rws [(u, t)]) : OwI w W.heap.size u t :=
  h.own.own (vals.zip rws).length u t (by simp)

theorem G13.one {W w : World} {g n x : Nat} {vals : List Value} {rws : List (List Int)} {ex : List (Value × List Int)} (h : G13 W w g n vals rws ex) (hx : x < n) : ∃ v r, vals[x]? = some v ∧ rws[x]? = some r ∧ OwI w W.heap.size v r ∧ w.cell? ⟨g, x, none⟩ = some v ∧ w.frozen? ⟨g, x, none⟩ = false := by
  have h1 : x < vals.length := by rw [h.len]; exact hx
  have h2 : x < rws.length := by rw [h.rlen]; exact hx
  have hz : (vals.zip rws ++ ex)[x]? = some (vals[x], rws[x]) := by
    rw [List.getElem?_append_left (by rw [List.length_zip]; omega)]
    exact List.getElem?_zip_eq_some.2 ⟨List.getElem?_eq_getElem h1, List.getElem?_eq_getElem h2⟩
  refine ⟨vals[x], rws[x], List.getElem?_eq_getElem h1, List.getElem?_eq_getElem h2, h.own.own x _ _ hz, ?_, frozen_of_row w g x _ _ h.blk⟩
  rw [cell_of_row w g x _ _ _ h.blk]
  simp [h1]

/-- A number more behind one of the rows. -/
theorem G13.push (ty : TypeId) {W w : World} {g n x : Nat} {vals : List Value} {rws : List (List Int)} {ex : List (Value × List Int)} {v : Value} {r : List Int} {c : Int} (h : G13 W w g n vals rws ex) (hx : x < n) (hv : vals[x]? = some v) (hr : rws[x]? = some r) (h1 : -9223372036854775808 ≤ c) (h2 : c ≤ 9223372036854775807) (hl : (r.length + 1) * 8 ≤ 140737488355328) :
    ∃ v' w', (Builtin.append_ #[23, 23] ty #[v, .slice (some ⟨w.heap.size, 0, none⟩) 1 1]).run Tryd.prog (w.alloc (.cells #[.int .i64 c] 3)) = .ok v' w' ∧ (∃ a m d, v' = .slice a m d) ∧ w'.cell? ⟨g, x, none⟩ = some v ∧ w'.frozen? ⟨g, x, none⟩ = false ∧ G13 W (w'.setCell ⟨g, x, none⟩ v') g n (vals.set x v') (rws.set x (r ++ [c])) ex := by
  have hlz : x < (vals.zip rws).length := by rw [List.length_zip, h.len, h.rlen]; omega
  have hz : (vals.zip rws ++ ex)[x]? = some (v, r) := by
    rw [List.getElem?_append_left hlz]
    exact List.getElem?_zip_eq_some.2 ⟨hv, hr⟩
  have ho := h.own.own x v r hz
  have h' := h.later (below_alloc (.cells #[.int .i64 c] 3))
  obtain ⟨v', w', hrun, g1, g2, g3⟩ := join_one ty ho h1 h2 h.exg.bel.size hl
  have hs := h'.own.step (i := x) hz g2 g1 (by
    rcases g3 with g3 | g3
    · exact .inl g3
    · exact .inr ⟨_, g3, Nat.le_refl _⟩)
  rw [List.set_append_left _ _ hlz, zip_set13] at hs
  have ho' := h'.own.own x v r hz
  have hblk : w'.heap[g]? = some (.cells vals.toArray 23 (0, 0)) := (g2.block g (Array.getElem?_eq_some_iff.1 h'.blk).1 (fun e => own_ne ho'.2 h'.blk (by decide) e.symm)).trans h'.blk
  have hlt := h.lt
  have hbel : Below g W w' := h'.exg.bel.grown g2 (by have := h'.exg.bel.size; omega) (fun k hk => by have := own_blk ho'.2 hk; omega)
  obtain ⟨ao, cap, hv', _⟩ := g1.shape
  refine ⟨v', w', hrun, ⟨_, _, _, hv'⟩, ?_, frozen_of_row w' g x _ _ hblk, ⟨hbel.setCell (p := ⟨g, x, none⟩) (Nat.le_refl _) v', fun k hne hk => ?_⟩, hlt, ?_, by rw [List.length_set, h.len], by rw [List.length_set, h.rlen], hs.kept (set_grown w' g x v') hblk (by decide)⟩
  · rw [cell_of_row w' g x _ _ _ hblk]
    simpa using hv
  · rw [heap_setCell_other _ _ _ _ hne]
    exact (g2.block k (Nat.lt_of_lt_of_le hk h'.exg.bel.size) (fun e => by have := own_blk ho'.2 e.symm; omega)).trans (h'.exg.same k hne hk)
  · rw [heap_setCell_same w' g x _ _ _ hblk]
    simp

/-- New rows, all empty. -/
theorem G13.start {W : World} {g n : Nat} (hlt : g < W.heap.size) (hb : W.heap[g]? = some (.cells (List.replicate n (Value.slice none 0 0)).toArray 23 (0, 0))) : G13 W W g n (List.replicate n (.slice none 0 0)) (List.replicate n []) [] := by
  refine ⟨⟨Below.refl _ _, fun _ _ _ => rfl⟩, hlt, hb, by simp, by simp, ⟨fun i v xs hi => ?_, fun i j v u xs ys _ hi _ => ?_⟩⟩
  · rw [List.append_nil] at hi
    have := List.getElem?_zip_eq_some.1 hi
    have e1 := (List.mem_replicate.1 (List.mem_of_getElem? this.1)).2
    have e2 := (List.mem_replicate.1 (List.mem_of_getElem? this.2)).2
    simp only at e1 e2
    subst e1 e2
    exact nil_own13 _ _
  · rw [List.append_nil] at hi
    have := List.getElem?_zip_eq_some.1 hi
    have e1 := (List.mem_replicate.1 (List.mem_of_getElem? this.1)).2
    simp only at e1
    subst e1
    exact fun g h => by simp [Value.ownBlock] at h

theorem run_make13 (w : World) (n : Nat) (hn : n * 24 ≤ 140737488355328) : (Instr.makeSlice 78 (.int .i64 (n : Int)) (.int .i64 (n : Int))).run Tryd.prog w = .ok (.slice (some ⟨w.heap.size, 0, none⟩) n n) (w.alloc (.cells (List.replicate n (Value.slice none 0 0)).toArray 23)) := by
  obtain ⟨i0, hi, hz0, hz1, hz2⟩ := info_parts info_ints
  have h := run_make (P := Tryd.prog) w 78 23 i0 (.slice none 0 0) under_rows hi hz0 .i64 .i64 (n : Int) (n : Int) (by omega) (Int.le_refl _) (by rw [hz2]; omega) (by omega)
  rw [hz1, Int.toNat_natCast] at h
  have e : madeCells (Value.slice none 0 0).cells (n * 1) = (List.replicate n (Value.slice none 0 0)).toArray := by
    apply Array.ext'
    rw [made_nilS]
  rw [e] at h
  exact h

end Go.Proofs.YtelacmijkbgliaaDoor

/- The document's board while it is laid: memory. -/
namespace Go.Proofs.YtelacmijkbgliaaDoor
open Go.RowKit Go.Maps Go.BigFrame

/-- A row joined to one's own, and where it then lies. -/
theorem join_intsB (ty : TypeId) {w : World} {base : Nat} {x u : Value} {xs es : List Int} (ho : OwI w base x xs) (hs : Is w u es) (hb : base ≤ w.heap.size) (hl : (xs.length + es.length) * 8 ≤ 140737488355328) :
    ∃ v' w', (Builtin.append_ #[23, 23] ty #[x, u]).run Tryd.prog w = .ok v' w' ∧ OwI w' base v' (xs ++ es) ∧ w.grownBy w' x.ownBlock ∧ (v'.ownBlock = x.ownBlock ∨ v'.ownBlock = some w.heap.size) := by
  obtain ⟨i0, hi, hz0, hz1, hz2⟩ := info_parts info_int
  have hZ : ZI es := fun k x hk => by
    obtain ⟨ao, cap, rfl, _, _, hx⟩ := Row.flat hs
    obtain ⟨_, _, y, _, hy, h1, h2, _⟩ := hx k (List.getElem?_eq_some_iff.1 hk).1
    rw [hk] at hy
    cases hy
    exact ⟨h1, h2⟩
  have hZ2 : ZI (xs ++ es) := fun k y hk => by
    by_cases hkl : k < xs.length
    · rw [List.getElem?_append_left hkl] at hk
      exact ho.1 k y hk
    · rw [List.getElem?_append_right (by omega)] at hk
      exact hZ _ y hk
  obtain ⟨ao, cap, rfl, hc, hm, hx⟩ := hs
  by_cases h0 : es.length = 0
  · obtain rfl : es = [] := List.eq_nil_of_length_eq_zero h0
    obtain ⟨bo, bc, rfl, hbc, _⟩ := ho.shape
    refine ⟨_, w, run_append_nothing w 23 23 ty 3 i0 under_ints hi _ xs.length bc hbc _ ?_, by rw [List.append_nil]; exact ho, World.grownBy.refl _ _, .inl rfl⟩
    cases ao with
    | none => exact Src.ofNil w under_ints _
    | some a => exact Src.ofSlice w under_ints a 0 _ [] (by simp) (fun j u hj => (by simp at hj)) (fun u hu => (by simp at hu))
  · obtain ⟨g', off, rfl, hg, hcell⟩ := hx (by omega)
    obtain ⟨v', w', hr, h2, h3, _, h5⟩ := run_append_own_at (P := Tryd.prog) w base 23 ty 3 i0 _ 1 8 under_ints hi hz0 hz1 hz2 rfl (by decide) _ xs.length (xs.map I64) ho.2 ⟨g', off, none⟩ es.length cap (es.map I64) (by simp) (fun j u hj => by
      rw [List.getElem?_map] at hj
      cases hk : es[j]? with
      | none => rw [hk] at hj; simp at hj
      | some x =>
        rw [hk] at hj
        simp at hj
        subst hj
        rw [Addr.add_lit]
        have := (hcell j x hk).2.2
        rw [Nat.mul_one] at this
        exact this) (fun u hu => by obtain ⟨x, _, rfl⟩ := List.mem_map.1 hu; rfl) (by unfold maxLen; omega) (by omega) hb
    refine ⟨v', w', hr, ⟨hZ2, ?_⟩, h3, h5⟩
    rw [List.length_append, List.map_append]
    exact h2

/-- A board that is being laid: its block is older than w2, all else is newer. -/
structure BdL (w2 w : World) (b : Nat) (cv kv lv : Value) (vs : List Value) (X : List Int) (K : List (List Nat)) (C : List Nat) : Prop where
  exg : Exg w2 w b
  lt : b < w2.heap.size
  blk : w.heap[b]? = some (.cells #[cv, kv, lv] 80 (0, 0))
  row : w.ownsRow w2.heap.size 23 1 kv K.length vs
  len : vs.length = K.length
  own : Owns w w2.heap.size ((cv, X) :: (lv, natL C) :: vs.zip (K.map natL))

theorem BdL.later {w2 w w' : World} {b : Nat} {cv kv lv : Value} {vs : List Value} {X : List Int} {K : List (List Nat)} {C : List Nat} (h : BdL w2 w b cv kv lv vs X K C) (hb : Below w.heap.size w w') : BdL w2 w' b cv kv lv vs X K C :=
  ⟨h.exg.step h.lt hb, h.lt, (hb.block b (Array.getElem?_eq_some_iff.1 h.blk).1).trans h.blk, ownsRow_later h.row hb, h.len, h.own.later hb⟩

theorem BdL.size {w2 w : World} {b : Nat} {cv kv lv : Value} {vs : List Value} {X : List Int} {K : List (List Nat)} {C : List Nat} (h : BdL w2 w b cv kv lv vs X K C) : w2.heap.size ≤ w.heap.size := h.exg.bel.size

theorem BdL.cells {w2 w : World} {b : Nat} {cv kv lv : Value} {vs : List Value} {X : List Int} {K : List (List Nat)} {C : List Nat} (h : BdL w2 w b cv kv lv vs X K C) : w.cell? ⟨b, 0, none⟩ = some cv ∧ w.cell? ⟨b, 1, none⟩ = some kv ∧ w.cell? ⟨b, 2, none⟩ = some lv := by
  refine ⟨?_, ?_, ?_⟩ <;> rw [cell_of_row _ _ _ _ _ _ h.blk] <;> rfl

theorem BdL.cod {w2 w : World} {b : Nat} {cv kv lv : Value} {vs : List Value} {X : List Int} {K : List (List Nat)} {C : List Nat} (h : BdL w2 w b cv kv lv vs X K C) : OwI w w2.heap.size cv X := h.own.own 0 _ _ rfl

theorem BdL.cls {w2 w : World} {b : Nat} {cv kv lv : Value} {vs : List Value} {X : List Int} {K : List (List Nat)} {C : List Nat} (h : BdL w2 w b cv kv lv vs X K C) : OwI w w2.heap.size lv (natL C) := h.own.own 1 _ _ rfl

theorem BdL.atX {w2 w : World} {b : Nat} {cv kv lv : Value} {vs : List Value} {X : List Int} {K : List (List Nat)} {C : List Nat} (h : BdL w2 w b cv kv lv vs X K C) {i : Nat} {x : Int} (hi : X[i]? = some x) : ∃ g cap, cv = .slice (some ⟨g, 0, none⟩) X.length cap ∧ w.cell? ⟨g, i, none⟩ = some (.int .i64 x) := by
  obtain ⟨g, cap, e, _, q, _⟩ := h.cod.code hi
  exact ⟨g, cap, e, q⟩

/-- A field of a board stored. -/
theorem set_board {w : World} {b : Nat} {cv kv lv : Value} {t : TypeId} (h : w.heap[b]? = some (.cells #[cv, kv, lv] t (0, 0))) (u : Value) :
    (w.setCell ⟨b, 0, none⟩ u).heap[b]? = some (.cells #[u, kv, lv] t (0, 0)) ∧ (w.setCell ⟨b, 1, none⟩ u).heap[b]? = some (.cells #[cv, u, lv] t (0, 0)) ∧ (w.setCell ⟨b, 2, none⟩ u).heap[b]? = some (.cells #[cv, kv, u] t (0, 0)) := by
  refine ⟨?_, ?_, ?_⟩ <;> rw [heap_setCell_same w b _ _ _ _ h] <;> rfl

theorem Exg.grown {W w w' : World} {X : Nat} {row : Option Nat} (h : Exg W w X) (hlt : X < W.heap.size) (hg : w.grownBy w' row) (hr : ∀ j, row = some j → W.heap.size ≤ j) : Exg W w' X :=
  ⟨h.bel.grown hg (by have := h.bel.size; omega) (fun k hk => by have := hr k hk; omega), fun k hne hk => (hg.block k (Nat.lt_of_lt_of_le hk h.bel.size) (fun e => by have := hr k e.symm; omega)).trans (h.same k hne hk)⟩

theorem Exg.set {W w : World} {X : Nat} (h : Exg W w X) (k : Nat) (u : Value) : Exg W (w.setCell ⟨X, k, none⟩ u) X :=
  ⟨h.bel.setCell (p := ⟨X, k, none⟩) (Nat.le_refl _) u, fun g hne hg => by rw [heap_setCell_other _ _ _ _ hne]; exact h.same g hne hg⟩

/-- Codes joined. -/
theorem BdL.codes (ty : TypeId) {w2 w : World} {b : Nat} {cv kv lv u : Value} {vs : List Value} {X t : List Int} {K : List (List Nat)} {C : List Nat} (h : BdL w2 w b cv kv lv vs X K C) (hu : Is w u t) (hl : (X.length + t.length) * 8 ≤ 140737488355328) :
    ∃ v' w', (Builtin.append_ #[23, 23] ty #[cv, u]).run Tryd.prog w = .ok v' w' ∧ (∃ a c, v' = .slice a (X.length + t.length) c) ∧ w'.cell? ⟨b, 0, none⟩ = some cv ∧ w'.frozen? ⟨b, 0, none⟩ = false ∧ BdL w2 (w'.setCell ⟨b, 0, none⟩ v') b v' kv lv vs (X ++ t) K C := by
  obtain ⟨v', w', hr, ho, hg, hn⟩ := join_intsB ty h.cod hu h.size hl
  have hs := h.own.step (i := 0) rfl hg ho (by
    rcases hn with hn | hn
    · exact .inl hn
    · exact .inr ⟨_, hn, Nat.le_refl _⟩)
  have hblk : w'.heap[b]? = some (.cells #[cv, kv, lv] 80 (0, 0)) := (hg.block b (Array.getElem?_eq_some_iff.1 h.blk).1 (fun e => own_ne h.cod.2 h.blk (by decide) e.symm)).trans h.blk
  have hrow := ownsRow_kept h.row hg (ownsRow_apart h.row h.cod.2 (by decide))
  obtain ⟨a, c, e, _⟩ := ho.shape
  have hsb := set_grown w' b 0 v'
  refine ⟨v', w', hr, ⟨a, c, by rw [e, List.length_append]⟩, by rw [cell_of_row _ _ _ _ _ _ hblk]; rfl, frozen_of_row _ _ _ _ _ hblk, (h.exg.grown h.lt hg (fun j hj => own_blk h.cod.2 hj)).set 0 v', h.lt, (set_board hblk v').1, ownsRow_kept hrow hsb (.inr (own_ne hrow hblk (by decide))), h.len, ?_⟩
  exact hs.kept hsb hblk (by decide)

/-- A class joined. -/
theorem BdL.class (ty : TypeId) {w2 w : World} {b : Nat} {cv kv lv : Value} {vs : List Value} {X : List Int} {K : List (List Nat)} {C : List Nat} (h : BdL w2 w b cv kv lv vs X K C) {c : Nat} (hc : c ≤ 1073741824) (hl : (C.length + 1) * 8 ≤ 140737488355328) :
    ∃ v' w', (Builtin.append_ #[23, 23] ty #[lv, .slice (some ⟨w.heap.size, 0, none⟩) 1 1]).run Tryd.prog (w.alloc (.cells #[.int .i64 (c : Int)] 3)) = .ok v' w' ∧ (∃ a d, v' = .slice a (C.length + 1) d) ∧ w'.cell? ⟨b, 2, none⟩ = some lv ∧ w'.frozen? ⟨b, 2, none⟩ = false ∧ BdL w2 (w'.setCell ⟨b, 2, none⟩ v') b cv kv v' vs X K (C ++ [c]) := by
  have h' := h.later (below_alloc (.cells #[.int .i64 (c : Int)] 3))
  obtain ⟨v', w', hr, ho, hg, hn⟩ := join_one ty h.cls (c := (c : Int)) (by omega) (by omega) h.size (by rw [natL_len]; exact hl)
  rw [← natL_snoc] at ho
  have hs := h'.own.step (i := 1) rfl hg ho (by
    rcases hn with hn | hn
    · exact .inl hn
    · exact .inr ⟨_, hn, Nat.le_refl _⟩)
  have hblk : w'.heap[b]? = some (.cells #[cv, kv, lv] 80 (0, 0)) := (hg.block b (Array.getElem?_eq_some_iff.1 h'.blk).1 (fun e => own_ne h'.cls.2 h'.blk (by decide) e.symm)).trans h'.blk
  have hrow := ownsRow_kept h'.row hg (ownsRow_apart h'.row h'.cls.2 (by decide))
  obtain ⟨a, d, e, _⟩ := ho.shape
  have hsb := set_grown w' b 2 v'
  refine ⟨v', w', hr, ⟨a, d, by rw [e, natL_len, List.length_append]; rfl⟩, by rw [cell_of_row _ _ _ _ _ _ hblk]; rfl, frozen_of_row _ _ _ _ _ hblk, (h'.exg.grown h'.lt hg (fun j hj => own_blk h'.cls.2 hj)).set 2 v', h'.lt, (set_board hblk v').2.2, ownsRow_kept hrow hsb (.inr (own_ne hrow hblk (by decide))), h'.len, ?_⟩
  exact hs.kept hsb hblk (by decide)

/-- Older rows and newer ones. -/
theorem Owns.both {w1 w : World} {base : Nat} {l m : List (Value × List Int)} (h : Owns w1 base l) (hb : Below w1.heap.size w1 w) (hw : base ≤ w1.heap.size) (k : Owns w w1.heap.size m) : Owns w base (l ++ m) := by
  have hl := h.later hb
  have far : ∀ (i j : Nat) (v u : Value) (xs ys : List Int), l[i]? = some (v, xs) → m[j]? = some (u, ys) → Dis v u := fun i j v u xs ys hi hj g h1 h2 => by
    have h3 := own_blk_lt (h.own i v xs hi).2 h1
    have h4 := own_blk (k.own j u ys hj).2 h2
    omega
  have get : ∀ (i : Nat) (v : Value) (xs : List Int), (l ++ m)[i]? = some (v, xs) → (i < l.length ∧ l[i]? = some (v, xs)) ∨ (l.length ≤ i ∧ m[i - l.length]? = some (v, xs)) := fun i v xs hi => by
    by_cases hil : i < l.length
    · rw [List.getElem?_append_left hil] at hi
      exact .inl ⟨hil, hi⟩
    · rw [List.getElem?_append_right (by omega)] at hi
      exact .inr ⟨by omega, hi⟩
  refine ⟨fun i v xs hi => ?_, fun i j v u xs ys hij hi hj => ?_⟩
  · rcases get i v xs hi with ⟨_, h1⟩ | ⟨_, h1⟩
    · exact hl.own i v xs h1
    · exact (k.own _ v xs h1).mono hw
  · rcases get i v xs hi with ⟨h0, h1⟩ | ⟨h0, h1⟩ <;> rcases get j u ys hj with ⟨h2, h3⟩ | ⟨h2, h3⟩
    · exact hl.dis i j v u xs ys hij h1 h3
    · exact far _ _ v u xs ys h1 h3
    · exact (far _ _ u v ys xs h3 h1).symm
    · exact k.dis _ _ v u xs ys (by omega) h1 h3

/-- The rows of a term's places joined. -/
theorem BdL.kids (ty : TypeId) {w2 w1 W w : World} {b g n : Nat} {cv kv lv : Value} {vs vals : List Value} {X : List Int} {K Kq : List (List Nat)} {C : List Nat} (h : BdL w2 w1 b cv kv lv vs X K C) (_hg0 : w1.heap.size ≤ g) (hbl : Below w1.heap.size w1 w) (hG : G13 W w g n vals (Kq.map natL) []) (hW : w1.heap.size ≤ W.heap.size) (hl : (K.length + n) * 24 ≤ 140737488355328) :
    ∃ v' w', (Builtin.append_ #[78, 78] ty #[kv, .slice (some ⟨g, 0, none⟩) n n]).run Tryd.prog w = .ok v' w' ∧ (∃ a d, v' = .slice a (K.length + n) d) ∧ w'.cell? ⟨b, 1, none⟩ = some kv ∧ w'.frozen? ⟨b, 1, none⟩ = false ∧ BdL w2 (w'.setCell ⟨b, 1, none⟩ v') b cv v' lv (vs ++ vals) X (K ++ Kq) C := by
  obtain ⟨i1, hi1, hy0, hy1, hy2⟩ := info_parts info_ints
  have h' := h.later hbl
  have hKq : Kq.length = n := by have := hG.rlen; rw [List.length_map] at this; exact this
  obtain ⟨v', w', hr, g2, hg, _, g4⟩ := run_append_own_at (P := Tryd.prog) w w2.heap.size 78 ty 23 i1 _ 1 24 under_rows hi1 hy0 hy1 hy2 rfl (by decide) kv K.length vs h'.row ⟨g, 0, none⟩ n n vals (by rw [hG.len, Nat.mul_one])
    (fun j u hj => by
      rw [Addr.add_lit, Nat.zero_add, cell_of_row _ _ _ _ _ _ hG.blk]
      simpa using hj) (fun u hu => by
      obtain ⟨j, hj⟩ := List.getElem?_of_mem hu
      obtain ⟨v, r, h1, _, h3, _⟩ := hG.one (x := j) (by rw [← hG.len]; exact (List.getElem?_eq_some_iff.1 hj).1)
      rw [hj] at h1
      cases h1
      exact is_one h3.is) (by unfold maxLen; omega) (by omega) h'.size
  have hO := h.own.both hbl h.size ((show Owns w W.heap.size (vals.zip (Kq.map natL)) from ⟨fun i v xs hi => hG.own.own i v xs (by rw [List.append_nil]; exact hi), fun i j v u xs ys hne hi hj => hG.own.dis i j v u xs ys hne (by rw [List.append_nil]; exact hi) (by rw [List.append_nil]; exact hj)⟩) |> fun k => ⟨fun i v xs hi => (k.own i v xs hi).mono hW, k.dis⟩)
  have hblk : w'.heap[b]? = some (.cells #[cv, kv, lv] 80 (0, 0)) := (hg.block b (Array.getElem?_eq_some_iff.1 h'.blk).1 (fun e => own_ne h'.row h'.blk (by decide) e.symm)).trans h'.blk
  have hsb := set_grown w' b 1 v'
  have hlen : (K ++ Kq).length = K.length + n := by rw [List.length_append, hKq]
  have hO2 := hO.keptR hg h'.row (by decide)
  have e : (cv, X) :: (lv, natL C) :: vs.zip (K.map natL) ++ vals.zip (Kq.map natL) = (cv, X) :: (lv, natL C) :: (vs ++ vals).zip ((K ++ Kq).map natL) := by
    rw [List.map_append, List.zip_append (by rw [h.len, List.length_map])]
    rfl
  rw [e] at hO2
  refine ⟨v', w', hr, ?_, by rw [cell_of_row _ _ _ _ _ _ hblk]; rfl, frozen_of_row _ _ _ _ _ hblk, (h'.exg.grown h'.lt hg (fun j hj => own_blk h'.row hj)).set 1 v', h'.lt, (set_board hblk v').2.1, ?_, by rw [List.length_append, hlen, h.len, hG.len], hO2.kept hsb hblk (by decide)⟩
  · rcases g2.2 with ⟨hv, h0⟩ | ⟨g', cap, cur, hv, _⟩
    · exact ⟨none, 0, by rw [hv, h0]⟩
    · exact ⟨_, cap, hv⟩
  · rw [hlen]
    exact ownsRow_kept g2 hsb (.inr (own_ne g2 hblk (by decide)))

/-- A board that is laid. -/
theorem BdL.done {w0 w2 w : World} {b : Nat} {cv kv lv : Value} {vs : List Value} {X : List Int} {K : List (List Nat)} {C : List Nat} (h : BdL w2 w b cv kv lv vs X K C) (hb : Below w0.heap.size w0 w2) (hlow : w0.heap.size ≤ b) : BdB w0 w b cv kv lv vs X K C := by
  have hle : w0.heap.size ≤ w2.heap.size := hb.size
  refine ⟨hb.trans (h.exg.bel.mono hlow), hlow, h.blk, ?_, h.len, ⟨fun i v xs hi => (h.own.own i v xs hi).mono hle, h.own.dis⟩⟩
  refine ⟨h.row.1, ?_⟩
  rcases h.row.2 with h0 | ⟨g, cap, cur, hv, hg, r⟩
  · exact .inl h0
  · exact .inr ⟨g, cap, cur, hv, by omega, r⟩

/-- What lies beside the rows that are made, changed. -/
theorem G13.next {W w w' : World} {g n : Nat} {vals : List Value} {rws : List (List Int)} {u u' : Value} {xs xs' : List Int} (h : G13 W w g n vals rws [(u, xs)]) (hg : w.grownBy w' u.ownBlock) (ho : OwI w' W.heap.size u' xs') (hn : u'.ownBlock = u.ownBlock ∨ ∃ m, u'.ownBlock = some m ∧ w.heap.size ≤ m) : G13 W w' g n vals rws [(u', xs')] := by
  have hz : (vals.zip rws ++ [(u, xs)])[(vals.zip rws).length]? = some (u, xs) := by simp
  have hu := h.own.own _ _ _ hz
  have hs := h.own.step hz hg ho hn
  rw [List.set_append_right _ _ (Nat.le_refl _), Nat.sub_self, List.set_cons_zero] at hs
  exact ⟨h.exg.grown h.lt hg (fun j hj => own_blk hu.2 hj), h.lt, (hg.block g (Array.getElem?_eq_some_iff.1 h.blk).1 (fun e => own_ne hu.2 h.blk (by decide) e.symm)).trans h.blk, h.len, h.rlen, hs⟩

/-- A number more behind one of the rows, with what lies beside them. -/
theorem G13.push9 (ty : TypeId) {W w : World} {g n x : Nat} {vals : List Value} {rws : List (List Int)} {u : Value} {t : List Int} {v : Value} {r : List Int} {c : Int} (h : G13 W w g n vals rws [(u, t)]) (hx : x < n) (hv : vals[x]? = some v) (hr : rws[x]? = some r) (h1 : -9223372036854775808 ≤ c) (h2 : c ≤ 9223372036854775807) (hl : (r.length + 1) * 8 ≤ 140737488355328) :
    ∃ v' w', (Builtin.append_ #[23, 23] ty #[v, .slice (some ⟨w.heap.size, 0, none⟩) 1 1]).run Tryd.prog (w.alloc (.cells #[.int .i64 c] 3)) = .ok v' w' ∧ (∃ a m d, v' = .slice a m d) ∧ w'.cell? ⟨g, x, none⟩ = some v ∧ w'.frozen? ⟨g, x, none⟩ = false ∧ G13 W (w'.setCell ⟨g, x, none⟩ v') g n (vals.set x v') (rws.set x (r ++ [c])) [(u, t)] ∧ OwI w' W.heap.size u t := by
  obtain ⟨v', w', hrun, q1, q2, q3, q4⟩ := h.push ty hx hv hr h1 h2 hl
  refine ⟨v', w', hrun, q1, q2, q3, q4, ?_⟩
  have hlz : x < (vals.zip rws).length := by rw [List.length_zip, h.len, h.rlen]; omega
  have hz : (vals.zip rws ++ [(u, t)])[x]? = some (v, r) := by
    rw [List.getElem?_append_left hlz]
    exact List.getElem?_zip_eq_some.2 ⟨hv, hr⟩
  have h' := h.later (below_alloc (.cells #[.int .i64 c] 3))
  obtain ⟨v2, w2, hrun2, g1, g2, g3⟩ := join_one ty (h.own.own x v r hz) h1 h2 h.exg.bel.size hl
  rw [hrun] at hrun2
  cases hrun2
  have hb : (vals.zip rws ++ [(u, t)])[(vals.zip rws).length]? = some (u, t) := by simp
  exact h'.beside.kept g2 (h'.own.dis _ _ u v t r (by omega) hb hz).keep

end Go.Proofs.YtelacmijkbgliaaDoor
