/- Texts of the proof, one behind the other. -/
import Derived.Test.YtelacmijkbgliaaDoorProg
import Derived.WalkKit
import Derived.WalkSpells
import Derived.WalkLawsBesides
import Derived.Deep.QuietTactic
import Derived.BigQuiet
import Derived.Laws.CopyOwn
import Derived.Laws.IdiomCopy
import Derived.Deep.RegionHeldLaw
import Derived.Maps.AppendAt
import Derived.Maps.Own
import Derived.Maps.OwnOps
import Derived.Maps.OwnSet
import Derived.Deep.Upon
import Derived.Deep.Quiet
import Derived.WalkSmall
import Derived.Laws.RangeString
import Derived.Laws.RangeAny
import Derived.Ground.NamesProg
import Derived.Ground.SlgfProg
import Derived.Shelf.SlGeneric
import Derived.Shelf.Strings.Prefix
import Derived.Shelf.Unicode.ValidAny
import Derived.Shelf.SlicesQ.IndexFunc
import Derived.Sort.WalkB12
import Derived.Lib.SlicesMore
import Derived.Lib.Walk
import Derived.Deep.LoopGhost
import Derived.Deep.DeepAppendRoom
/- Rows of numbers in memory, as they are read and as a call owns them: for the seats of terms. -/
namespace Go.Proofs.YtelacmijkbgliaaDoor
open Go.RowKit Go.Maps

/-- Every cell that could be read reads as it did. -/
structure Kp (w w' : World) : Prop where
  size : w.heap.size ≤ w'.heap.size
  cell : ∀ (a : Addr) (v : Value), w.cell? a = some v → w'.cell? a = some v

theorem Kp.of_below {w w' : World} (h : Below w.heap.size w w') : Kp w w' :=
  ⟨h.size, fun a _ hv => (h.cell (World.block_lt_of_cell? w a hv)).trans hv⟩

/-- A slice that is read, element by element: E says what stands at an address. -/
def Row {α : Type} (E : World → Nat → Nat → α → Prop) (sz : Nat) (w : World) (v : Value) (xs : List α) : Prop :=
  ∃ ao cap, v = .slice ao xs.length cap ∧ xs.length ≤ cap ∧ cap ≤ maxLen ∧
    (0 < xs.length → ∃ g off, ao = some ⟨g, off, none⟩ ∧ g < w.heap.size ∧ ∀ (k : Nat) (x : α), xs[k]? = some x → E w g (off + k * sz) x)

theorem Row.imp {α : Type} {E : World → Nat → Nat → α → Prop} {sz : Nat} {w w' : World} {v : Value} {xs : List α} (h : Row E sz w v xs) (hs : w.heap.size ≤ w'.heap.size) (hE : ∀ g o x, E w g o x → E w' g o x) : Row E sz w' v xs := by
  obtain ⟨ao, cap, rfl, hc, hm, hx⟩ := h
  refine ⟨ao, cap, rfl, hc, hm, fun h0 => ?_⟩
  obtain ⟨g, off, rfl, hg, hx⟩ := hx h0
  exact ⟨g, off, rfl, Nat.lt_of_lt_of_le hg hs, fun k x he => hE _ _ _ (hx k x he)⟩

theorem Row.flat {α : Type} {E : World → Nat → Nat → α → Prop} {sz : Nat} {w : World} {v : Value} {xs : List α} (h : Row E sz w v xs) : ∃ ao cap, v = .slice ao xs.length cap ∧ xs.length ≤ cap ∧ cap ≤ maxLen ∧
    ∀ k : Nat, k < xs.length → ∃ g off x, ao = some ⟨g, off, none⟩ ∧ xs[k]? = some x ∧ E w g (off + k * sz) x := by
  obtain ⟨ao, cap, rfl, hc, hm, hx⟩ := h
  refine ⟨ao, cap, rfl, hc, hm, fun k hk => ?_⟩
  obtain ⟨g, off, rfl, hg, hx⟩ := hx (by omega)
  exact ⟨g, off, xs[k], rfl, List.getElem?_eq_getElem hk, hx k _ (List.getElem?_eq_getElem hk)⟩

/-- A number at an address. -/
def EI (w : World) (g o : Nat) (x : Int) : Prop := -9223372036854775808 ≤ x ∧ x ≤ 9223372036854775807 ∧ w.cell? ⟨g, o, none⟩ = some (.int .i64 x)

theorem EI.kp {w w' : World} (hk : Kp w w') (g o : Nat) (x : Int) (h : EI w g o x) : EI w' g o x := ⟨h.1, h.2.1, hk.cell _ _ h.2.2⟩

/-- A row of numbers. -/
def Is (w : World) (v : Value) (xs : List Int) : Prop := Row EI 1 w v xs

theorem Is.kp {w w' : World} {v : Value} {xs : List Int} (h : Is w v xs) (hk : Kp w w') : Is w' v xs := Row.imp h hk.size (EI.kp hk)

theorem below_alloc {w : World} (o : Obj) : Below w.heap.size w (w.alloc o) := (Below.refl _ _).alloc (Nat.le_refl _) o

theorem below_step {a b c : World} (h : Below a.heap.size a b) (k : Below b.heap.size b c) : Below a.heap.size a c := h.trans (k.mono h.size)

theorem Row.len {α : Type} {E : World → Nat → Nat → α → Prop} {sz : Nat} {w : World} {ao : Option Addr} {n cap : Nat} {xs : List α} (h : Row E sz w (.slice ao n cap) xs) : n = xs.length := by
  obtain ⟨ao', cap', hv, _⟩ := h
  simp only [Value.slice.injEq] at hv
  exact hv.2.1

theorem Row.nil {α : Type} {E : World → Nat → Nat → α → Prop} {sz : Nat} {w : World} {ao : Option Addr} {cap : Nat} (hc : cap ≤ maxLen) : Row E sz w (.slice ao 0 cap) ([] : List α) :=
  ⟨ao, cap, rfl, Nat.zero_le _, hc, fun h => absurd h (by simp)⟩

theorem Is.at {w : World} {ao : Option Addr} {n cap : Nat} {es : List Int} (h : Is w (.slice ao n cap) es) {k : Nat} (hk : k < es.length) :
    ∃ g off x, ao = some ⟨g, off, none⟩ ∧ es[k]? = some x ∧ w.cell? ⟨g, off + k, none⟩ = some (.int .i64 x) ∧ -9223372036854775808 ≤ x ∧ x ≤ 9223372036854775807 := by
  obtain ⟨ao', cap', hv, _, _, hx⟩ := Row.flat h
  simp only [Value.slice.injEq] at hv
  obtain ⟨rfl, rfl, rfl⟩ := hv
  obtain ⟨g, off, x, rfl, hm, h1, h2, h3⟩ := hx k hk
  rw [Nat.mul_one] at h3
  exact ⟨g, off, x, rfl, hm, h3, h1, h2⟩

theorem drop_get {α : Type} {xs : List α} {k : Nat} {x : α} (h : xs[k]? = some x) : xs.drop k = x :: xs.drop (k + 1) := by
  have hk := (List.getElem?_eq_some_iff.1 h)
  obtain ⟨hk, rfl⟩ := hk
  exact List.drop_eq_getElem_cons hk

theorem take_get {α : Type} {xs : List α} {k : Nat} {x : α} (h : xs[k]? = some x) : xs.take (k + 1) = xs.take k ++ [x] := by
  rw [List.take_add_one, h]; rfl

def I64 (x : Int) : Value := .int .i64 x

def ZI (xs : List Int) : Prop := ∀ (k : Nat) (x : Int), xs[k]? = some x → -9223372036854775808 ≤ x ∧ x ≤ 9223372036854775807

/-- The slice value v is the call's own (blocks from base on), at the head of its row, and holds the numbers xs. -/
def OwI (w : World) (base : Nat) (v : Value) (xs : List Int) : Prop := ZI xs ∧ w.ownsRow base 3 1 v xs.length (xs.map I64)

theorem OwI.is {w : World} {base : Nat} {v : Value} {xs : List Int} (h : OwI w base v xs) : Is w v xs := by
  have h2 := h.2
  rcases h2.2 with ⟨rfl, hn⟩ | ⟨g, cap, cur, rfl, hb, hg, hc, hm, hs, ht⟩
  · exact ⟨none, 0, by rw [hn], by omega, by simp [maxLen], by omega⟩
  · refine ⟨_, cap, rfl, hc, hm, fun _ => ⟨g, 0, rfl, (Array.getElem?_eq_some_iff.1 hg).1, ?_⟩⟩
    intro k x hk
    have hlt : k < xs.length := (List.getElem?_eq_some_iff.1 hk).1
    refine ⟨(h.1 k x hk).1, (h.1 k x hk).2, ?_⟩
    rw [Nat.zero_add, Nat.mul_one, World.ownsRow.cellAt h2 k (by omega)]
    simp [hk, I64]

theorem OwI.kept {w w' : World} {base : Nat} {v : Value} {xs : List Int} {row : Option Nat} (h : OwI w base v xs) (hg : w.grownBy w' row) (hr : v.ownBlock = none ∨ v.ownBlock ≠ row) : OwI w' base v xs := by
  refine ⟨h.1, h.2.1, ?_⟩
  rcases h.2.2 with h | ⟨g, cap, cur, rfl, hb, hgg, r⟩
  · exact .inl h
  · refine .inr ⟨g, cap, cur, rfl, hb, (hg.block g (Array.getElem?_eq_some_iff.1 hgg).1 ?_).trans hgg, r⟩
    rcases hr with hr | hr
    · cases hr
    · exact hr

theorem OwI.later {w w' : World} {base : Nat} {v : Value} {xs : List Int} (h : OwI w base v xs) (hb : Below w.heap.size w w') : OwI w' base v xs :=
  h.kept (row := none) ⟨hb.os, hb.tape, hb.output, hb.size, fun k hk _ => hb.block k hk⟩ (by cases hv : v.ownBlock <;> simp)

theorem OwI.mono {w : World} {base b' : Nat} {v : Value} {xs : List Int} (h : OwI w base v xs) (hb : b' ≤ base) : OwI w b' v xs := by
  refine ⟨h.1, h.2.1, ?_⟩
  rcases h.2.2 with h | ⟨g, cap, cur, rfl, hg, r⟩
  · exact .inl h
  · exact .inr ⟨g, cap, cur, rfl, Nat.le_trans hb hg, r⟩

theorem made_zero64 (n : Nat) : (madeCells (Value.int .i64 0).cells (n * 1)).toList = (List.replicate n (0 : Int)).map I64 := by
  have : (Value.int .i64 0).cells = #[Value.int .i64 0] := rfl
  rw [this, toList_madeCells_one]
  simp [I64]

theorem OwI.made {w : World} {base n : Nat} {v : Value} (h : w.ownsRow base 3 1 v n (madeCells (Value.int .i64 0).cells (n * 1)).toList) : OwI w base v (List.replicate n 0) := by
  rw [made_zero64] at h
  refine ⟨?_, by simpa using h⟩
  intro k x hk
  rw [List.getElem?_replicate] at hk
  split at hk
  · cases hk; omega
  · cases hk

theorem OwI.at {w : World} {base g n cap : Nat} {xs : List Int} (h : OwI w base (.slice (some ⟨g, 0, none⟩) n cap) xs) {k : Nat} {x : Int} (hk : xs[k]? = some x) :
    w.cell? ⟨g, k, none⟩ = some (.int .i64 x) ∧ w.frozen? ⟨g, k, none⟩ = false := by
  have h2 := h.2
  rcases h2.2 with ⟨hv, hn⟩ | ⟨g', cap', cur, hv, hb, hg, hc, hm, hs, ht⟩
  · cases hv
  · simp only [Value.slice.injEq, Option.some.injEq, Addr.mk.injEq, and_true] at hv
    obtain ⟨rfl, rfl, rfl⟩ := hv
    have hlt : k < xs.length := (List.getElem?_eq_some_iff.1 hk).1
    have h3 := h2
    refine ⟨?_, World.ownsRow.frozenAt h3 k⟩
    rw [World.ownsRow.cellAt h3 k (by omega)]
    simp [hk, I64]

theorem OwI.put {w w0 : World} {base g n cap B : Nat} {xs : List Int} (h : OwI w base (.slice (some ⟨g, 0, none⟩) n cap) xs) (hb : Below B w0 w) (hB : B ≤ g) (hn : n = xs.length) {k : Nat} {z : Int} (hz : -9223372036854775808 ≤ z ∧ z ≤ 9223372036854775807) {ys : List Int} (hys : xs.set k z = ys) :
    OwI (w.setCell ⟨g, k, none⟩ (.int .i64 z)) base (.slice (some ⟨g, 0, none⟩) n cap) ys ∧ Below B w0 (w.setCell ⟨g, k, none⟩ (.int .i64 z)) := by
  subst hys
  subst hn
  have hs := World.ownsRow.stored h.2 k (.int .i64 z)
  refine ⟨⟨?_, ?_⟩, hb.setCell (p := ⟨g, k, none⟩) hB _⟩
  · intro j y hy
    rw [List.getElem?_set] at hy
    split at hy
    · split at hy
      · cases hy; exact hz
      · cases hy
    · exact h.1 j y hy
  · have h1 := hs.1
    rw [List.length_set, List.map_set]
    exact h1

theorem OwI.shape {w : World} {base : Nat} {v : Value} {xs : List Int} (h : OwI w base v xs) : ∃ ao cap, v = .slice ao xs.length cap ∧ xs.length ≤ cap ∧ cap ≤ maxLen := by
  rcases h.2.2 with ⟨rfl, hn⟩ | ⟨g, cap, cur, rfl, hb, hg, hc, hm, hs, ht⟩
  · exact ⟨none, 0, by rw [hn], by omega, by simp [maxLen]⟩
  · exact ⟨_, cap, rfl, hc, hm⟩

theorem info_int : (Tryd.prog.info? 3).map (fun i => (i.zero, i.size, i.bytes)) = some (some (.int .i64 0), 1, 8) := by kernel_rfl

theorem under_ints : Tryd.prog.underlying 23 = some (.slice 3) := by kernel_rfl

theorem ownsRow_later {w w' : World} {base : Nat} {e : TypeId} {size : Nat} {v : Value} {n : Nat} {xs : List Value} (h : w.ownsRow base e size v n xs) (hb : Below w.heap.size w w') : w'.ownsRow base e size v n xs :=
  h.kept (row := none) ⟨hb.os, hb.tape, hb.output, hb.size, fun k hk _ => hb.block k hk⟩ (by cases hv : v.ownBlock <;> simp)

/-- Rows of other elements lie in other blocks. -/
theorem ownsRow_apart {w : World} {b1 b2 : Nat} {e1 e2 : TypeId} {s1 s2 : Nat} {v u : Value} {n m : Nat} {xs ys : List Value} (h : w.ownsRow b1 e1 s1 v n xs) (k : w.ownsRow b2 e2 s2 u m ys) (hne : e1 ≠ e2) : v.ownBlock = none ∨ v.ownBlock ≠ u.ownBlock := by
  rcases h.2 with ⟨rfl, _⟩ | ⟨g, cap, cur, rfl, _, hg, _⟩
  · exact .inl rfl
  · refine .inr ?_
    rcases k.2 with ⟨rfl, _⟩ | ⟨g', cap', cur', rfl, _, hg', _⟩
    · simp [Value.ownBlock]
    · simp only [Value.ownBlock]
      intro e
      cases e
      rw [hg] at hg'
      simp only [Option.some.injEq, Obj.cells.injEq] at hg'
      exact hne hg'.2.1

theorem copy_ints (ty : TypeId) {w : World} {base g : Nat} {u : Value} {es : List Int} (ho : w.ownsRow base 3 1 (.slice (some ⟨g, 0, none⟩) 0 0) 0 []) (hs : Is w u es) (hb : base ≤ w.heap.size) (hl : es.length * 8 ≤ 140737488355328) :
    ∃ v' w', (Builtin.append_ #[23, 23] ty #[.slice (some ⟨g, 0, none⟩) 0 0, u]).run Tryd.prog w = .ok v' w' ∧ OwI w' base v' es ∧ w.grownBy w' (some g) := by
  obtain ⟨i0, hi, hz0, hz1, hz2⟩ := info_parts info_int
  have hZ : ZI es := fun k x hk => by
    obtain ⟨ao, cap, rfl, _, _, hx⟩ := Row.flat hs
    obtain ⟨_, _, y, _, hy, h1, h2, _⟩ := hx k (List.getElem?_eq_some_iff.1 hk).1
    rw [hk] at hy
    cases hy
    exact ⟨h1, h2⟩
  obtain ⟨ao, cap, rfl, hc, hm, hx⟩ := hs
  by_cases h0 : es.length = 0
  · obtain rfl : es = [] := List.eq_nil_of_length_eq_zero h0
    refine ⟨_, w, run_append_nothing w 23 23 ty 3 i0 under_ints hi _ 0 0 (Nat.le_refl _) _ ?_, ⟨hZ, ho⟩, World.grownBy.refl _ _⟩
    cases ao with
    | none => exact Src.ofNil w under_ints _
    | some a => exact Src.ofSlice w under_ints a 0 _ [] (by simp) (fun j u hj => (by simp at hj)) (fun u hu => (by simp at hu))
  · obtain ⟨g', off, rfl, hg, hcell⟩ := hx (by omega)
    obtain ⟨v', w', hr, h2, h3, _, _⟩ := run_append_own_at (P := Tryd.prog) w base 23 ty 3 i0 _ 1 8 under_ints hi hz0 hz1 hz2 rfl (by decide) _ 0 [] ho ⟨g', off, none⟩ es.length cap (es.map I64) (by simp) (fun j u hj => by
      rw [List.getElem?_map] at hj
      cases hk : es[j]? with
      | none => rw [hk] at hj; simp at hj
      | some x =>
        rw [hk] at hj
        simp at hj
        subst hj
        rw [Addr.add_lit]
        have := (hcell j x hk).2.2
        rw [Nat.mul_one] at this
        exact this) (fun u hu => by obtain ⟨x, _, rfl⟩ := List.mem_map.1 hu; rfl) (by unfold maxLen at hm ⊢; omega) (by omega) hb
    refine ⟨v', w', hr, ⟨hZ, ?_⟩, h3⟩
    rw [Nat.zero_add, List.nil_append] at h2
    exact h2

/-- A row without elements, just laid. -/
theorem empty_row {w : World} {base : Nat} (t : TypeId) (hb : base ≤ w.heap.size) : (w.alloc (.cells #[] t)).ownsRow base t 1 (.slice (some ⟨w.heap.size, 0, none⟩) 0 0) 0 [] := by
  refine ⟨rfl, .inr ⟨w.heap.size, 0, #[], rfl, hb, heap_alloc_new _ _, Nat.le_refl _, Nat.zero_le _, rfl, rfl⟩⟩

theorem grown_below {w0 w w' : World} {g : Nat} (hB : Below w0.heap.size w0 w) (hg : w.grownBy w' (some g)) (h : w0.heap.size ≤ g) : Below w0.heap.size w0 w' := hB.grown hg hB.size (fun k hk => by cases hk; exact h)

theorem own_ge {w : World} {base : Nat} {e : TypeId} {s g n c m : Nat} {xs : List Value} (h : w.ownsRow base e s (.slice (some ⟨g, 0, none⟩) n c) m xs) : base ≤ g := by
  rcases h.2 with ⟨hv, _⟩ | ⟨g', cap, cur, hv, hb, _⟩
  · cases hv
  · cases hv
    exact hb

theorem own_blk {w : World} {base : Nat} {e : TypeId} {s m j : Nat} {v : Value} {xs : List Value} (h : w.ownsRow base e s v m xs) (hj : v.ownBlock = some j) : base ≤ j := by
  rcases h.2 with ⟨rfl, _⟩ | ⟨g', cap, cur, rfl, hb, _⟩
  · cases hj
  · cases hj
    exact hb

theorem own_form {w : World} {base : Nat} {e : TypeId} {s n : Nat} {v : Value} {xs : List Value} (h : w.ownsRow base e s v n xs) (hn : 0 < n) : ∃ g cap, v = .slice (some ⟨g, 0, none⟩) n cap := by
  rcases h.2 with ⟨_, h0⟩ | ⟨g, cap, cur, hv, _⟩
  · omega
  · exact ⟨g, cap, hv⟩

/-- A block of n cells for elements of a type. -/
def Shp (w : World) (g : Nat) (e : TypeId) (n : Nat) : Prop := ∃ cur : Array Value, w.heap[g]? = some (.cells cur e (0, 0)) ∧ cur.size = n

theorem Shp.lt {w : World} {g n : Nat} {e : TypeId} (h : Shp w g e n) : g < w.heap.size := by
  obtain ⟨cur, hg, _⟩ := h
  exact (Array.getElem?_eq_some_iff.1 hg).1

theorem Shp.cell {w : World} {g n k : Nat} {e : TypeId} (h : Shp w g e n) (hk : k < n) : (∃ u, w.cell? ⟨g, k, none⟩ = some u) ∧ w.frozen? ⟨g, k, none⟩ = false := by
  obtain ⟨cur, hg, hs⟩ := h
  refine ⟨⟨cur[k], ?_⟩, frozen_of_row _ _ _ _ _ hg⟩
  unfold World.cell?
  simp only [hg]
  rw [if_neg (by simp)]
  exact Array.getElem?_eq_getElem (by omega)

theorem Shp.ne {w : World} {g g' n n' : Nat} {e e' : TypeId} (h : Shp w g e n) (h' : Shp w g' e' n') (hne : e ≠ e') : g ≠ g' := by
  rintro rfl
  obtain ⟨cur, hg, _⟩ := h
  obtain ⟨cur', hg', _⟩ := h'
  rw [hg] at hg'
  simp only [Option.some.injEq, Obj.cells.injEq] at hg'
  exact hne hg'.2.1

theorem Shp.setCell {w : World} {g n : Nat} {e : TypeId} (h : Shp w g e n) (g' k : Nat) (u : Value) : Shp (w.setCell ⟨g', k, none⟩ u) g e n := by
  obtain ⟨cur, hg, hs⟩ := h
  by_cases hne : g = g'
  · subst hne
    exact ⟨_, heap_setCell_same w g k cur e u hg, by simp [hs]⟩
  · exact ⟨cur, by rw [heap_setCell_other _ _ _ _ hne]; exact hg, hs⟩

/-- All blocks but those from b on and below t are as they were, and the blocks' shapes are. -/
structure Spl (b t : Nat) (w w' : World) : Prop where
  os : w'.os = w.os
  tape : w'.tape = w.tape
  output : w'.output = w.output
  size : w.heap.size ≤ w'.heap.size
  block : ∀ g, g < w.heap.size → (g < b ∨ t ≤ g) → w'.heap[g]? = w.heap[g]?
  shape : ∀ (g : Nat) (e : TypeId) (n : Nat), Shp w g e n → Shp w' g e n

theorem Spl.refl (b t : Nat) (w : World) : Spl b t w w := ⟨rfl, rfl, rfl, Nat.le_refl _, fun _ _ _ => rfl, fun _ _ _ h => h⟩

theorem Spl.trans {b t : Nat} {w w' w'' : World} (h : Spl b t w w') (k : Spl b t w' w'') : Spl b t w w'' :=
  ⟨k.os.trans h.os, k.tape.trans h.tape, k.output.trans h.output, Nat.le_trans h.size k.size, fun g hg hb => (k.block g (Nat.lt_of_lt_of_le hg h.size) hb).trans (h.block g hg hb), fun g e n hs => k.shape g e n (h.shape g e n hs)⟩

theorem Spl.below {b t : Nat} {w w' : World} (h : Below w.heap.size w w') : Spl b t w w' :=
  ⟨h.os, h.tape, h.output, h.size, fun g hg _ => h.block g hg, fun g e n hs => by
    have hlt := hs.lt
    obtain ⟨cur, hg, hn⟩ := hs
    exact ⟨cur, by rw [h.block g hlt]; exact hg, hn⟩⟩

theorem Spl.setCell {b t : Nat} {w w' : World} (h : Spl b t w w') {g : Nat} (hg : (b ≤ g ∧ g < t) ∨ w.heap.size ≤ g) (k : Nat) (u : Value) : Spl b t w (w'.setCell ⟨g, k, none⟩ u) :=
  ⟨h.os, h.tape, h.output, by simpa [World.setCell] using h.size, fun g' hg' hb => by
    rw [heap_setCell_other _ _ _ _ (show g' ≠ g by omega)]
    exact h.block g' hg' hb, fun g' e n hs => (h.shape g' e n hs).setCell _ _ _⟩

/-- A slice of one's own, at the head of its row, with anything in it. -/
def RowS (w : World) (b t : Nat) (e : TypeId) (v : Value) (n : Nat) : Prop :=
  (v = .slice none 0 0 ∧ n = 0) ∨ ∃ g cap, v = .slice (some ⟨g, 0, none⟩) n cap ∧ b ≤ g ∧ g < t ∧ Shp w g e cap ∧ n ≤ cap ∧ cap ≤ maxLen

theorem RowS.of {w w' : World} {b : Nat} {e : TypeId} {v : Value} {n : Nat} {xs : List Value} (h : w.ownsRow b e 1 v n xs) (hb : Below w.heap.size w w') : RowS w' b w.heap.size e v n := by
  rcases h.2 with h | ⟨g, cap, cur, hv, hg1, hg, hc, hm, hs, _⟩
  · exact .inl h
  · have hlt := (Array.getElem?_eq_some_iff.1 hg).1
    exact .inr ⟨g, cap, hv, hg1, hlt, ⟨cur, by rw [hb.block g hlt]; exact hg, by omega⟩, hc, hm⟩

theorem RowS.spl {w w' : World} {b t b' t' : Nat} {e : TypeId} {v : Value} {n : Nat} (h : RowS w b t e v n) (hs : Spl b' t' w w') : RowS w' b t e v n := by
  rcases h with h | ⟨g, cap, hv, h1, h2, h3, h4⟩
  · exact .inl h
  · exact .inr ⟨g, cap, hv, h1, h2, hs.shape _ _ _ h3, h4⟩

theorem RowS.form {w : World} {b t : Nat} {e : TypeId} {v : Value} {n : Nat} (h : RowS w b t e v n) : ∃ ao cap, v = .slice ao n cap ∧ n ≤ cap ∧ cap ≤ maxLen := by
  rcases h with ⟨rfl, rfl⟩ | ⟨g, cap, rfl, _, _, _, h4, h5⟩
  · exact ⟨_, _, rfl, Nat.le_refl _, Nat.zero_le _⟩
  · exact ⟨_, _, rfl, h4, h5⟩

theorem RowS.at {w : World} {b t : Nat} {e : TypeId} {ao : Option Addr} {n cap : Nat} (h : RowS w b t e (.slice ao n cap) n) {k : Nat} (hk : k < n) :
    ∃ g, ao = some ⟨g, 0, none⟩ ∧ b ≤ g ∧ g < t ∧ Shp w g e cap := by
  rcases h with ⟨_, rfl⟩ | ⟨g, cap', hv, h1, h2, h3, _⟩
  · omega
  · simp only [Value.slice.injEq, true_and] at hv
    obtain ⟨rfl, rfl⟩ := hv
    exact ⟨g, rfl, h1, h2, h3⟩

theorem grown_of_below {w w' : World} (h : Below w.heap.size w w') (row : Option Nat) : w.grownBy w' row := ⟨h.os, h.tape, h.output, h.size, fun k hk _ => h.block k hk⟩

theorem Kp.of_map {w w' : World} {b : Nat} {es : Array MapEntry} {clock : Nat} (hg : w.grownBy w' (some b)) (hb : w.heap[b]? = some (.map es clock)) : Kp w w' := by
  refine ⟨hg.size, fun a v hv => ?_⟩
  have hlt := World.block_lt_of_cell? w a hv
  have hne : a.block ≠ b := by
    intro e
    simp [World.cell?, e, hb] at hv
  rw [World.cell?_of_block (hg.block a.block hlt (by simpa using hne))]
  exact hv

theorem grown_trans {a b c : World} {row : Option Nat} (h : a.grownBy b row) (k : b.grownBy c row) : a.grownBy c row :=
  ⟨k.os.trans h.os, k.tape.trans h.tape, k.output.trans h.output, Nat.le_trans h.size k.size, fun i hi hne => (k.block i (Nat.lt_of_lt_of_le hi h.size) hne).trans (h.block i hi hne)⟩

theorem laidOut : laidOutB Tryd.prog = true := by kernel_rfl

section
variable {P : Program} {w w' : World} {ops : Array Oper} {rest : List Oper} {o : Oper} {a : Act} {Q : Exit → Act → World → Prop}

theorem wpList_lookup_run (hg : o.guard = none) (m x : Operand) (t : TypeId) (c : Bool) (hop : o.op = Op.lookup t m x c) (mv kv r : Value) (hm : a.eval m = mv) (hx : a.eval x = kv) (hrun : (Instr.lookup t mv kv c).run P w = .ok r w)
    (h : wpList P ops Q rest (a.put o.dst r) w) : wpList P ops Q (o :: rest) a w := by
  refine wpList_plain hg fun K' hK' => ?_
  unfold Oper.wp
  simp [execOp, hop, hm, hx, hrun, Result.andThen]
  exact hK' _ _ h

theorem wpList_mapUpdate_run (hg : o.guard = none) (m x v : Operand) (t : TypeId) (hop : o.op = Op.mapUpdate t m x v) (mv kv vv : Value) (hm : a.eval m = mv) (hx : a.eval x = kv) (hv : a.eval v = vv) (hrun : (Instr.mapUpdate t mv kv vv).run P w = .ok () w')
    (h : wpList P ops Q rest (a.put o.dst undef) w') : wpList P ops Q (o :: rest) a w := by
  refine wpList_plain hg fun K' hK' => ?_
  unfold Oper.wp
  simp [execOp, hop, hm, hx, hv, hrun, Result.andThen]
  exact hK' _ _ h

end

theorem ret1i {k : IntKind} {a b : Int} (h : a = b) : Ending.returned (.int k a) = .returned (.int k b) := by rw [h]

theorem ret1b {a b : Bool} (h : a = b) : Ending.returned (.bool a) = .returned (.bool b) := by rw [h]

end Go.Proofs.YtelacmijkbgliaaDoor

/- What firstTerm and checkRow answer. -/
namespace Go.Proofs.YtelacmijkbgliaaDoor
open Go.RowKit Go.Maps

/-- A symbol: its name and its arity. -/
abbrev Sy := ByteArray × Int

/-- A symbol at an address. -/
def ES (w : World) (g o : Nat) (s : Sy) : Prop := -9223372036854775808 ≤ s.2 ∧ s.2 ≤ 9223372036854775807 ∧ s.1.size ≤ maxLen ∧ w.cell? ⟨g, o, none⟩ = some (.string s.1) ∧ w.cell? ⟨g, o + 1, none⟩ = some (.int .i64 s.2)

theorem ES.kp {w w' : World} (hk : Kp w w') (g o : Nat) (s : Sy) (h : ES w g o s) : ES w' g o s := ⟨h.1, h.2.1, h.2.2.1, hk.cell _ _ h.2.2.2.1, hk.cell _ _ h.2.2.2.2⟩

/-- A signature. -/
def Sg (w : World) (v : Value) (sig : List Sy) : Prop := Row ES 2 w v sig
theorem Sg.kp {w w' : World} {v : Value} {sig : List Sy} (h : Sg w v sig) (hk : Kp w w') : Sg w' v sig := Row.imp h hk.size (ES.kp hk)

theorem Sg.at {w : World} {ao : Option Addr} {n cap : Nat} {sig : List Sy} (h : Sg w (.slice ao n cap) sig) {k : Nat} (hk : k < sig.length) :
    ∃ g off s a, ao = some ⟨g, off, none⟩ ∧ sig[k]? = some (s, a) ∧ w.cell? ⟨g, off + k * 2, none⟩ = some (.string s) ∧ w.cell? ⟨g, off + k * 2 + 1, none⟩ = some (.int .i64 a) ∧ -9223372036854775808 ≤ a ∧ a ≤ 9223372036854775807 ∧ s.size ≤ 9223372036854775807 := by
  obtain ⟨ao', cap', hv, _, _, hx⟩ := Row.flat h
  simp only [Value.slice.injEq] at hv
  obtain ⟨rfl, rfl, rfl⟩ := hv
  obtain ⟨g, off, ⟨s, a⟩, rfl, hm, h1, h2, h3, h4, h5⟩ := hx k hk
  unfold maxLen at h3
  exact ⟨g, off, s, a, rfl, hm, h4, h5, h1, h2, by simp only at h3; omega⟩

def ArOk (sig : List Sy) : Prop := ∀ s ∈ sig, 0 ≤ s.2 ∧ s.2 ≤ 1000

/-- How much a code changes what is missing; none: the code is wrong. -/
def codeD (sig : List Sy) (c : Int) : Option Int := if c < -1048576 then none else if c < 0 then some (-1) else match sig[c.toNat]? with | none => none | some s => some (s.2 - 1)

/-- The nodes of the term with which a row begins, and the error. -/
def firstT (sig : List Sy) : Int → Nat → List Int → Int × Int
  | _, _, [] => (0, 31)
  | m, i, c :: r => match codeD sig c with | none => (0, 30) | some e => if m + e = 0 then ((i : Int) + 1, 0) else firstT sig (m + e) (i + 1) r

theorem codeD_none {sig : List Sy} {c : Int} (h : (sig.length : Int) ≤ c ∨ c < -1048576) : codeD sig c = none := by
  unfold codeD
  rcases h with h | h
  · rw [if_neg (by omega), if_neg (by omega), List.getElem?_eq_none (by omega)]
  · rw [if_pos h]

theorem codeD_var {sig : List Sy} {c : Int} (h1 : -1048576 ≤ c) (h2 : c < 0) : codeD sig c = some (-1) := by
  unfold codeD
  rw [if_neg (by omega), if_pos h2]

theorem codeD_sym {sig : List Sy} {c : Nat} {s : Sy} (h : sig[c]? = some s) : codeD sig (c : Int) = some (s.2 - 1) := by
  unfold codeD
  rw [if_neg (by omega), if_neg (by omega), Int.toNat_natCast, h]

set_option maxRecDepth 100000 in
set_option maxHeartbeats 1600000 in
theorem firstTerm_any (sv v : Value) (sig : List Sy) (t : List Int) (w : World) (hs : Sg w sv sig) (h : Is w v t) (ha : ArOk sig) (hb : t.length * 8 ≤ 140737488351232) :
    Calls Tryd.prog 73 #[sv, v] w fun e w' => e = .returned (.tuple #[.int .i64 (firstT sig 1 0 t).1, .int .i64 (firstT sig 1 0 t).2]) ∧ w' = w := by
  obtain ⟨so, sc, rfl, hso, hsc, _⟩ := Row.flat hs
  obtain ⟨ao, cap, rfl, hao, hca, q0⟩ := Row.flat h
  unfold maxLen at hca hsc
  have HS : Hid (Sg w (.slice so sig.length sc) sig) := hs
  have HT : Hid (Is w (.slice ao t.length cap) t) := h
  have HA : Hid (ArOk sig) := ha
  clear hs h q0 ha
  go_enter Tryd.func73, Tryd.ntmps73
  go_wp2
  go_loopw [6, 11] (fun x i wr => ∃ (k : Nat) (m : Int), k ≤ t.length ∧ x = .int .i64 m ∧ i = .int .i64 k ∧ firstT sig 1 0 t = firstT sig m k (t.drop k) ∧ -(k : Int) ≤ m ∧ m ≤ 1 + 1000 * (k : Int) ∧ wr = w) (fun _ i _ => t.length - (intOf i).toNat)
  case atStart => exact ⟨0, 1, Nat.zero_le _, rfl, rfl, rfl, by omega, by omega, rfl⟩
  case round =>
    obtain ⟨k, m, hk, rfl, rfl, hft, hm1, hm2, hw⟩ := hrel
    have hw8 := hw.symm
    subst hw8
    have HF : Hid (firstT sig 1 0 t = firstT sig m k (t.drop k)) := hft
    clear hft hw
    by_cases hlt : k < t.length
    · obtain ⟨g, off, c, rfl, hx1, hx2, hx3, hx4⟩ := HT.out.at hlt
      have HD : Hid (t.drop k = c :: t.drop (k + 1)) := drop_get hx1
      clear hx1
      by_cases hbad : (sig.length : Int) ≤ c ∨ c < -1048576
      · have HR : Hid (firstT sig 1 0 t = (0, 30)) := by show _ = _; rw [HF.out, HD.out, firstT, codeD_none hbad]
        rcases hbad with hbad | hbad
        · go_wp2
          go_ret2
          exact ⟨by rw [HR.out]; rfl, rfl⟩
        · by_cases hbad2 : (sig.length : Int) ≤ c
          · omega
          · go_wp2
            go_ret2
            exact ⟨by rw [HR.out]; rfl, rfl⟩
      · have hb1 : ¬ (sig.length : Int) ≤ c := fun h => hbad (.inl h)
        have hb2 : ¬ c < -1048576 := fun h => hbad (.inr h)
        clear hbad
        by_cases hc0 : c < 0
        · have hcd : codeD sig c = some (-1) := codeD_var (by omega) hc0
          have hwm : IntKind.i64.wrap (m - 1) = m - 1 := IntWalk.i64_in _ ⟨by omega, by omega⟩
          by_cases hz : m - 1 = 0
          · have HR : Hid (firstT sig 1 0 t = ((k : Int) + 1, 0)) := by show _ = _; rw [HF.out, HD.out, firstT, hcd]; simp only; rw [if_pos (by omega)]
            have hzb : (m - 1 == 0) = true := by rw [beq_iff_eq]; exact hz
            clear hcd
            go_wp2
            go_ret2
            exact ⟨by rw [HR.out]; rfl, rfl⟩
          · have HN : Hid (firstT sig 1 0 t = firstT sig (m - 1) (k + 1) (t.drop (k + 1))) := by show _ = _; rw [HF.out, HD.out, firstT, hcd]; simp only; rw [if_neg (by omega)]; rfl
            have hzb : (m - 1 == 0) = false := by rw [beq_eq_false_iff_ne]; exact hz
            clear hcd
            go_wp2
            go_roundw
            case rel => exact ⟨k + 1, m - 1, by omega, rfl, by go_num, HN.out, by omega, by omega, trivial⟩
            case measure => simp [intOf]; omega
        · obtain ⟨cn, rfl⟩ : ∃ cn : Nat, c = cn := ⟨c.toNat, by omega⟩
          obtain ⟨g2, off2, nm, ar, rfl, hs1, hs2, hs3, hs4, hs5, hs6⟩ := HS.out.at (k := cn) (by omega)
          have har := HA.out _ (List.mem_of_getElem? hs1)
          simp only at har
          have hcd : codeD sig (cn : Int) = some (ar - 1) := codeD_sym hs1
          have hwa : IntKind.i64.wrap (ar - 1) = ar - 1 := IntWalk.i64_in _ ⟨by omega, by omega⟩
          have hwm : IntKind.i64.wrap (m + (ar - 1)) = m + (ar - 1) := IntWalk.i64_in _ ⟨by omega, by omega⟩
          have hcl : cn < sig.length := by omega
          clear hs1
          by_cases hz : m + (ar - 1) = 0
          · have HR : Hid (firstT sig 1 0 t = ((k : Int) + 1, 0)) := by show _ = _; rw [HF.out, HD.out, firstT, hcd]; simp only; rw [if_pos (by omega)]
            have hzb : (m + (ar - 1) == 0) = true := by rw [beq_iff_eq]; exact hz
            clear hcd
            go_wp2
            go_ret2
            exact ⟨by rw [HR.out]; rfl, rfl⟩
          · have HN : Hid (firstT sig 1 0 t = firstT sig (m + (ar - 1)) (k + 1) (t.drop (k + 1))) := by show _ = _; rw [HF.out, HD.out, firstT, hcd]; simp only; rw [if_neg (by omega)]
            have hzb : (m + (ar - 1) == 0) = false := by rw [beq_eq_false_iff_ne]; exact hz
            clear hcd
            go_wp2
            go_roundw
            case rel => exact ⟨k + 1, m + (ar - 1), by omega, rfl, by go_num, HN.out, by omega, by omega, trivial⟩
            case measure => simp [intOf]; omega
    · have HR : Hid (firstT sig 1 0 t = (0, 31)) := by show _ = _; rw [HF.out, List.drop_of_length_le (by omega)]; rfl
      go_wp2
      go_ret2
      exact ⟨by rw [HR.out]; rfl, rfl⟩

/-- Check, of a signature that may be. -/
def rowE (sig : List Sy) (t : List Int) : Int := if (firstT sig 1 0 t).2 = 0 ∧ (firstT sig 1 0 t).1 < (t.length : Int) then 32 else (firstT sig 1 0 t).2

set_option maxRecDepth 100000 in
set_option maxHeartbeats 800000 in
theorem checkRow_any (sv v : Value) (sig : List Sy) (t : List Int) (w : World) (hs : Sg w sv sig) (h : Is w v t) (ha : ArOk sig) (hb : t.length * 8 ≤ 140737488351232) :
    Calls Tryd.prog 53 #[sv, v] w fun e w' => e = .returned (.int .i64 (rowE sig t)) ∧ w' = w := by
  obtain ⟨ao, cap, rfl, hao, hca, q0⟩ := Row.flat h
  unfold maxLen at hca
  have HS : Hid (Sg w sv sig) := hs
  have HT : Hid (Is w (.slice ao t.length cap) t) := h
  clear hs h q0
  go_enter Tryd.func53, Tryd.ntmps53
  go_wp2_with fail
  refine (firstTerm_any sv _ sig t _ HS.out HT.out ha hb).mono ?_
  rintro e w1 ⟨rfl, hw⟩
  have hw8 := hw.symm
  subst hw8
  obtain ⟨N, hN⟩ : ∃ N, N = (firstT sig 1 0 t).1 := ⟨_, rfl⟩
  obtain ⟨E, hE⟩ : ∃ E, E = (firstT sig 1 0 t).2 := ⟨_, rfl⟩
  have HR : Hid (rowE sig t = if E = 0 ∧ N < (t.length : Int) then 32 else E) := by show _ = _; unfold rowE; rw [← hN, ← hE]
  rw [← hN, ← hE]
  clear hN hE hw
  by_cases h0 : E = 0
  · subst h0
    by_cases h1 : N < (t.length : Int)
    · have HF : Hid (rowE sig t = 32) := by show _ = _; rw [HR.out, if_pos ⟨rfl, h1⟩]
      go_wp2
      go_ret
      exact ⟨ret1i HF.out.symm, rfl⟩
    · have HF : Hid (rowE sig t = 0) := by show _ = _; rw [HR.out, if_neg (fun hh => h1 hh.2)]
      go_wp2
      go_ret
      exact ⟨ret1i HF.out.symm, rfl⟩
  · have hb0 : (E == 0) = false := by rw [beq_eq_false_iff_ne]; exact h0
    have HF : Hid (rowE sig t = E) := by show _ = _; rw [HR.out, if_neg (fun hh => h0 hh.1)]
    go_wp2
    go_ret
    exact ⟨ret1i HF.out.symm, rfl⟩

end Go.Proofs.YtelacmijkbgliaaDoor

/- What isName answers. -/
namespace Go.Proofs.YtelacmijkbgliaaDoor
open Go.RowKit Go.Maps

def letB (r : Int) : Bool := (decide (97 ≤ r) && decide (r ≤ 122)) || (decide (65 ≤ r) && decide (r ≤ 90)) || decide (128 ≤ r)
def folB (r : Int) : Bool := (decide (48 ≤ r) && decide (r ≤ 57)) || decide (r = 95) || decide (r = 39)

set_option maxRecDepth 100000 in
theorem isLetter_any (r : Int) (w : World) : Calls Tryd.prog 101 #[.int .i32 r] w fun e w' => e = .returned (.bool (letB r)) ∧ w' = w := by
  obtain ⟨B, hB⟩ : ∃ B, B = letB r := ⟨_, rfl⟩
  rw [← hB]
  have HB : Hid (B = letB r) := hB
  clear hB
  go_enter Tryd.func101, Tryd.ntmps101
  by_cases h1 : 97 ≤ r
  · by_cases h2 : r ≤ 122
    · have HF : Hid (B = true) := by show _ = _; rw [HB.out]; unfold letB; simp [h1, h2]
      clear HB
      go_wp2
      go_ret
      exact ⟨ret1b HF.out.symm, rfl⟩
    · have HF : Hid (B = decide (128 ≤ r)) := by show _ = _; rw [HB.out]; unfold letB; rw [decide_eq_false h2, decide_eq_false (show ¬ r ≤ 90 by omega)]; simp
      clear HB
      have h3 : 65 ≤ r := by omega
      have h4 : ¬ r ≤ 90 := by omega
      go_wp2
      go_ret
      exact ⟨ret1b HF.out.symm, rfl⟩
  · by_cases h3 : 65 ≤ r
    · by_cases h4 : r ≤ 90
      · have HF : Hid (B = true) := by show _ = _; rw [HB.out]; unfold letB; simp [h3, h4]
        clear HB
        go_wp2
        go_ret
        exact ⟨ret1b HF.out.symm, rfl⟩
      · have HF : Hid (B = decide (128 ≤ r)) := by show _ = _; rw [HB.out]; unfold letB; rw [decide_eq_false h1, decide_eq_false h4]; simp
        clear HB
        go_wp2
        go_ret
        exact ⟨ret1b HF.out.symm, rfl⟩
    · have HF : Hid (B = decide (128 ≤ r)) := by show _ = _; rw [HB.out]; unfold letB; rw [decide_eq_false h1, decide_eq_false h3]; simp
      clear HB
      go_wp2
      go_ret
      exact ⟨ret1b HF.out.symm, rfl⟩

set_option maxRecDepth 100000 in
theorem followsLetter_any (r : Int) (w : World) : Calls Tryd.prog 102 #[.int .i32 r] w fun e w' => e = .returned (.bool (folB r)) ∧ w' = w := by
  obtain ⟨B, hB⟩ : ∃ B, B = folB r := ⟨_, rfl⟩
  rw [← hB]
  have HB : Hid (B = folB r) := hB
  clear hB
  go_enter Tryd.func102, Tryd.ntmps102
  by_cases h1 : 48 ≤ r
  · by_cases h2 : r ≤ 57
    · have HF : Hid (B = true) := by show _ = _; rw [HB.out]; unfold folB; simp [h1, h2]
      clear HB
      go_wp2
      go_ret
      exact ⟨ret1b HF.out.symm, rfl⟩
    · by_cases h3 : r = 95
      · have HF : Hid (B = true) := by show _ = _; rw [HB.out]; unfold folB; simp [h3]
        have h3b : (r == 95) = true := by rw [beq_iff_eq]; exact h3
        clear HB
        go_wp2
        go_ret
        exact ⟨ret1b HF.out.symm, rfl⟩
      · have HF : Hid (B = decide (r = 39)) := by show _ = _; rw [HB.out]; unfold folB; rw [decide_eq_false h2, decide_eq_false h3]; simp
        have h3b : (r == 95) = false := by rw [beq_eq_false_iff_ne]; exact h3
        clear HB
        go_wp2
        go_ret
        exact ⟨ret1b (by rw [HF.out]; rfl), rfl⟩
  · by_cases h3 : r = 95
    · omega
    · have HF : Hid (B = decide (r = 39)) := by show _ = _; rw [HB.out]; unfold folB; rw [decide_eq_false h1, decide_eq_false h3]; simp
      have h3b : (r == 95) = false := by rw [beq_eq_false_iff_ne]; exact h3
      clear HB
      go_wp2
      go_ret
      exact ⟨ret1b (by rw [HF.out]; rfl), rfl⟩

theorem width_pos (s : ByteArray) (pos : Nat) (h : pos < s.size) : 1 ≤ (Utf8.decode s pos).2 := by
  by_cases ha : (s[pos]'h).toNat < 128
  · rw [decode_ascii s pos h ha]
    exact Nat.le_refl _
  · exact (decode_high s pos h (by omega)).2

/-- Whether the runes from a place on may stand in a name. -/
def nmGo (s : ByteArray) : Nat → Nat → Bool
  | 0, _ => true
  | b + 1, pos => if pos < s.size then (letB (Utf8.decode s pos).1 || (!decide (pos = 0) && folB (Utf8.decode s pos).1)) && nmGo s b (pos + (Utf8.decode s pos).2) else true

theorem nmGo_end (s : ByteArray) (b pos : Nat) (h : ¬ pos < s.size) : nmGo s b pos = true := by
  cases b with
  | zero => rfl
  | succ b => simp [nmGo, h]

def nameB (B : Bool) (s : ByteArray) : Bool := !decide (s.size = 0) && (!decide (32 < s.size) && (B && nmGo s s.size 0))

theorem below_iter (w : World) (s : ByteArray) (pos : Nat) : Below w.heap.size w (w.iter s pos) := below_alloc _

set_option maxRecDepth 1000000 in
set_option maxHeartbeats 1600000 in
theorem isName_any (B : Bool) (s : ByteArray) (w : World) (hs : s.size ≤ 9223372036854775807) (hV : Calls Tryd.prog 100 #[.string s] w fun e w' => e = .returned (.bool B) ∧ Below w.heap.size w w') :
    Calls Tryd.prog 85 #[.string s] w fun e w' => e = .returned (.bool (nameB B s)) ∧ Below w.heap.size w w' := by
  have HV : Hid (Calls Tryd.prog 100 #[.string s] w fun e w' => e = .returned (.bool B) ∧ Below w.heap.size w w') := hV
  clear hV
  go_enter Tryd.func85, Tryd.ntmps85
  by_cases h0 : s.size = 0
  · have he : s.toList.isEmpty = true := by
      have hl : s.toList.length = 0 := by rw [← h0]; simp [ByteArray.toList_eq]
      rw [List.length_eq_zero_iff.mp hl]; rfl
    have HF : Hid (nameB B s = false) := by show _ = _; unfold nameB; rw [decide_eq_true h0]; rfl
    go_wp2
    go_ret
    exact ⟨ret1b HF.out.symm, Below.refl _ _⟩
  · have he : s.toList.isEmpty = false := by
      cases hl : s.toList with
      | nil => exact absurd (by have := congrArg List.length hl; simpa [ByteArray.toList_eq] using this) h0
      | cons a l => rfl
    by_cases h32 : 32 < s.size
    · have HF : Hid (nameB B s = false) := by show _ = _; unfold nameB; rw [decide_eq_true h32]; simp
      go_wp2
      go_ret
      exact ⟨ret1b HF.out.symm, Below.refl _ _⟩
    · go_wp2_with fail
      refine HV.out.mono ?_
      rintro e w1 ⟨rfl, hb1⟩
      have HB1 : Hid (Below w.heap.size w w1) := hb1
      clear hb1
      cases B
      · have HF : Hid (nameB false s = false) := by show _ = _; unfold nameB; simp
        go_wp2
        go_ret
        exact ⟨ret1b HF.out.symm, HB1.out⟩
      · have HF : Hid (nameB true s = nmGo s s.size 0) := by show _ = _; unfold nameB; rw [decide_eq_false h0, decide_eq_false h32]; rfl
        go_wp2
        go_loopw [] (fun w' => ∃ (pos b : Nat), w' = w1.iter s pos ∧ nmGo s s.size 0 = nmGo s b pos ∧ s.size ≤ pos + b) (fun w' => s.size - w'.iterPos w1.heap.size)
        case atStart => exact ⟨0, s.size, rfl, rfl, by omega⟩
        case round =>
          obtain ⟨pos, b, rfl, hc, hb⟩ := hrel
          have HC : Hid (nmGo s s.size 0 = nmGo s b pos) := hc
          clear hc
          by_cases hp : pos < s.size
          · have hnx : ∀ ty, (Instr.next (.pointer (some ⟨w1.heap.size, 0, none⟩)) true ty).run Tryd.prog (w1.iter s pos) = _ := fun ty => run_next_any w1 s pos ty hp
            have hwd := width_pos s pos hp
            obtain ⟨b', rfl⟩ : ∃ b', b = b' + 1 := ⟨b - 1, by omega⟩
            obtain ⟨r, hr⟩ : ∃ r : Nat, r = (Utf8.decode s pos).1 := ⟨_, rfl⟩
            obtain ⟨wd, hwd2⟩ : ∃ wd : Nat, wd = (Utf8.decode s pos).2 := ⟨_, rfl⟩
            have HS : Hid (nmGo s s.size 0 = ((letB (r : Int) || (!decide (pos = 0) && folB (r : Int))) && nmGo s b' (pos + wd))) := by
              show _ = _
              rw [HC.out, nmGo, if_pos hp, ← hr, ← hwd2]
            rw [← hwd2] at hwd
            have HFi : Hid (s.size ≤ pos + wd + b') := by show _ ≤ _; omega
            rw [← hr, ← hwd2] at hnx
            clear hr hwd2 HC
            go_wp2_with fail
            refine (isLetter_any (r : Int) _).mono ?_
            rintro e w9 ⟨rfl, hw9⟩
            have hw8 := hw9.symm
            subst hw8
            clear hw9 hnx
            cases hL : letB (r : Int)
            · by_cases hp0 : pos = 0
              · have HFF : Hid (nameB true s = false) := by show _ = _; rw [HF.out, HS.out, hL, decide_eq_true hp0]; rfl
                subst hp0
                go_wp2
                go_ret
                exact ⟨ret1b HFF.out.symm, below_step HB1.out (below_iter _ _ _)⟩
              · have hp0b : ((pos : Int) == 0) = false := by rw [beq_eq_false_iff_ne]; omega
                go_wp2_with fail
                refine (followsLetter_any (r : Int) _).mono ?_
                rintro e w9 ⟨rfl, hw9⟩
                have hw8 := hw9.symm
                subst hw8
                clear hw9
                cases hFo : folB (r : Int)
                · have HFF : Hid (nameB true s = false) := by show _ = _; rw [HF.out, HS.out, hL, hFo]; simp
                  go_wp2
                  go_ret
                  exact ⟨ret1b HFF.out.symm, below_step HB1.out (below_iter _ _ _)⟩
                · have HN : Hid (nmGo s s.size 0 = nmGo s b' (pos + wd)) := by show _ = _; rw [HS.out, hL, hFo, decide_eq_false hp0]; rfl
                  go_wp2
                  go_roundw
                  case rel => exact ⟨pos + wd, b', rfl, HN.out, HFi.out⟩
                  case measure => simp; omega
            · have HN : Hid (nmGo s s.size 0 = nmGo s b' (pos + wd)) := by show _ = _; rw [HS.out, hL]; rfl
              go_wp2
              go_roundw
              case rel => exact ⟨pos + wd, b', rfl, HN.out, HFi.out⟩
              case measure => simp; omega
          · have HFF : Hid (nameB true s = true) := by show _ = _; rw [HF.out, HC.out, nmGo_end s b pos hp]
            have hnx : ∀ ty, (Instr.next (.pointer (some ⟨w1.heap.size, 0, none⟩)) true ty).run Tryd.prog (w1.iter s pos) = _ := fun ty => run_next_end w1 s pos ty hp
            go_wp2
            go_ret
            exact ⟨ret1b HFF.out.symm, below_step HB1.out (below_iter _ _ _)⟩

end Go.Proofs.YtelacmijkbgliaaDoor

/- The library's functions that term reaches, laid at this program. -/
namespace Go.Proofs
open Go.Shelf Go.RowKit Go.Lib

/- 86 -/
def Tryd.trimLay_ren : Go.Shelf.Ren := ⟨fun | 102 => 86 | 209 => 103 | 207 => 112 | n => n, fun | 9 => 9 | 4 => 4 | 3 => 3 | n => n, fun | n => n⟩
theorem Tryd.trimLay : Go.Proofs.Lays.n102 Tryd.prog Tryd.trimLay_ren := {
  mixed := by kernel_rfl
  f102 := Tryd.func86.trans (congrArg some (by kernel_rfl))
  f207 := Tryd.func112.trans (congrArg some (by kernel_rfl))
  f209 := Tryd.func103.trans (congrArg some (by kernel_rfl))
  t3 := Tryd.underlying3
  a3 := Tryd.isAgg3
  z3 := Tryd.sizeOf3
  v3 := Tryd.zeroValue3
  t4 := Tryd.underlying4
  a4 := Tryd.isAgg4
  z4 := Tryd.sizeOf4
  v4 := Tryd.zeroValue4
  t9 := Tryd.underlying9
  a9 := Tryd.isAgg9
  z9 := Tryd.sizeOf9
  v9 := Tryd.zeroValue9 }

/- 100 -/
def Tryd.validLay_ren : Go.Shelf.Ren := ⟨fun | 196 => 100 | 259 => 111 | n => n, fun | 9 => 9 | 4 => 4 | 3 => 3 | 5 => 5 | 12 => 12 | 119 => 146 | 0 => 0 | 46 => 122 | 139 => 149 | 138 => 148 | 53 => 137 | n => n, fun | 3 => 0 | 4 => 1 | n => n⟩
theorem Tryd.validLay : Go.Proofs.Lays.n196 Tryd.prog Tryd.validLay_ren := {
  mixed := by kernel_rfl
  f196 := Tryd.func100.trans (congrArg some (by kernel_rfl))
  f259 := Tryd.func111.trans (congrArg some (by kernel_rfl))
  t0 := Tryd.underlying0
  a0 := Tryd.isAgg0
  z0 := Tryd.sizeOf0
  v0 := Tryd.zeroValue0
  t3 := Tryd.underlying3
  a3 := Tryd.isAgg3
  z3 := Tryd.sizeOf3
  v3 := Tryd.zeroValue3
  t4 := Tryd.underlying4
  a4 := Tryd.isAgg4
  z4 := Tryd.sizeOf4
  v4 := Tryd.zeroValue4
  t5 := Tryd.underlying5
  a5 := Tryd.isAgg5
  z5 := Tryd.sizeOf5
  v5 := Tryd.zeroValue5
  t9 := Tryd.underlying9
  a9 := Tryd.isAgg9
  z9 := Tryd.sizeOf9
  v9 := Tryd.zeroValue9
  t12 := Tryd.underlying12
  a12 := Tryd.isAgg12
  z12 := Tryd.sizeOf12
  v12 := Tryd.zeroValue12
  t46 := Tryd.underlying122
  a46 := Tryd.isAgg122
  z46 := Tryd.sizeOf122
  v46 := Tryd.zeroValue122
  t53 := Tryd.underlying137
  a53 := Tryd.isAgg137
  z53 := Tryd.sizeOf137
  v53 := Tryd.zeroValue137
  t119 := Tryd.underlying146
  a119 := Tryd.isAgg146
  z119 := Tryd.sizeOf146
  t138 := Tryd.underlying148
  a138 := Tryd.isAgg148
  z138 := Tryd.sizeOf148
  v138 := Tryd.zeroValue148
  t139 := Tryd.underlying149
  a139 := Tryd.isAgg149
  z139 := Tryd.sizeOf149
  v139 := Tryd.zeroValue149
  g3 := by kernel_rfl
  g4 := by kernel_rfl }

def Tryd.hasLay_ren : Go.Shelf.Ren := ⟨fun | 8 => 87 | 6 => 104 | n => n, fun | 22 => 22 | 23 => 62 | 25 => 125 | 4 => 4 | 3 => 3 | 0 => 0 | n => n, fun | n => n⟩
theorem Tryd.hasLay : Go.Proofs.SlLaysH0.n8 Tryd.prog Tryd.hasLay_ren := {
  mixed := by kernel_rfl
  f6 := ⟨Tryd.f104.name, by decide, Tryd.func104.trans (congrArg some (by kernel_rfl))⟩
  f8 := ⟨Tryd.f87.name, by decide, Tryd.func87.trans (congrArg some (by kernel_rfl))⟩
  t0 := Tryd.underlying0
  a0 := Tryd.isAgg0
  z0 := Tryd.sizeOf0
  v0 := Tryd.zeroValue0
  t3 := Tryd.underlying3
  a3 := Tryd.isAgg3
  z3 := Tryd.sizeOf3
  v3 := Tryd.zeroValue3
  t4 := Tryd.underlying4
  a4 := Tryd.isAgg4
  z4 := Tryd.sizeOf4
  v4 := Tryd.zeroValue4
  t22 := Tryd.underlying22
  a22 := Tryd.isAgg22
  z22 := Tryd.sizeOf22
  v22 := Tryd.zeroValue22
  t25 := Tryd.underlying125
  a25 := Tryd.isAgg125
  z25 := Tryd.sizeOf125
  v25 := Tryd.zeroValue125 }

end Go.Proofs

namespace Go.Proofs.YtelacmijkbgliaaDoor
open Go.RowKit Go.Maps

/- 100 -/
def Tabs (w : World) : Prop := Lib.Utf8Tabs (Tryd.validLay_ren.g 3) (Tryd.validLay_ren.g 4) w

theorem valid_any (s : ByteArray) (w : World) (hs : s.size ≤ 9223372036854775807) (hT : Tabs w) :
    Calls Tryd.prog 100 #[.string s] w fun e w' => e = .returned (.bool (Lib.validD s.data.toList)) ∧ Below w.heap.size w w' := Any.utf8_ValidString Tryd.validLay s w hs hT

/-- A name without its mark. -/
def bare (s : ByteArray) : ByteArray := ⟨(Lib.trimSuffix s.data.toList "#".toUTF8.data.toList).toArray⟩

def symB (s : ByteArray) : Bool := nameB (Lib.validD (bare s).data.toList) (bare s)

theorem bare_size (s : ByteArray) : (bare s).size ≤ s.size := by
  show (Lib.trimSuffix s.data.toList _).toArray.size ≤ s.data.size
  unfold Lib.trimSuffix
  split
  · simp only [List.size_toArray, List.length_take, Array.length_toList]; omega
  · simp

set_option maxRecDepth 100000 in
theorem isSymbolName_any (s : ByteArray) (w : World) (hs : s.size ≤ 9223372036854775807) (hT : Tabs w) :
    Calls Tryd.prog 71 #[.string s] w fun e w' => e = .returned (.bool (symB s)) ∧ Below w.heap.size w w' := by
  have cT : Calls Tryd.prog 86 #[.string s, .string "#".toUTF8] w fun e w' => e = .returned (.string (bare s)) ∧ w' = w := Any.strings_TrimSuffix Tryd.trimLay s "#".toUTF8 w hs
  have hb := bare_size s
  have cN := isName_any (Lib.validD (bare s).data.toList) (bare s) w (by omega) (valid_any _ w (by omega) hT)
  have HT : Hid (Calls Tryd.prog 86 #[.string s, .string "#".toUTF8] w fun e w' => e = .returned (.string (bare s)) ∧ w' = w) := cT
  have HN : Hid (Calls Tryd.prog 85 #[.string (bare s)] w fun e w' => e = .returned (.bool (symB s)) ∧ Below w.heap.size w w') := cN
  clear cT cN hb
  generalize bare s = b at HT HN
  generalize symB s = B at HN ⊢
  go_enter Tryd.func71, Tryd.ntmps71
  go_wp2_with fail
  refine HT.out.mono ?_
  rintro e w9 ⟨rfl, hw9⟩
  have hw8 := hw9.symm
  subst hw8
  clear hw9
  go_wp2_with fail
  refine HN.out.mono ?_
  rintro e w9 ⟨rfl, hb9⟩
  go_wp2
  go_ret
  exact ⟨rfl, hb9⟩

end Go.Proofs.YtelacmijkbgliaaDoor

/- What hasName, CheckSig and Check answer. -/
namespace Go.Proofs.YtelacmijkbgliaaDoor
open Go.RowKit Go.Maps Go.BigFrame

theorem hid {p : Prop} (h : p) : Hid p := h

theorem box2 {w w1 : World} {x y : Value} {t : TypeId} (hb : Below (w.alloc (.cells #[x, y] t)).heap.size (w.alloc (.cells #[x, y] t)) w1) :
    w1.cell? ⟨w.heap.size, 0, none⟩ = some x ∧ w1.cell? ⟨w.heap.size, 1, none⟩ = some y ∧ Below w.heap.size w w1 :=
  ⟨(hb.cell (p := ⟨w.heap.size, 0, none⟩) (by simp)).trans (by simp), (hb.cell (p := ⟨w.heap.size, 1, none⟩) (by simp)).trans (by simp), below_step (below_alloc _) hb⟩

theorem region_below {P : Program} {id : Nat} {Q : Exit → Act → World → Prop} {a : Act} {w : World} {l : List Oper} (hm : P.follows .mixedOrders = true) (hB : Region.lexB .any l.toArray = true)
    (h : wpQuiet P l.toArray (fun w' => Below w.heap.size w w') (fun a' => ∀ w', Below w.heap.size w w' → Q .normal a' w') l a) : (Code.region id l.toArray true).wp P Q a w :=
  wp_region_quiet (C := fun w' => Below w.heap.size w w') hm hB (Below.refl _ _).drew (by simpa using h)

/-- A symbol's cells. -/
def encS (s : Sy) : List Value := [.string s.1, .int .i64 s.2]

def sameS (a b : ByteArray) : Bool := a.toList == b.toList

theorem hasClosure (nm : ByteArray) (B : Nat) (w : World) (hB : B < w.heap.size) (hcell : w.cell? ⟨B, 0, none⟩ = some (.string nm)) :
    PredBelow Tryd.prog 88 #[.pointer (some ⟨B, 0, none⟩)] (fun x => .agg (encS x).toArray) (fun x => sameS x.1 nm) w := fun W x hb => by
  have hc : W.cell? ⟨B, 0, none⟩ = some (.string nm) := (hb.cell (p := ⟨B, 0, none⟩) hB).trans hcell
  have hBW : B < W.heap.size := Nat.lt_of_lt_of_le hB hb.size
  have hne : B ≠ W.heap.size := by omega
  show Calls Tryd.prog 88 #[.agg #[.string x.1, .int .i64 x.2], .pointer (some ⟨B, 0, none⟩)] W _
  go_enter Tryd.func88, Tryd.ntmps88
  go_wp2
  all_goals (go_ret; exact ⟨rfl, hb.alloc hb.size _⟩)

def hasB (sig : List Sy) (nm : ByteArray) : Bool := sig.any fun x => sameS x.1 nm

set_option maxRecDepth 100000 in
set_option maxHeartbeats 1000000 in
theorem hasName_any (g off cap : Nat) (n : Nat) (sig : List Sy) (nm : ByteArray) (w : World) (hs : Sg w (.slice (some ⟨g, off, none⟩) sig.length cap) sig) (hn : n ≤ sig.length) (hl : 0 < sig.length) :
    Calls Tryd.prog 72 #[.slice (some ⟨g, off, none⟩) n cap, .string nm] w fun e w' => e = .returned (.bool (hasB (sig.take n) nm)) ∧ Below w.heap.size w w' := by
  have eg : ∀ args w, (callFunc 88 args).run Tryd.prog w = .ok (.enter 88 args) w := enters_of Tryd.func88 (by kernel_rfl) rfl
  obtain ⟨so, sc, hv, _, hsc, _⟩ := Row.flat hs
  have hg : g < w.heap.size := by
    obtain ⟨g', off', s, a, he, _, hc, _⟩ := Sg.at hs hl
    simp only [Option.some.injEq, Addr.mk.injEq] at he
    obtain ⟨rfl, _⟩ := he
    exact World.block_lt_of_cell? _ _ hc
  have hbig : n ≤ 9223372036854775807 := by
    simp only [Value.slice.injEq] at hv
    obtain ⟨_, _, rfl⟩ := hv
    unfold maxLen at hsc; omega
  have hcon := AnyQ.slices_ContainsFunc Tryd.hasLay 2 Tryd.isAgg62 Tryd.sizeOf62 encS (fun _ => rfl) (fun x => sameS x.1 nm) 88 #[.pointer (some ⟨w.heap.size, 0, none⟩)] eg g off n cap sig (w.alloc (.cells #[.string nm] 9))
    (hasClosure nm w.heap.size _ (by simp) (by simp)) hn hbig (by simp; omega) (fun j hj i v hi => by
      refine Lib.cell?_alloc_some _ ?_
      obtain ⟨g', off', s, a, he, hm, h1, h2, _⟩ := Sg.at hs hj
      simp only [Option.some.injEq, Addr.mk.injEq] at he
      obtain ⟨rfl, rfl, _⟩ := he
      have hy : sig[j]! = (s, a) := by rw [List.getElem!_eq_getElem?_getD, hm]; rfl
      rw [hy] at hi
      match i, hi with
      | 0, hi => simp [encS] at hi; rw [← hi]; exact h1
      | 1, hi => simp [encS] at hi; rw [← hi]; exact h2
      | i + 2, hi => simp [encS] at hi)
  change Calls Tryd.prog 87 _ _ _ at hcon
  change Calls Tryd.prog _ _ _ (fun e w' => e = .returned (.bool (hasB (sig.take n) nm)) ∧ _) at hcon
  generalize hasB (sig.take n) nm = r at hcon ⊢
  have HC := hid hcon
  clear hcon hs hg hv
  go_enter Tryd.func72, Tryd.ntmps72
  go_wp2_with fail
  refine HC.out.mono ?_
  rintro e w' ⟨rfl, hb'⟩
  go_wp2
  go_ret
  exact ⟨rfl, ((Below.refl _ w).alloc (Nat.le_refl _) _).trans (hb'.mono (by simp))⟩

/-- What is wrong with a signature, from a place on. -/
def sigGo (sig : List Sy) : Nat → List Sy → Int
  | _, [] => 0
  | k, s :: r => if symB s.1 then (if s.2 < 0 ∨ 8 < s.2 then 35 else if hasB (sig.take k) s.1 then 36 else sigGo sig (k + 1) r) else 34

def sigE (sig : List Sy) : Int := if 128 < sig.length then 37 else sigGo sig 0 sig

theorem Tabs.below {w w' : World} (h : Tabs w) (hb : Below w.heap.size w w') : Tabs w' := Utf8Tabs_below h hb

set_option maxRecDepth 100000 in
set_option maxHeartbeats 1600000 in
theorem checkSig_any (sv : Value) (sig : List Sy) (w : World) (hs : Sg w sv sig) (hT : Tabs w) :
    Calls Tryd.prog 52 #[sv] w fun e w' => e = .returned (.int .i64 (sigE sig)) ∧ Below w.heap.size w w' := by
  obtain ⟨so, sc, rfl, hso, hsc, _⟩ := Row.flat hs
  unfold maxLen at hsc
  have HS : Hid (Sg w (.slice so sig.length sc) sig) := hs
  have HT : Hid (Tabs w) := hT
  clear hs hT
  go_enter Tryd.func52, Tryd.ntmps52
  by_cases h128 : 128 < sig.length
  · have HR : Hid (sigE sig = 37) := by show _ = _; unfold sigE; rw [if_pos h128]
    go_wp2
    go_ret
    exact ⟨ret1i HR.out.symm, Below.refl _ _⟩
  · have HR : Hid (sigE sig = sigGo sig 0 sig) := by show _ = _; unfold sigE; rw [if_neg h128]
    go_wp2
    go_loopw [10] (fun i wr => ∃ k : Nat, k ≤ sig.length ∧ i = .int .i64 k ∧ sigGo sig 0 sig = sigGo sig k (sig.drop k) ∧ Below w.heap.size w wr) (fun i _ => sig.length - (intOf i).toNat)
    case atStart => exact ⟨0, Nat.zero_le _, rfl, rfl, Below.refl _ _⟩
    case round =>
      obtain ⟨k, hk, rfl, hgo, hbl⟩ := hrel
      have HG : Hid (sigGo sig 0 sig = sigGo sig k (sig.drop k)) := hgo
      clear hgo
      by_cases hlt : k < sig.length
      · have HSr : Hid (Sg wr (.slice so sig.length sc) sig) := HS.out.kp (Kp.of_below hbl)
        have HTr : Hid (Tabs wr) := HT.out.below hbl
        obtain ⟨g, off, s, a, rfl, hm, hc0, hc1, ha1, ha2, hs3⟩ := HSr.out.at hlt
        have HD : Hid (sigE sig = if symB s then (if a < 0 ∨ 8 < a then 35 else if hasB (sig.take k) s then 36 else sigGo sig (k + 1) (sig.drop (k + 1))) else 34) := by
          show _ = _
          rw [HR.out, HG.out, drop_get hm]
          rfl
        clear hm
        go_wp2_with fail
        refine (isSymbolName_any s _ hs3 (HTr.out.below (below_alloc _))).mono ?_
        rintro e w1 ⟨rfl, hb1⟩
        obtain ⟨hd0, hd1, hbl1⟩ := box2 hb1
        have HB : Hid (Below w.heap.size w w1) := below_step hbl hbl1
        have HS1 : Hid (Sg w1 (.slice (some ⟨g, off, none⟩) sig.length sc) sig) := HSr.out.kp (Kp.of_below hbl1)
        clear hb1 hbl1 hbl hc0 hc1
        cases hsy : symB s
        · have HF : Hid (sigE sig = 34) := by show _ = _; rw [HD.out, hsy]; rfl
          go_wp2
          go_ret
          exact ⟨ret1i HF.out.symm, HB.out⟩
        by_cases ha0 : a < 0
        · have HF : Hid (sigE sig = 35) := by show _ = _; rw [HD.out, hsy, if_pos rfl, if_pos (.inl ha0)]
          go_wp2
          go_ret
          exact ⟨ret1i HF.out.symm, HB.out⟩
        by_cases ha8 : 8 < a
        · have HF : Hid (sigE sig = 35) := by show _ = _; rw [HD.out, hsy, if_pos rfl, if_pos (.inr ha8)]
          go_wp2
          go_ret
          exact ⟨ret1i HF.out.symm, HB.out⟩
        have HF : Hid (sigE sig = if hasB (sig.take k) s then 36 else sigGo sig (k + 1) (sig.drop (k + 1))) := by show _ = _; rw [HD.out, hsy, if_pos rfl, if_neg (by omega)]
        clear HD
        obtain ⟨hs, hhs⟩ : ∃ hs, hs = hasB (sig.take k) s := ⟨_, rfl⟩
        have HH : Hid (∀ W, Below w1.heap.size w1 W → Calls Tryd.prog 72 #[.slice (some ⟨g, off, none⟩) k sc, .string s] W fun e w' => e = .returned (.bool hs) ∧ Below W.heap.size W w') :=
          fun W hW => by rw [hhs]; exact hasName_any g off sc k sig s W (HS1.out.kp (Kp.of_below hW)) (by omega) (by omega)
        rw [← hhs] at HF
        clear hhs
        have hksc : k ≤ sc := by omega
        go_wp2_with fail
        refine region_below (by kernel_rfl) (by kernel_rfl) ?_
        (go_big_quiet_want; go_big_quiet_op; go_big_quiet_on)
        (go_big_quiet_want; go_big_quiet_op; go_big_quiet_on)
        go_big_quiet_want
        refine ⟨.slice (some ⟨g, off, none⟩) k sc, fun w' hw' => ?_, ?_⟩
        · unfold Oper.quietAt; go_simp
        simp only [Act.put, List.setIfInBounds_toArray, List.set_cons_zero, List.set_cons_succ]
        go_big_quiet_on
        go_big_quiet_want
        refine ⟨.pointer (some ⟨wr.heap.size, 0, none⟩), fun w' hw' => ?_, ?_⟩
        · unfold Oper.quietAt; go_simp
        simp only [Act.put, List.setIfInBounds_toArray, List.set_cons_zero, List.set_cons_succ]
        go_big_quiet_on
        go_big_quiet_want
        refine ⟨.string s, fun w' hw' => ?_, ?_⟩
        · have hh0 := (Kp.of_below hw').cell _ _ hd0; unfold Oper.quietAt; go_simp
        simp only [Act.put, List.setIfInBounds_toArray, List.set_cons_zero, List.set_cons_succ]
        go_big_quiet_on
        go_big_quiet_want
        refine ⟨.bool hs, fun w' hw' => ?_, ?_⟩
        · unfold Oper.quietAt; go_simp; exact (HH.out w' hw').mono (fun e w2 ⟨he, hb⟩ => ⟨he, below_step hw' hb⟩)
        simp only [Act.put, List.setIfInBounds_toArray, List.set_cons_zero, List.set_cons_succ]
        go_big_quiet_on
        (go_big_quiet_want; go_big_quiet_op; go_big_quiet_on)
        refine wpQuiet_nil ?_
        intro w2 hb2
        have HB2 : Hid (Below w.heap.size w w2) := below_step HB.out hb2
        clear hb2
        clear HH
        cases hs
        · have HN : Hid (sigGo sig 0 sig = sigGo sig (k + 1) (sig.drop (k + 1))) := by show _ = _; rw [← HR.out, HF.out]; rfl
          go_wp2
          go_roundw
          case rel => exact ⟨k + 1, by omega, by go_num, HN.out, HB2.out⟩
          case measure => simp [intOf]; omega
        · have HN : Hid (sigE sig = 36) := by show _ = _; rw [HF.out]; rfl
          go_wp2
          go_ret
          exact ⟨ret1i HN.out.symm, HB2.out⟩
      · have hke : k = sig.length := by omega
        subst hke
        have HF : Hid (sigE sig = 0) := by show _ = _; rw [HR.out, HG.out, List.drop_length]; rfl
        go_wp2
        go_ret
        exact ⟨ret1i HF.out.symm, hbl⟩

end Go.Proofs.YtelacmijkbgliaaDoor

/- Rows of trees: cloned, turned round. -/
namespace Go.Proofs.YtelacmijkbgliaaDoor
open Go.RowKit Go.Maps

section
variable {P : Program} {w w' : World} {ops : Array Oper} {rest : List Oper} {o : Oper} {a : Act} {Q : Exit → Act → World → Prop}

theorem wpList_append_runT (hg : o.guard = none) (s x : Operand) (t : TypeId) (ho : o.op = .call { callee := .builtin .append, args := #[s, x], argTypes := #[t, t] }) (v u : Value) {v' : Value} (hs : a.eval s = v) (hx : a.eval x = u)
    (hr : (Builtin.append_ #[t, t] o.type #[v, u]).run P w = .ok v' w') (h : wpList P ops Q rest (a.put o.dst v') w') : wpList P ops Q (o :: rest) a w := by
  refine wpList_plain hg fun K' hK' => ?_
  unfold Oper.wp
  simp [execOp, ho, resolve, invoke, builtin, hs, hx, hr, Result.andThen]
  exact hK' _ _ h

end

/-- A slice that is read, by its values. -/
def RdV (w : World) (v : Value) (vals : List Value) : Prop :=
  (v = .slice none 0 0 ∧ vals = []) ∨ ∃ g off cap, v = .slice (some ⟨g, off, none⟩) vals.length cap ∧ ∀ (j : Nat) (u : Value), vals[j]? = some u → w.cell? ⟨g, off + j, none⟩ = some u

theorem drawn_below1 (w : World) : Below w.heap.size w w.drew := (Below.refl _ _).drew

theorem set_grownT (w : World) (g k : Nat) (u : Value) : w.grownBy (w.setCell ⟨g, k, none⟩ u) (some g) :=
  ⟨rfl, rfl, rfl, by simp [World.setCell], fun i _ hne => heap_setCell_other _ _ _ _ (by intro e; subst e; exact hne rfl)⟩

/-- A value of an interface. -/
def IfV (u : Value) : Prop := ∃ t x, u = .iface t x

theorem swp_mem {d : Array Value} {i j : Nat} (hi : i < d.size) (hj : j < d.size) {u : Value} (h : u ∈ (Sort.swp d i j).toList) : u ∈ d.toList := by
  unfold Sort.swp at h
  simp only [Array.toList_setIfInBounds] at h
  rcases List.mem_or_eq_of_mem_set h with h | h
  · rcases List.mem_or_eq_of_mem_set h with h | h
    · exact h
    · rw [h, getElem!_pos d j hj]; exact Array.getElem_mem_toList hj
  · rw [h, getElem!_pos d i hi]; exact Array.getElem_mem_toList hi

theorem swp_list {d : Array Value} {i j : Nat} (hi : i < d.size) (hj : j < d.size) : (Sort.swp d i j).toList = (d.toList.set i d[j]!).set j d[i]! := by
  unfold Sort.swp
  simp [getElem!_pos, hi, hj]

end Go.Proofs.YtelacmijkbgliaaDoor

/- Trees in memory; apply. -/
namespace Go.Proofs.YtelacmijkbgliaaDoor
open Go.RowKit Go.Maps

/-- A term as a tree, without its symbols. -/
inductive Tr where
  | var : Tr
  | app : List Tr → Tr

mutual
def Tr.size : Tr → Nat
  | .var => 1
  | .app ts => 1 + sizes ts
def sizes : List Tr → Nat
  | [] => 0
  | t :: ts => t.size + sizes ts
end

theorem IfV.one {u : Value} (h : IfV u) : u.oneCell' = true := by obtain ⟨t, x, rfl⟩ := h; rfl

theorem sizes_app : ∀ (a b : List Tr), sizes (a ++ b) = sizes a + sizes b
  | [], b => by simp [sizes]
  | t :: a, b => by simp only [List.cons_append, sizes, sizes_app a b]; omega

theorem Tr.pos (t : Tr) : 1 ≤ t.size := by
  cases t <;> simp only [Tr.size] <;> omega

theorem len_sizes : ∀ ts : List Tr, ts.length ≤ sizes ts
  | [] => by simp [sizes]
  | t :: ts => by
    have := t.pos
    have := len_sizes ts
    simp only [List.length_cons, sizes]
    omega

end Go.Proofs.YtelacmijkbgliaaDoor
