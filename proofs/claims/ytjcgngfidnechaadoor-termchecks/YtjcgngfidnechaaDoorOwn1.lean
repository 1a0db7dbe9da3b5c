/- Texts of the proof, one behind the other. -/
import Derived.Test.YtjcgngfidnechaaDoorProg
import Derived.WalkKit
import Derived.WalkSpells
import Derived.WalkLawsBesides
import Derived.Deep.QuietTactic
import Derived.BigQuiet
import Derived.Laws.CopyOwn
import Derived.Laws.IdiomCopy
import Derived.Deep.RegionHeldLaw
import Derived.Maps.AppendAt
import Derived.Maps.Own
import Derived.Maps.OwnOps
import Derived.Maps.OwnSet
import Derived.Deep.Upon
import Derived.Deep.Quiet
import Derived.WalkSmall
import Derived.Laws.RangeString
import Derived.Laws.RangeAny
import Derived.Ground.NamesProg
import Derived.Ground.SlgfProg
import Derived.Shelf.SlGeneric
import Derived.Shelf.Strings.Prefix
import Derived.Shelf.Unicode.ValidAny
import Derived.Shelf.SlicesQ.IndexFunc
import Derived.Sort.WalkB12
import Derived.Lib.SlicesMore
import Derived.Lib.Walk
import Derived.Deep.LoopGhost
import Derived.Deep.DeepAppendRoom
import Derived.RangeFuncNested
import Derived.RangeFuncBound
import Derived.RangeFuncCalls
import Derived.RangeFuncLeaves
import Derived.RangeFuncBox
import Derived.Shelf.Abstract
import Derived.Shelf.RegionOpen
import Derived.OwnWalkIn
import Derived.TacticsInMore
import Derived.LoopNIn
import Derived.LoopIn
/- Rows of numbers in memory, as they are read and as a call owns them: for the seats of terms. -/
namespace Go.Proofs.YtjcgngfidnechaaDoor
open Go.RowKit Go.Maps

/-- Every cell that could be read reads as it did. -/
structure Kp (w w' : World) : Prop where
  size : w.heap.size ≤ w'.heap.size
  cell : ∀ (a : Addr) (v : Value), w.cell? a = some v → w'.cell? a = some v

theorem Kp.refl (w : World) : Kp w w := ⟨Nat.le_refl _, fun _ _ h => h⟩

theorem Kp.trans {a b c : World} (h : Kp a b) (k : Kp b c) : Kp a c := ⟨Nat.le_trans h.size k.size, fun x v hx => k.cell x v (h.cell x v hx)⟩

theorem Kp.of_below {w w' : World} (h : Below w.heap.size w w') : Kp w w' :=
  ⟨h.size, fun a _ hv => (h.cell (World.block_lt_of_cell? w a hv)).trans hv⟩

theorem Kp.drewN (w : World) (n : Nat) : Kp w (w.drewN n) := ⟨Nat.le_refl _, fun _ _ h => h⟩

/-- A slice that is read, element by element: E says what stands at an address. -/
def Row {α : Type} (E : World → Nat → Nat → α → Prop) (sz : Nat) (w : World) (v : Value) (xs : List α) : Prop :=
  ∃ ao cap, v = .slice ao xs.length cap ∧ xs.length ≤ cap ∧ cap ≤ maxLen ∧
    (0 < xs.length → ∃ g off, ao = some ⟨g, off, none⟩ ∧ g < w.heap.size ∧ ∀ (k : Nat) (x : α), xs[k]? = some x → E w g (off + k * sz) x)

theorem Row.imp {α : Type} {E : World → Nat → Nat → α → Prop} {sz : Nat} {w w' : World} {v : Value} {xs : List α} (h : Row E sz w v xs) (hs : w.heap.size ≤ w'.heap.size) (hE : ∀ g o x, E w g o x → E w' g o x) : Row E sz w' v xs := by
  obtain ⟨ao, cap, rfl, hc, hm, hx⟩ := h
  refine ⟨ao, cap, rfl, hc, hm, fun h0 => ?_⟩
  obtain ⟨g, off, rfl, hg, hx⟩ := hx h0
  exact ⟨g, off, rfl, Nat.lt_of_lt_of_le hg hs, fun k x he => hE _ _ _ (hx k x he)⟩

theorem Row.flat {α : Type} {E : World → Nat → Nat → α → Prop} {sz : Nat} {w : World} {v : Value} {xs : List α} (h : Row E sz w v xs) : ∃ ao cap, v = .slice ao xs.length cap ∧ xs.length ≤ cap ∧ cap ≤ maxLen ∧
    ∀ k : Nat, k < xs.length → ∃ g off x, ao = some ⟨g, off, none⟩ ∧ xs[k]? = some x ∧ E w g (off + k * sz) x := by
  obtain ⟨ao, cap, rfl, hc, hm, hx⟩ := h
  refine ⟨ao, cap, rfl, hc, hm, fun k hk => ?_⟩
  obtain ⟨g, off, rfl, hg, hx⟩ := hx (by omega)
  exact ⟨g, off, xs[k], rfl, List.getElem?_eq_getElem hk, hx k _ (List.getElem?_eq_getElem hk)⟩

/-- A number at an address. -/
def EI (w : World) (g o : Nat) (x : Int) : Prop := -9223372036854775808 ≤ x ∧ x ≤ 9223372036854775807 ∧ w.cell? ⟨g, o, none⟩ = some (.int .i64 x)

theorem EI.kp {w w' : World} (hk : Kp w w') (g o : Nat) (x : Int) (h : EI w g o x) : EI w' g o x := ⟨h.1, h.2.1, hk.cell _ _ h.2.2⟩

/-- A row of numbers. -/
def Is (w : World) (v : Value) (xs : List Int) : Prop := Row EI 1 w v xs

theorem Is.kp {w w' : World} {v : Value} {xs : List Int} (h : Is w v xs) (hk : Kp w w') : Is w' v xs := Row.imp h hk.size (EI.kp hk)

theorem below_alloc {w : World} (o : Obj) : Below w.heap.size w (w.alloc o) := (Below.refl _ _).alloc (Nat.le_refl _) o

theorem below_step {a b c : World} (h : Below a.heap.size a b) (k : Below b.heap.size b c) : Below a.heap.size a c := h.trans (k.mono h.size)

theorem Row.len {α : Type} {E : World → Nat → Nat → α → Prop} {sz : Nat} {w : World} {ao : Option Addr} {n cap : Nat} {xs : List α} (h : Row E sz w (.slice ao n cap) xs) : n = xs.length := by
  obtain ⟨ao', cap', hv, _⟩ := h
  simp only [Value.slice.injEq] at hv
  exact hv.2.1

theorem Row.nil {α : Type} {E : World → Nat → Nat → α → Prop} {sz : Nat} {w : World} {ao : Option Addr} {cap : Nat} (hc : cap ≤ maxLen) : Row E sz w (.slice ao 0 cap) ([] : List α) :=
  ⟨ao, cap, rfl, Nat.zero_le _, hc, fun h => absurd h (by simp)⟩

theorem Is.at {w : World} {ao : Option Addr} {n cap : Nat} {es : List Int} (h : Is w (.slice ao n cap) es) {k : Nat} (hk : k < es.length) :
    ∃ g off x, ao = some ⟨g, off, none⟩ ∧ es[k]? = some x ∧ w.cell? ⟨g, off + k, none⟩ = some (.int .i64 x) ∧ -9223372036854775808 ≤ x ∧ x ≤ 9223372036854775807 := by
  obtain ⟨ao', cap', hv, _, _, hx⟩ := Row.flat h
  simp only [Value.slice.injEq] at hv
  obtain ⟨rfl, rfl, rfl⟩ := hv
  obtain ⟨g, off, x, rfl, hm, h1, h2, h3⟩ := hx k hk
  rw [Nat.mul_one] at h3
  exact ⟨g, off, x, rfl, hm, h3, h1, h2⟩

theorem drop_get {α : Type} {xs : List α} {k : Nat} {x : α} (h : xs[k]? = some x) : xs.drop k = x :: xs.drop (k + 1) := by
  have hk := (List.getElem?_eq_some_iff.1 h)
  obtain ⟨hk, rfl⟩ := hk
  exact List.drop_eq_getElem_cons hk

theorem take_get {α : Type} {xs : List α} {k : Nat} {x : α} (h : xs[k]? = some x) : xs.take (k + 1) = xs.take k ++ [x] := by
  rw [List.take_add_one, h]; rfl

def I64 (x : Int) : Value := .int .i64 x

def ZI (xs : List Int) : Prop := ∀ (k : Nat) (x : Int), xs[k]? = some x → -9223372036854775808 ≤ x ∧ x ≤ 9223372036854775807

/-- The slice value v is the call's own (blocks from base on), at the head of its row, and holds the numbers xs. -/
def OwI (w : World) (base : Nat) (v : Value) (xs : List Int) : Prop := ZI xs ∧ w.ownsRow base 3 1 v xs.length (xs.map I64)

theorem OwI.is {w : World} {base : Nat} {v : Value} {xs : List Int} (h : OwI w base v xs) : Is w v xs := by
  have h2 := h.2
  rcases h2.2 with ⟨rfl, hn⟩ | ⟨g, cap, cur, rfl, hb, hg, hc, hm, hs, ht⟩
  · exact ⟨none, 0, by rw [hn], by omega, by simp [maxLen], by omega⟩
  · refine ⟨_, cap, rfl, hc, hm, fun _ => ⟨g, 0, rfl, (Array.getElem?_eq_some_iff.1 hg).1, ?_⟩⟩
    intro k x hk
    have hlt : k < xs.length := (List.getElem?_eq_some_iff.1 hk).1
    refine ⟨(h.1 k x hk).1, (h.1 k x hk).2, ?_⟩
    rw [Nat.zero_add, Nat.mul_one, World.ownsRow.cellAt h2 k (by omega)]
    simp [hk, I64]

theorem OwI.kept {w w' : World} {base : Nat} {v : Value} {xs : List Int} {row : Option Nat} (h : OwI w base v xs) (hg : w.grownBy w' row) (hr : v.ownBlock = none ∨ v.ownBlock ≠ row) : OwI w' base v xs := by
  refine ⟨h.1, h.2.1, ?_⟩
  rcases h.2.2 with h | ⟨g, cap, cur, rfl, hb, hgg, r⟩
  · exact .inl h
  · refine .inr ⟨g, cap, cur, rfl, hb, (hg.block g (Array.getElem?_eq_some_iff.1 hgg).1 ?_).trans hgg, r⟩
    rcases hr with hr | hr
    · cases hr
    · exact hr

theorem OwI.later {w w' : World} {base : Nat} {v : Value} {xs : List Int} (h : OwI w base v xs) (hb : Below w.heap.size w w') : OwI w' base v xs :=
  h.kept (row := none) ⟨hb.os, hb.tape, hb.output, hb.size, fun k hk _ => hb.block k hk⟩ (by cases hv : v.ownBlock <;> simp)

theorem OwI.mono {w : World} {base b' : Nat} {v : Value} {xs : List Int} (h : OwI w base v xs) (hb : b' ≤ base) : OwI w b' v xs := by
  refine ⟨h.1, h.2.1, ?_⟩
  rcases h.2.2 with h | ⟨g, cap, cur, rfl, hg, r⟩
  · exact .inl h
  · exact .inr ⟨g, cap, cur, rfl, Nat.le_trans hb hg, r⟩

theorem made_zero64 (n : Nat) : (madeCells (Value.int .i64 0).cells (n * 1)).toList = (List.replicate n (0 : Int)).map I64 := by
  have : (Value.int .i64 0).cells = #[Value.int .i64 0] := rfl
  rw [this, toList_madeCells_one]
  simp [I64]

theorem OwI.made {w : World} {base n : Nat} {v : Value} (h : w.ownsRow base 3 1 v n (madeCells (Value.int .i64 0).cells (n * 1)).toList) : OwI w base v (List.replicate n 0) := by
  rw [made_zero64] at h
  refine ⟨?_, by simpa using h⟩
  intro k x hk
  rw [List.getElem?_replicate] at hk
  split at hk
  · cases hk; omega
  · cases hk

theorem OwI.at {w : World} {base g n cap : Nat} {xs : List Int} (h : OwI w base (.slice (some ⟨g, 0, none⟩) n cap) xs) {k : Nat} {x : Int} (hk : xs[k]? = some x) :
    w.cell? ⟨g, k, none⟩ = some (.int .i64 x) ∧ w.frozen? ⟨g, k, none⟩ = false := by
  have h2 := h.2
  rcases h2.2 with ⟨hv, hn⟩ | ⟨g', cap', cur, hv, hb, hg, hc, hm, hs, ht⟩
  · cases hv
  · simp only [Value.slice.injEq, Option.some.injEq, Addr.mk.injEq, and_true] at hv
    obtain ⟨rfl, rfl, rfl⟩ := hv
    have hlt : k < xs.length := (List.getElem?_eq_some_iff.1 hk).1
    have h3 := h2
    refine ⟨?_, World.ownsRow.frozenAt h3 k⟩
    rw [World.ownsRow.cellAt h3 k (by omega)]
    simp [hk, I64]

theorem OwI.put {w w0 : World} {base g n cap B : Nat} {xs : List Int} (h : OwI w base (.slice (some ⟨g, 0, none⟩) n cap) xs) (hb : Below B w0 w) (hB : B ≤ g) (hn : n = xs.length) {k : Nat} {z : Int} (hz : -9223372036854775808 ≤ z ∧ z ≤ 9223372036854775807) {ys : List Int} (hys : xs.set k z = ys) :
    OwI (w.setCell ⟨g, k, none⟩ (.int .i64 z)) base (.slice (some ⟨g, 0, none⟩) n cap) ys ∧ Below B w0 (w.setCell ⟨g, k, none⟩ (.int .i64 z)) := by
  subst hys
  subst hn
  have hs := World.ownsRow.stored h.2 k (.int .i64 z)
  refine ⟨⟨?_, ?_⟩, hb.setCell (p := ⟨g, k, none⟩) hB _⟩
  · intro j y hy
    rw [List.getElem?_set] at hy
    split at hy
    · split at hy
      · cases hy; exact hz
      · cases hy
    · exact h.1 j y hy
  · have h1 := hs.1
    rw [List.length_set, List.map_set]
    exact h1

theorem OwI.shape {w : World} {base : Nat} {v : Value} {xs : List Int} (h : OwI w base v xs) : ∃ ao cap, v = .slice ao xs.length cap ∧ xs.length ≤ cap ∧ cap ≤ maxLen := by
  rcases h.2.2 with ⟨rfl, hn⟩ | ⟨g, cap, cur, rfl, hb, hg, hc, hm, hs, ht⟩
  · exact ⟨none, 0, by rw [hn], by omega, by simp [maxLen]⟩
  · exact ⟨_, cap, rfl, hc, hm⟩

theorem info_int : (Tryd.prog.info? 3).map (fun i => (i.zero, i.size, i.bytes)) = some (some (.int .i64 0), 1, 8) := by kernel_rfl

theorem under_ints : Tryd.prog.underlying 27 = some (.slice 3) := by kernel_rfl

theorem step_append_own {P : Program} {ops : Array Oper} {o : Oper} {a : Act} {w : World} {K : Act → World → Prop} {Q : Exit → Act → World → Prop} {E : Prop} (hgd : o.guard = none) (s x : Operand) (t : TypeId)
    (ho : o.op = .call { callee := .builtin .append, args := #[s, x], argTypes := #[t, t] })
    (base : Nat) (e : TypeId) (i : TypeInfo) (z : Value) (size bytes : Nat) (ht : P.underlying t = some (.slice e)) (hi : P.info? e = some i) (hz : i.zero = some z)
    (hsize : i.size = size) (hby : i.bytes = bytes) (hzs : z.cells.size = size) (hsz : 0 < size)
    (v : Value) (n : Nat) (xs : List Value) (hs : a.eval s = v) (hown : w.ownsRow base e size v n xs)
    (ad : Addr) (m c : Nat) (news : List Value) (hx : a.eval x = .slice (some ad) m c) (hl : news.length = m * size) (hnews : ∀ j u, news[j]? = some u → w.cell? (ad.add j) = some u) (h1 : ∀ u ∈ news, u.oneCell' = true)
    (h63 : n + m ≤ maxLen) (hbytes : (n + m) * bytes ≤ 140737488355328) (hbase : base ≤ w.heap.size)
    (hK : ∀ v' w', w'.ownsRow base e size v' (n + m) (xs ++ news) → w.grownBy w' v.ownBlock → (v'.ownBlock = v.ownBlock ∨ v'.ownBlock = some w.heap.size) → K (a.put o.dst v') w') :
    if Region.wanted o (yielded ops a.tmps) = true then Oper.wp P o a w K Q else E := by
  have hw : Region.wanted o (yielded ops a.tmps) = true := by simp [Region.wanted, hgd]
  rw [if_pos hw]
  obtain ⟨v', w', hr, h2, h3, h4, h5⟩ := run_append_own_at (P := P) w base t o.type e i z size bytes ht hi hz hsize hby hzs hsz v n xs hown ad m c news hl hnews h1 h63 hbytes hbase
  unfold Oper.wp execOp
  simp only [ho, resolve, invoke, builtin, Sem.run_bind, Sem.run_pure, Result.andThen_ok, List.map_toArray, List.map_cons, List.map_nil, hs, hx, hr]
  exact hK v' w' h2 h3 h5

theorem ownsRow_later {w w' : World} {base : Nat} {e : TypeId} {size : Nat} {v : Value} {n : Nat} {xs : List Value} (h : w.ownsRow base e size v n xs) (hb : Below w.heap.size w w') : w'.ownsRow base e size v n xs :=
  h.kept (row := none) ⟨hb.os, hb.tape, hb.output, hb.size, fun k hk _ => hb.block k hk⟩ (by cases hv : v.ownBlock <;> simp)

/-- Rows of other elements lie in other blocks. -/
theorem ownsRow_apart {w : World} {b1 b2 : Nat} {e1 e2 : TypeId} {s1 s2 : Nat} {v u : Value} {n m : Nat} {xs ys : List Value} (h : w.ownsRow b1 e1 s1 v n xs) (k : w.ownsRow b2 e2 s2 u m ys) (hne : e1 ≠ e2) : v.ownBlock = none ∨ v.ownBlock ≠ u.ownBlock := by
  rcases h.2 with ⟨rfl, _⟩ | ⟨g, cap, cur, rfl, _, hg, _⟩
  · exact .inl rfl
  · refine .inr ?_
    rcases k.2 with ⟨rfl, _⟩ | ⟨g', cap', cur', rfl, _, hg', _⟩
    · simp [Value.ownBlock]
    · simp only [Value.ownBlock]
      intro e
      cases e
      rw [hg] at hg'
      simp only [Option.some.injEq, Obj.cells.injEq] at hg'
      exact hne hg'.2.1

theorem step_append_run {P : Program} {ops : Array Oper} {o : Oper} {a : Act} {w w' : World} {v' : Value} {K : Act → World → Prop} {Q : Exit → Act → World → Prop} {E : Prop} (hgd : o.guard = none) (s x : Operand) (t : TypeId)
    (ho : o.op = .call { callee := .builtin .append, args := #[s, x], argTypes := #[t, t] }) (v u : Value) (hs : a.eval s = v) (hx : a.eval x = u)
    (hr : (Builtin.append_ #[t, t] o.type #[v, u]).run P w = .ok v' w') (hK : K (a.put o.dst v') w') :
    if Region.wanted o (yielded ops a.tmps) = true then Oper.wp P o a w K Q else E := by
  have hw : Region.wanted o (yielded ops a.tmps) = true := by simp [Region.wanted, hgd]
  rw [if_pos hw]
  unfold Oper.wp execOp
  simp only [ho, resolve, invoke, builtin, Sem.run_bind, Sem.run_pure, Result.andThen_ok, List.map_toArray, List.map_cons, List.map_nil, hs, hx, hr]
  exact hK

theorem copy_ints (ty : TypeId) {w : World} {base g : Nat} {u : Value} {es : List Int} (ho : w.ownsRow base 3 1 (.slice (some ⟨g, 0, none⟩) 0 0) 0 []) (hs : Is w u es) (hb : base ≤ w.heap.size) (hl : es.length * 8 ≤ 140737488355328) :
    ∃ v' w', (Builtin.append_ #[27, 27] ty #[.slice (some ⟨g, 0, none⟩) 0 0, u]).run Tryd.prog w = .ok v' w' ∧ OwI w' base v' es ∧ w.grownBy w' (some g) := by
  obtain ⟨i0, hi, hz0, hz1, hz2⟩ := info_parts info_int
  have hZ : ZI es := fun k x hk => by
    obtain ⟨ao, cap, rfl, _, _, hx⟩ := Row.flat hs
    obtain ⟨_, _, y, _, hy, h1, h2, _⟩ := hx k (List.getElem?_eq_some_iff.1 hk).1
    rw [hk] at hy
    cases hy
    exact ⟨h1, h2⟩
  obtain ⟨ao, cap, rfl, hc, hm, hx⟩ := hs
  by_cases h0 : es.length = 0
  · obtain rfl : es = [] := List.eq_nil_of_length_eq_zero h0
    refine ⟨_, w, run_append_nothing w 27 27 ty 3 i0 under_ints hi _ 0 0 (Nat.le_refl _) _ ?_, ⟨hZ, ho⟩, World.grownBy.refl _ _⟩
    cases ao with
    | none => exact Src.ofNil w under_ints _
    | some a => exact Src.ofSlice w under_ints a 0 _ [] (by simp) (fun j u hj => (by simp at hj)) (fun u hu => (by simp at hu))
  · obtain ⟨g', off, rfl, hg, hcell⟩ := hx (by omega)
    obtain ⟨v', w', hr, h2, h3, _, _⟩ := run_append_own_at (P := Tryd.prog) w base 27 ty 3 i0 _ 1 8 under_ints hi hz0 hz1 hz2 rfl (by decide) _ 0 [] ho ⟨g', off, none⟩ es.length cap (es.map I64) (by simp) (fun j u hj => by
      rw [List.getElem?_map] at hj
      cases hk : es[j]? with
      | none => rw [hk] at hj; simp at hj
      | some x =>
        rw [hk] at hj
        simp at hj
        subst hj
        rw [Addr.add_lit]
        have := (hcell j x hk).2.2
        rw [Nat.mul_one] at this
        exact this) (fun u hu => by obtain ⟨x, _, rfl⟩ := List.mem_map.1 hu; rfl) (by unfold maxLen at hm ⊢; omega) (by omega) hb
    refine ⟨v', w', hr, ⟨hZ, ?_⟩, h3⟩
    rw [Nat.zero_add, List.nil_append] at h2
    exact h2

/-- A row without elements, just laid. -/
theorem empty_row {w : World} {base : Nat} (t : TypeId) (hb : base ≤ w.heap.size) : (w.alloc (.cells #[] t)).ownsRow base t 1 (.slice (some ⟨w.heap.size, 0, none⟩) 0 0) 0 [] := by
  refine ⟨rfl, .inr ⟨w.heap.size, 0, #[], rfl, hb, heap_alloc_new _ _, Nat.le_refl _, Nat.zero_le _, rfl, rfl⟩⟩

theorem grown_below {w0 w w' : World} {g : Nat} (hB : Below w0.heap.size w0 w) (hg : w.grownBy w' (some g)) (h : w0.heap.size ≤ g) : Below w0.heap.size w0 w' := hB.grown hg hB.size (fun k hk => by cases hk; exact h)

theorem own_ge {w : World} {base : Nat} {e : TypeId} {s g n c m : Nat} {xs : List Value} (h : w.ownsRow base e s (.slice (some ⟨g, 0, none⟩) n c) m xs) : base ≤ g := by
  rcases h.2 with ⟨hv, _⟩ | ⟨g', cap, cur, hv, hb, _⟩
  · cases hv
  · cases hv
    exact hb

theorem own_blk {w : World} {base : Nat} {e : TypeId} {s m j : Nat} {v : Value} {xs : List Value} (h : w.ownsRow base e s v m xs) (hj : v.ownBlock = some j) : base ≤ j := by
  rcases h.2 with ⟨rfl, _⟩ | ⟨g', cap, cur, rfl, hb, _⟩
  · cases hj
  · cases hj
    exact hb

theorem own_form {w : World} {base : Nat} {e : TypeId} {s n : Nat} {v : Value} {xs : List Value} (h : w.ownsRow base e s v n xs) (hn : 0 < n) : ∃ g cap, v = .slice (some ⟨g, 0, none⟩) n cap := by
  rcases h.2 with ⟨_, h0⟩ | ⟨g, cap, cur, hv, _⟩
  · omega
  · exact ⟨g, cap, hv⟩

/-- A block of n cells for elements of a type. -/
def Shp (w : World) (g : Nat) (e : TypeId) (n : Nat) : Prop := ∃ cur : Array Value, w.heap[g]? = some (.cells cur e (0, 0)) ∧ cur.size = n

theorem Shp.lt {w : World} {g n : Nat} {e : TypeId} (h : Shp w g e n) : g < w.heap.size := by
  obtain ⟨cur, hg, _⟩ := h
  exact (Array.getElem?_eq_some_iff.1 hg).1

theorem Shp.cell {w : World} {g n k : Nat} {e : TypeId} (h : Shp w g e n) (hk : k < n) : (∃ u, w.cell? ⟨g, k, none⟩ = some u) ∧ w.frozen? ⟨g, k, none⟩ = false := by
  obtain ⟨cur, hg, hs⟩ := h
  refine ⟨⟨cur[k], ?_⟩, frozen_of_row _ _ _ _ _ hg⟩
  unfold World.cell?
  simp only [hg]
  rw [if_neg (by simp)]
  exact Array.getElem?_eq_getElem (by omega)

theorem Shp.ne {w : World} {g g' n n' : Nat} {e e' : TypeId} (h : Shp w g e n) (h' : Shp w g' e' n') (hne : e ≠ e') : g ≠ g' := by
  rintro rfl
  obtain ⟨cur, hg, _⟩ := h
  obtain ⟨cur', hg', _⟩ := h'
  rw [hg] at hg'
  simp only [Option.some.injEq, Obj.cells.injEq] at hg'
  exact hne hg'.2.1

theorem Shp.setCell {w : World} {g n : Nat} {e : TypeId} (h : Shp w g e n) (g' k : Nat) (u : Value) : Shp (w.setCell ⟨g', k, none⟩ u) g e n := by
  obtain ⟨cur, hg, hs⟩ := h
  by_cases hne : g = g'
  · subst hne
    exact ⟨_, heap_setCell_same w g k cur e u hg, by simp [hs]⟩
  · exact ⟨cur, by rw [heap_setCell_other _ _ _ _ hne]; exact hg, hs⟩

/-- All blocks but those from b on and below t are as they were, and the blocks' shapes are. -/
structure Spl (b t : Nat) (w w' : World) : Prop where
  os : w'.os = w.os
  tape : w'.tape = w.tape
  output : w'.output = w.output
  size : w.heap.size ≤ w'.heap.size
  block : ∀ g, g < w.heap.size → (g < b ∨ t ≤ g) → w'.heap[g]? = w.heap[g]?
  shape : ∀ (g : Nat) (e : TypeId) (n : Nat), Shp w g e n → Shp w' g e n

theorem Spl.refl (b t : Nat) (w : World) : Spl b t w w := ⟨rfl, rfl, rfl, Nat.le_refl _, fun _ _ _ => rfl, fun _ _ _ h => h⟩

theorem Spl.trans {b t : Nat} {w w' w'' : World} (h : Spl b t w w') (k : Spl b t w' w'') : Spl b t w w'' :=
  ⟨k.os.trans h.os, k.tape.trans h.tape, k.output.trans h.output, Nat.le_trans h.size k.size, fun g hg hb => (k.block g (Nat.lt_of_lt_of_le hg h.size) hb).trans (h.block g hg hb), fun g e n hs => k.shape g e n (h.shape g e n hs)⟩

theorem Spl.below {b t : Nat} {w w' : World} (h : Below w.heap.size w w') : Spl b t w w' :=
  ⟨h.os, h.tape, h.output, h.size, fun g hg _ => h.block g hg, fun g e n hs => by
    have hlt := hs.lt
    obtain ⟨cur, hg, hn⟩ := hs
    exact ⟨cur, by rw [h.block g hlt]; exact hg, hn⟩⟩

theorem Spl.setCell {b t : Nat} {w w' : World} (h : Spl b t w w') {g : Nat} (hg : (b ≤ g ∧ g < t) ∨ w.heap.size ≤ g) (k : Nat) (u : Value) : Spl b t w (w'.setCell ⟨g, k, none⟩ u) :=
  ⟨h.os, h.tape, h.output, by simpa [World.setCell] using h.size, fun g' hg' hb => by
    rw [heap_setCell_other _ _ _ _ (show g' ≠ g by omega)]
    exact h.block g' hg' hb, fun g' e n hs => (h.shape g' e n hs).setCell _ _ _⟩

/-- A slice of one's own, at the head of its row, with anything in it. -/
def RowS (w : World) (b t : Nat) (e : TypeId) (v : Value) (n : Nat) : Prop :=
  (v = .slice none 0 0 ∧ n = 0) ∨ ∃ g cap, v = .slice (some ⟨g, 0, none⟩) n cap ∧ b ≤ g ∧ g < t ∧ Shp w g e cap ∧ n ≤ cap ∧ cap ≤ maxLen

theorem RowS.of {w w' : World} {b : Nat} {e : TypeId} {v : Value} {n : Nat} {xs : List Value} (h : w.ownsRow b e 1 v n xs) (hb : Below w.heap.size w w') : RowS w' b w.heap.size e v n := by
  rcases h.2 with h | ⟨g, cap, cur, hv, hg1, hg, hc, hm, hs, _⟩
  · exact .inl h
  · have hlt := (Array.getElem?_eq_some_iff.1 hg).1
    exact .inr ⟨g, cap, hv, hg1, hlt, ⟨cur, by rw [hb.block g hlt]; exact hg, by omega⟩, hc, hm⟩

theorem RowS.spl {w w' : World} {b t b' t' : Nat} {e : TypeId} {v : Value} {n : Nat} (h : RowS w b t e v n) (hs : Spl b' t' w w') : RowS w' b t e v n := by
  rcases h with h | ⟨g, cap, hv, h1, h2, h3, h4⟩
  · exact .inl h
  · exact .inr ⟨g, cap, hv, h1, h2, hs.shape _ _ _ h3, h4⟩

theorem RowS.form {w : World} {b t : Nat} {e : TypeId} {v : Value} {n : Nat} (h : RowS w b t e v n) : ∃ ao cap, v = .slice ao n cap ∧ n ≤ cap ∧ cap ≤ maxLen := by
  rcases h with ⟨rfl, rfl⟩ | ⟨g, cap, rfl, _, _, _, h4, h5⟩
  · exact ⟨_, _, rfl, Nat.le_refl _, Nat.zero_le _⟩
  · exact ⟨_, _, rfl, h4, h5⟩

theorem RowS.at {w : World} {b t : Nat} {e : TypeId} {ao : Option Addr} {n cap : Nat} (h : RowS w b t e (.slice ao n cap) n) {k : Nat} (hk : k < n) :
    ∃ g, ao = some ⟨g, 0, none⟩ ∧ b ≤ g ∧ g < t ∧ Shp w g e cap := by
  rcases h with ⟨_, rfl⟩ | ⟨g, cap', hv, h1, h2, h3, _⟩
  · omega
  · simp only [Value.slice.injEq, true_and] at hv
    obtain ⟨rfl, rfl⟩ := hv
    exact ⟨g, rfl, h1, h2, h3⟩

theorem own_far {w : World} {base gr n k : Nat} {e e' : TypeId} {v : Value} {xs : List Value} (h : w.ownsRow base e 1 v n xs) (hs : Shp w gr e' k) (hne : e ≠ e') : v.ownBlock = none ∨ v.ownBlock ≠ some gr := by
  rcases h.2 with ⟨rfl, _⟩ | ⟨g, cap, cur, rfl, _, hg, _⟩
  · exact .inl rfl
  · refine .inr (fun e => ?_)
    simp only [Value.ownBlock, Option.some.injEq] at e
    subst e
    obtain ⟨cur2, hg2, _⟩ := hs
    rw [hg] at hg2
    simp only [Option.some.injEq, Obj.cells.injEq] at hg2
    exact absurd hg2.2.1 hne

theorem grown_of_below {w w' : World} (h : Below w.heap.size w w') (row : Option Nat) : w.grownBy w' row := ⟨h.os, h.tape, h.output, h.size, fun k hk _ => h.block k hk⟩

theorem Kp.of_map {w w' : World} {b : Nat} {es : Array MapEntry} {clock : Nat} (hg : w.grownBy w' (some b)) (hb : w.heap[b]? = some (.map es clock)) : Kp w w' := by
  refine ⟨hg.size, fun a v hv => ?_⟩
  have hlt := World.block_lt_of_cell? w a hv
  have hne : a.block ≠ b := by
    intro e
    simp [World.cell?, e, hb] at hv
  rw [World.cell?_of_block (hg.block a.block hlt (by simpa using hne))]
  exact hv

theorem grown_trans {a b c : World} {row : Option Nat} (h : a.grownBy b row) (k : b.grownBy c row) : a.grownBy c row :=
  ⟨k.os.trans h.os, k.tape.trans h.tape, k.output.trans h.output, Nat.le_trans h.size k.size, fun i hi hne => (k.block i (Nat.lt_of_lt_of_le hi h.size) hne).trans (h.block i hi hne)⟩

theorem laidOut : laidOutB Tryd.prog = true := by kernel_rfl

section
variable {P : Program} {w w' : World} {ops : Array Oper} {rest : List Oper} {o : Oper} {a : Act} {Q : Exit → Act → World → Prop}

theorem wpList_lookup_run (hg : o.guard = none) (m x : Operand) (t : TypeId) (c : Bool) (hop : o.op = Op.lookup t m x c) (mv kv r : Value) (hm : a.eval m = mv) (hx : a.eval x = kv) (hrun : (Instr.lookup t mv kv c).run P w = .ok r w)
    (h : wpList P ops Q rest (a.put o.dst r) w) : wpList P ops Q (o :: rest) a w := by
  refine wpList_plain hg fun K' hK' => ?_
  unfold Oper.wp
  simp [execOp, hop, hm, hx, hrun, Result.andThen]
  exact hK' _ _ h

theorem wpList_mapUpdate_run (hg : o.guard = none) (m x v : Operand) (t : TypeId) (hop : o.op = Op.mapUpdate t m x v) (mv kv vv : Value) (hm : a.eval m = mv) (hx : a.eval x = kv) (hv : a.eval v = vv) (hrun : (Instr.mapUpdate t mv kv vv).run P w = .ok () w')
    (h : wpList P ops Q rest (a.put o.dst undef) w') : wpList P ops Q (o :: rest) a w := by
  refine wpList_plain hg fun K' hK' => ?_
  unfold Oper.wp
  simp [execOp, hop, hm, hx, hv, hrun, Result.andThen]
  exact hK' _ _ h

end

theorem ret2i {k : IntKind} {v : Value} {a b : Int} (h : a = b) : Ending.returned (.tuple #[v, .int k a]) = .returned (.tuple #[v, .int k b]) := by rw [h]

theorem ret1i {k : IntKind} {a b : Int} (h : a = b) : Ending.returned (.int k a) = .returned (.int k b) := by rw [h]

theorem ret1b {a b : Bool} (h : a = b) : Ending.returned (.bool a) = .returned (.bool b) := by rw [h]

end Go.Proofs.YtjcgngfidnechaaDoor

/- What firstTerm and checkRow answer. -/
namespace Go.Proofs.YtjcgngfidnechaaDoor
open Go.RowKit Go.Maps

/-- A symbol: its name and its arity. -/
abbrev Sy := ByteArray × Int

/-- A symbol at an address. -/
def ES (w : World) (g o : Nat) (s : Sy) : Prop := -9223372036854775808 ≤ s.2 ∧ s.2 ≤ 9223372036854775807 ∧ s.1.size ≤ maxLen ∧ w.cell? ⟨g, o, none⟩ = some (.string s.1) ∧ w.cell? ⟨g, o + 1, none⟩ = some (.int .i64 s.2)

theorem ES.kp {w w' : World} (hk : Kp w w') (g o : Nat) (s : Sy) (h : ES w g o s) : ES w' g o s := ⟨h.1, h.2.1, h.2.2.1, hk.cell _ _ h.2.2.2.1, hk.cell _ _ h.2.2.2.2⟩

/-- A signature. -/
def Sg (w : World) (v : Value) (sig : List Sy) : Prop := Row ES 2 w v sig
theorem Sg.kp {w w' : World} {v : Value} {sig : List Sy} (h : Sg w v sig) (hk : Kp w w') : Sg w' v sig := Row.imp h hk.size (ES.kp hk)

theorem Sg.at {w : World} {ao : Option Addr} {n cap : Nat} {sig : List Sy} (h : Sg w (.slice ao n cap) sig) {k : Nat} (hk : k < sig.length) :
    ∃ g off s a, ao = some ⟨g, off, none⟩ ∧ sig[k]? = some (s, a) ∧ w.cell? ⟨g, off + k * 2, none⟩ = some (.string s) ∧ w.cell? ⟨g, off + k * 2 + 1, none⟩ = some (.int .i64 a) ∧ -9223372036854775808 ≤ a ∧ a ≤ 9223372036854775807 ∧ s.size ≤ 9223372036854775807 := by
  obtain ⟨ao', cap', hv, _, _, hx⟩ := Row.flat h
  simp only [Value.slice.injEq] at hv
  obtain ⟨rfl, rfl, rfl⟩ := hv
  obtain ⟨g, off, ⟨s, a⟩, rfl, hm, h1, h2, h3, h4, h5⟩ := hx k hk
  unfold maxLen at h3
  exact ⟨g, off, s, a, rfl, hm, h4, h5, h1, h2, by simp only at h3; omega⟩

def ArOk (sig : List Sy) : Prop := ∀ s ∈ sig, 0 ≤ s.2 ∧ s.2 ≤ 1000

/-- How much a code changes what is missing; none: the code is wrong. -/
def codeD (sig : List Sy) (c : Int) : Option Int := if c < -1048576 then none else if c < 0 then some (-1) else match sig[c.toNat]? with | none => none | some s => some (s.2 - 1)

/-- The nodes of the term with which a row begins, and the error. -/
def firstT (sig : List Sy) : Int → Nat → List Int → Int × Int
  | _, _, [] => (0, 31)
  | m, i, c :: r => match codeD sig c with | none => (0, 30) | some e => if m + e = 0 then ((i : Int) + 1, 0) else firstT sig (m + e) (i + 1) r

theorem codeD_none {sig : List Sy} {c : Int} (h : (sig.length : Int) ≤ c ∨ c < -1048576) : codeD sig c = none := by
  unfold codeD
  rcases h with h | h
  · rw [if_neg (by omega), if_neg (by omega), List.getElem?_eq_none (by omega)]
  · rw [if_pos h]

theorem codeD_var {sig : List Sy} {c : Int} (h1 : -1048576 ≤ c) (h2 : c < 0) : codeD sig c = some (-1) := by
  unfold codeD
  rw [if_neg (by omega), if_pos h2]

theorem codeD_sym {sig : List Sy} {c : Nat} {s : Sy} (h : sig[c]? = some s) : codeD sig (c : Int) = some (s.2 - 1) := by
  unfold codeD
  rw [if_neg (by omega), if_neg (by omega), Int.toNat_natCast, h]

set_option maxRecDepth 100000 in
set_option maxHeartbeats 1600000 in
theorem firstTerm_any (sv v : Value) (sig : List Sy) (t : List Int) (w : World) (hs : Sg w sv sig) (h : Is w v t) (ha : ArOk sig) (hb : t.length * 8 ≤ 140737488351232) :
    Calls Tryd.prog 51 #[sv, v] w fun e w' => e = .returned (.tuple #[.int .i64 (firstT sig 1 0 t).1, .int .i64 (firstT sig 1 0 t).2]) ∧ w' = w := by
  obtain ⟨so, sc, rfl, hso, hsc, _⟩ := Row.flat hs
  obtain ⟨ao, cap, rfl, hao, hca, q0⟩ := Row.flat h
  unfold maxLen at hca hsc
  have HS : Hid (Sg w (.slice so sig.length sc) sig) := hs
  have HT : Hid (Is w (.slice ao t.length cap) t) := h
  have HA : Hid (ArOk sig) := ha
  clear hs h q0 ha
  go_enter Tryd.func51, Tryd.ntmps51
  go_wp2
  go_loopw [6, 11] (fun x i wr => ∃ (k : Nat) (m : Int), k ≤ t.length ∧ x = .int .i64 m ∧ i = .int .i64 k ∧ firstT sig 1 0 t = firstT sig m k (t.drop k) ∧ -(k : Int) ≤ m ∧ m ≤ 1 + 1000 * (k : Int) ∧ wr = w) (fun _ i _ => t.length - (intOf i).toNat)
  case atStart => exact ⟨0, 1, Nat.zero_le _, rfl, rfl, rfl, by omega, by omega, rfl⟩
  case round =>
    obtain ⟨k, m, hk, rfl, rfl, hft, hm1, hm2, hw⟩ := hrel
    have hw8 := hw.symm
    subst hw8
    have HF : Hid (firstT sig 1 0 t = firstT sig m k (t.drop k)) := hft
    clear hft hw
    by_cases hlt : k < t.length
    · obtain ⟨g, off, c, rfl, hx1, hx2, hx3, hx4⟩ := HT.out.at hlt
      have HD : Hid (t.drop k = c :: t.drop (k + 1)) := drop_get hx1
      clear hx1
      by_cases hbad : (sig.length : Int) ≤ c ∨ c < -1048576
      · have HR : Hid (firstT sig 1 0 t = (0, 30)) := by show _ = _; rw [HF.out, HD.out, firstT, codeD_none hbad]
        rcases hbad with hbad | hbad
        · go_wp2
          go_ret2
          exact ⟨by rw [HR.out]; rfl, rfl⟩
        · by_cases hbad2 : (sig.length : Int) ≤ c
          · omega
          · go_wp2
            go_ret2
            exact ⟨by rw [HR.out]; rfl, rfl⟩
      · have hb1 : ¬ (sig.length : Int) ≤ c := fun h => hbad (.inl h)
        have hb2 : ¬ c < -1048576 := fun h => hbad (.inr h)
        clear hbad
        by_cases hc0 : c < 0
        · have hcd : codeD sig c = some (-1) := codeD_var (by omega) hc0
          have hwm : IntKind.i64.wrap (m - 1) = m - 1 := IntWalk.i64_in _ ⟨by omega, by omega⟩
          by_cases hz : m - 1 = 0
          · have HR : Hid (firstT sig 1 0 t = ((k : Int) + 1, 0)) := by show _ = _; rw [HF.out, HD.out, firstT, hcd]; simp only; rw [if_pos (by omega)]
            have hzb : (m - 1 == 0) = true := by rw [beq_iff_eq]; exact hz
            clear hcd
            go_wp2
            go_ret2
            exact ⟨by rw [HR.out]; rfl, rfl⟩
          · have HN : Hid (firstT sig 1 0 t = firstT sig (m - 1) (k + 1) (t.drop (k + 1))) := by show _ = _; rw [HF.out, HD.out, firstT, hcd]; simp only; rw [if_neg (by omega)]; rfl
            have hzb : (m - 1 == 0) = false := by rw [beq_eq_false_iff_ne]; exact hz
            clear hcd
            go_wp2
            go_roundw
            case rel => exact ⟨k + 1, m - 1, by omega, rfl, by go_num, HN.out, by omega, by omega, trivial⟩
            case measure => simp [intOf]; omega
        · obtain ⟨cn, rfl⟩ : ∃ cn : Nat, c = cn := ⟨c.toNat, by omega⟩
          obtain ⟨g2, off2, nm, ar, rfl, hs1, hs2, hs3, hs4, hs5, hs6⟩ := HS.out.at (k := cn) (by omega)
          have har := HA.out _ (List.mem_of_getElem? hs1)
          simp only at har
          have hcd : codeD sig (cn : Int) = some (ar - 1) := codeD_sym hs1
          have hwa : IntKind.i64.wrap (ar - 1) = ar - 1 := IntWalk.i64_in _ ⟨by omega, by omega⟩
          have hwm : IntKind.i64.wrap (m + (ar - 1)) = m + (ar - 1) := IntWalk.i64_in _ ⟨by omega, by omega⟩
          have hcl : cn < sig.length := by omega
          clear hs1
          by_cases hz : m + (ar - 1) = 0
          · have HR : Hid (firstT sig 1 0 t = ((k : Int) + 1, 0)) := by show _ = _; rw [HF.out, HD.out, firstT, hcd]; simp only; rw [if_pos (by omega)]
            have hzb : (m + (ar - 1) == 0) = true := by rw [beq_iff_eq]; exact hz
            clear hcd
            go_wp2
            go_ret2
            exact ⟨by rw [HR.out]; rfl, rfl⟩
          · have HN : Hid (firstT sig 1 0 t = firstT sig (m + (ar - 1)) (k + 1) (t.drop (k + 1))) := by show _ = _; rw [HF.out, HD.out, firstT, hcd]; simp only; rw [if_neg (by omega)]
            have hzb : (m + (ar - 1) == 0) = false := by rw [beq_eq_false_iff_ne]; exact hz
            clear hcd
            go_wp2
            go_roundw
            case rel => exact ⟨k + 1, m + (ar - 1), by omega, rfl, by go_num, HN.out, by omega, by omega, trivial⟩
            case measure => simp [intOf]; omega
    · have HR : Hid (firstT sig 1 0 t = (0, 31)) := by show _ = _; rw [HF.out, List.drop_of_length_le (by omega)]; rfl
      go_wp2
      go_ret2
      exact ⟨by rw [HR.out]; rfl, rfl⟩

/-- Check, of a signature that may be. -/
def rowE (sig : List Sy) (t : List Int) : Int := if (firstT sig 1 0 t).2 = 0 ∧ (firstT sig 1 0 t).1 < (t.length : Int) then 32 else (firstT sig 1 0 t).2

set_option maxRecDepth 100000 in
set_option maxHeartbeats 800000 in
theorem checkRow_any (sv v : Value) (sig : List Sy) (t : List Int) (w : World) (hs : Sg w sv sig) (h : Is w v t) (ha : ArOk sig) (hb : t.length * 8 ≤ 140737488351232) :
    Calls Tryd.prog 34 #[sv, v] w fun e w' => e = .returned (.int .i64 (rowE sig t)) ∧ w' = w := by
  obtain ⟨ao, cap, rfl, hao, hca, q0⟩ := Row.flat h
  unfold maxLen at hca
  have HS : Hid (Sg w sv sig) := hs
  have HT : Hid (Is w (.slice ao t.length cap) t) := h
  clear hs h q0
  go_enter Tryd.func34, Tryd.ntmps34
  go_wp2_with fail
  refine (firstTerm_any sv _ sig t _ HS.out HT.out ha hb).mono ?_
  rintro e w1 ⟨rfl, hw⟩
  have hw8 := hw.symm
  subst hw8
  obtain ⟨N, hN⟩ : ∃ N, N = (firstT sig 1 0 t).1 := ⟨_, rfl⟩
  obtain ⟨E, hE⟩ : ∃ E, E = (firstT sig 1 0 t).2 := ⟨_, rfl⟩
  have HR : Hid (rowE sig t = if E = 0 ∧ N < (t.length : Int) then 32 else E) := by show _ = _; unfold rowE; rw [← hN, ← hE]
  rw [← hN, ← hE]
  clear hN hE hw
  by_cases h0 : E = 0
  · subst h0
    by_cases h1 : N < (t.length : Int)
    · have HF : Hid (rowE sig t = 32) := by show _ = _; rw [HR.out, if_pos ⟨rfl, h1⟩]
      go_wp2
      go_ret
      exact ⟨ret1i HF.out.symm, rfl⟩
    · have HF : Hid (rowE sig t = 0) := by show _ = _; rw [HR.out, if_neg (fun hh => h1 hh.2)]
      go_wp2
      go_ret
      exact ⟨ret1i HF.out.symm, rfl⟩
  · have hb0 : (E == 0) = false := by rw [beq_eq_false_iff_ne]; exact h0
    have HF : Hid (rowE sig t = E) := by show _ = _; rw [HR.out, if_neg (fun hh => h0 hh.1)]
    go_wp2
    go_ret
    exact ⟨ret1i HF.out.symm, rfl⟩

end Go.Proofs.YtjcgngfidnechaaDoor

/- What isName answers. -/
namespace Go.Proofs.YtjcgngfidnechaaDoor
open Go.RowKit Go.Maps

def letB (r : Int) : Bool := (decide (97 ≤ r) && decide (r ≤ 122)) || (decide (65 ≤ r) && decide (r ≤ 90)) || decide (128 ≤ r)
def folB (r : Int) : Bool := (decide (48 ≤ r) && decide (r ≤ 57)) || decide (r = 95) || decide (r = 39)

set_option maxRecDepth 100000 in
theorem isLetter_any (r : Int) (w : World) : Calls Tryd.prog 58 #[.int .i32 r] w fun e w' => e = .returned (.bool (letB r)) ∧ w' = w := by
  obtain ⟨B, hB⟩ : ∃ B, B = letB r := ⟨_, rfl⟩
  rw [← hB]
  have HB : Hid (B = letB r) := hB
  clear hB
  go_enter Tryd.func58, Tryd.ntmps58
  by_cases h1 : 97 ≤ r
  · by_cases h2 : r ≤ 122
    · have HF : Hid (B = true) := by show _ = _; rw [HB.out]; unfold letB; simp [h1, h2]
      clear HB
      go_wp2
      go_ret
      exact ⟨ret1b HF.out.symm, rfl⟩
    · have HF : Hid (B = decide (128 ≤ r)) := by show _ = _; rw [HB.out]; unfold letB; rw [decide_eq_false h2, decide_eq_false (show ¬ r ≤ 90 by omega)]; simp
      clear HB
      have h3 : 65 ≤ r := by omega
      have h4 : ¬ r ≤ 90 := by omega
      go_wp2
      go_ret
      exact ⟨ret1b HF.out.symm, rfl⟩
  · by_cases h3 : 65 ≤ r
    · by_cases h4 : r ≤ 90
      · have HF : Hid (B = true) := by show _ = _; rw [HB.out]; unfold letB; simp [h3, h4]
        clear HB
        go_wp2
        go_ret
        exact ⟨ret1b HF.out.symm, rfl⟩
      · have HF : Hid (B = decide (128 ≤ r)) := by show _ = _; rw [HB.out]; unfold letB; rw [decide_eq_false h1, decide_eq_false h4]; simp
        clear HB
        go_wp2
        go_ret
        exact ⟨ret1b HF.out.symm, rfl⟩
    · have HF : Hid (B = decide (128 ≤ r)) := by show _ = _; rw [HB.out]; unfold letB; rw [decide_eq_false h1, decide_eq_false h3]; simp
      clear HB
      go_wp2
      go_ret
      exact ⟨ret1b HF.out.symm, rfl⟩

set_option maxRecDepth 100000 in
theorem followsLetter_any (r : Int) (w : World) : Calls Tryd.prog 59 #[.int .i32 r] w fun e w' => e = .returned (.bool (folB r)) ∧ w' = w := by
  obtain ⟨B, hB⟩ : ∃ B, B = folB r := ⟨_, rfl⟩
  rw [← hB]
  have HB : Hid (B = folB r) := hB
  clear hB
  go_enter Tryd.func59, Tryd.ntmps59
  by_cases h1 : 48 ≤ r
  · by_cases h2 : r ≤ 57
    · have HF : Hid (B = true) := by show _ = _; rw [HB.out]; unfold folB; simp [h1, h2]
      clear HB
      go_wp2
      go_ret
      exact ⟨ret1b HF.out.symm, rfl⟩
    · by_cases h3 : r = 95
      · have HF : Hid (B = true) := by show _ = _; rw [HB.out]; unfold folB; simp [h3]
        have h3b : (r == 95) = true := by rw [beq_iff_eq]; exact h3
        clear HB
        go_wp2
        go_ret
        exact ⟨ret1b HF.out.symm, rfl⟩
      · have HF : Hid (B = decide (r = 39)) := by show _ = _; rw [HB.out]; unfold folB; rw [decide_eq_false h2, decide_eq_false h3]; simp
        have h3b : (r == 95) = false := by rw [beq_eq_false_iff_ne]; exact h3
        clear HB
        go_wp2
        go_ret
        exact ⟨ret1b (by rw [HF.out]; rfl), rfl⟩
  · by_cases h3 : r = 95
    · omega
    · have HF : Hid (B = decide (r = 39)) := by show _ = _; rw [HB.out]; unfold folB; rw [decide_eq_false h1, decide_eq_false h3]; simp
      have h3b : (r == 95) = false := by rw [beq_eq_false_iff_ne]; exact h3
      clear HB
      go_wp2
      go_ret
      exact ⟨ret1b (by rw [HF.out]; rfl), rfl⟩

theorem width_pos (s : ByteArray) (pos : Nat) (h : pos < s.size) : 1 ≤ (Utf8.decode s pos).2 := by
  by_cases ha : (s[pos]'h).toNat < 128
  · rw [decode_ascii s pos h ha]
    exact Nat.le_refl _
  · exact (decode_high s pos h (by omega)).2

/-- Whether the runes from a place on may stand in a name. -/
def nmGo (s : ByteArray) : Nat → Nat → Bool
  | 0, _ => true
  | b + 1, pos => if pos < s.size then (letB (Utf8.decode s pos).1 || (!decide (pos = 0) && folB (Utf8.decode s pos).1)) && nmGo s b (pos + (Utf8.decode s pos).2) else true

theorem nmGo_end (s : ByteArray) (b pos : Nat) (h : ¬ pos < s.size) : nmGo s b pos = true := by
  cases b with
  | zero => rfl
  | succ b => simp [nmGo, h]

def nameB (B : Bool) (s : ByteArray) : Bool := !decide (s.size = 0) && (!decide (32 < s.size) && (B && nmGo s s.size 0))

theorem below_iter (w : World) (s : ByteArray) (pos : Nat) : Below w.heap.size w (w.iter s pos) := below_alloc _

set_option maxRecDepth 1000000 in
set_option maxHeartbeats 1600000 in
theorem isName_any (B : Bool) (s : ByteArray) (w : World) (hs : s.size ≤ 9223372036854775807) (hV : Calls Tryd.prog 57 #[.string s] w fun e w' => e = .returned (.bool B) ∧ Below w.heap.size w w') :
    Calls Tryd.prog 44 #[.string s] w fun e w' => e = .returned (.bool (nameB B s)) ∧ Below w.heap.size w w' := by
  have HV : Hid (Calls Tryd.prog 57 #[.string s] w fun e w' => e = .returned (.bool B) ∧ Below w.heap.size w w') := hV
  clear hV
  go_enter Tryd.func44, Tryd.ntmps44
  by_cases h0 : s.size = 0
  · have he : s.toList.isEmpty = true := by
      have hl : s.toList.length = 0 := by rw [← h0]; simp [ByteArray.toList_eq]
      rw [List.length_eq_zero_iff.mp hl]; rfl
    have HF : Hid (nameB B s = false) := by show _ = _; unfold nameB; rw [decide_eq_true h0]; rfl
    go_wp2
    go_ret
    exact ⟨ret1b HF.out.symm, Below.refl _ _⟩
  · have he : s.toList.isEmpty = false := by
      cases hl : s.toList with
      | nil => exact absurd (by have := congrArg List.length hl; simpa [ByteArray.toList_eq] using this) h0
      | cons a l => rfl
    by_cases h32 : 32 < s.size
    · have HF : Hid (nameB B s = false) := by show _ = _; unfold nameB; rw [decide_eq_true h32]; simp
      go_wp2
      go_ret
      exact ⟨ret1b HF.out.symm, Below.refl _ _⟩
    · go_wp2_with fail
      refine HV.out.mono ?_
      rintro e w1 ⟨rfl, hb1⟩
      have HB1 : Hid (Below w.heap.size w w1) := hb1
      clear hb1
      cases B
      · have HF : Hid (nameB false s = false) := by show _ = _; unfold nameB; simp
        go_wp2
        go_ret
        exact ⟨ret1b HF.out.symm, HB1.out⟩
      · have HF : Hid (nameB true s = nmGo s s.size 0) := by show _ = _; unfold nameB; rw [decide_eq_false h0, decide_eq_false h32]; rfl
        go_wp2
        go_loopw [] (fun w' => ∃ (pos b : Nat), w' = w1.iter s pos ∧ nmGo s s.size 0 = nmGo s b pos ∧ s.size ≤ pos + b) (fun w' => s.size - w'.iterPos w1.heap.size)
        case atStart => exact ⟨0, s.size, rfl, rfl, by omega⟩
        case round =>
          obtain ⟨pos, b, rfl, hc, hb⟩ := hrel
          have HC : Hid (nmGo s s.size 0 = nmGo s b pos) := hc
          clear hc
          by_cases hp : pos < s.size
          · have hnx : ∀ ty, (Instr.next (.pointer (some ⟨w1.heap.size, 0, none⟩)) true ty).run Tryd.prog (w1.iter s pos) = _ := fun ty => run_next_any w1 s pos ty hp
            have hwd := width_pos s pos hp
            obtain ⟨b', rfl⟩ : ∃ b', b = b' + 1 := ⟨b - 1, by omega⟩
            obtain ⟨r, hr⟩ : ∃ r : Nat, r = (Utf8.decode s pos).1 := ⟨_, rfl⟩
            obtain ⟨wd, hwd2⟩ : ∃ wd : Nat, wd = (Utf8.decode s pos).2 := ⟨_, rfl⟩
            have HS : Hid (nmGo s s.size 0 = ((letB (r : Int) || (!decide (pos = 0) && folB (r : Int))) && nmGo s b' (pos + wd))) := by
              show _ = _
              rw [HC.out, nmGo, if_pos hp, ← hr, ← hwd2]
            rw [← hwd2] at hwd
            have HFi : Hid (s.size ≤ pos + wd + b') := by show _ ≤ _; omega
            rw [← hr, ← hwd2] at hnx
            clear hr hwd2 HC
            go_wp2_with fail
            refine (isLetter_any (r : Int) _).mono ?_
            rintro e w9 ⟨rfl, hw9⟩
            have hw8 := hw9.symm
            subst hw8
            clear hw9 hnx
            cases hL : letB (r : Int)
            · by_cases hp0 : pos = 0
              · have HFF : Hid (nameB true s = false) := by show _ = _; rw [HF.out, HS.out, hL, decide_eq_true hp0]; rfl
                subst hp0
                go_wp2
                go_ret
                exact ⟨ret1b HFF.out.symm, below_step HB1.out (below_iter _ _ _)⟩
              · have hp0b : ((pos : Int) == 0) = false := by rw [beq_eq_false_iff_ne]; omega
                go_wp2_with fail
                refine (followsLetter_any (r : Int) _).mono ?_
                rintro e w9 ⟨rfl, hw9⟩
                have hw8 := hw9.symm
                subst hw8
                clear hw9
                cases hFo : folB (r : Int)
                · have HFF : Hid (nameB true s = false) := by show _ = _; rw [HF.out, HS.out, hL, hFo]; simp
                  go_wp2
                  go_ret
                  exact ⟨ret1b HFF.out.symm, below_step HB1.out (below_iter _ _ _)⟩
                · have HN : Hid (nmGo s s.size 0 = nmGo s b' (pos + wd)) := by show _ = _; rw [HS.out, hL, hFo, decide_eq_false hp0]; rfl
                  go_wp2
                  go_roundw
                  case rel => exact ⟨pos + wd, b', rfl, HN.out, HFi.out⟩
                  case measure => simp; omega
            · have HN : Hid (nmGo s s.size 0 = nmGo s b' (pos + wd)) := by show _ = _; rw [HS.out, hL]; rfl
              go_wp2
              go_roundw
              case rel => exact ⟨pos + wd, b', rfl, HN.out, HFi.out⟩
              case measure => simp; omega
          · have HFF : Hid (nameB true s = true) := by show _ = _; rw [HF.out, HC.out, nmGo_end s b pos hp]
            have hnx : ∀ ty, (Instr.next (.pointer (some ⟨w1.heap.size, 0, none⟩)) true ty).run Tryd.prog (w1.iter s pos) = _ := fun ty => run_next_end w1 s pos ty hp
            go_wp2
            go_ret
            exact ⟨ret1b HFF.out.symm, below_step HB1.out (below_iter _ _ _)⟩

end Go.Proofs.YtjcgngfidnechaaDoor

/- The library's functions that term reaches, laid at this program. -/
namespace Go.Proofs
open Go.Shelf Go.RowKit Go.Lib

def Tryd.trimLay_ren : Go.Shelf.Ren := ⟨fun | 102 => 45 | 209 => 60 | 207 => 64 | n => n, fun | 9 => 9 | 4 => 4 | 3 => 3 | n => n, fun | n => n⟩
theorem Tryd.trimLay : Go.Proofs.Lays.n102 Tryd.prog Tryd.trimLay_ren := {
  mixed := by kernel_rfl
  f102 := Tryd.func45.trans (congrArg some (by kernel_rfl))
  f207 := Tryd.func64.trans (congrArg some (by kernel_rfl))
  f209 := Tryd.func60.trans (congrArg some (by kernel_rfl))
  t3 := Tryd.underlying3
  a3 := Tryd.isAgg3
  z3 := Tryd.sizeOf3
  v3 := Tryd.zeroValue3
  t4 := Tryd.underlying4
  a4 := Tryd.isAgg4
  z4 := Tryd.sizeOf4
  v4 := Tryd.zeroValue4
  t9 := Tryd.underlying9
  a9 := Tryd.isAgg9
  z9 := Tryd.sizeOf9
  v9 := Tryd.zeroValue9 }

def Tryd.validLay_ren : Go.Shelf.Ren := ⟨fun | 196 => 57 | 259 => 63 | n => n, fun | 9 => 9 | 4 => 4 | 3 => 3 | 5 => 5 | 12 => 12 | 119 => 82 | 0 => 0 | 46 => 86 | 139 => 85 | 138 => 84 | 53 => 88 | n => n, fun | 3 => 0 | 4 => 1 | n => n⟩
theorem Tryd.validLay : Go.Proofs.Lays.n196 Tryd.prog Tryd.validLay_ren := {
  mixed := by kernel_rfl
  f196 := Tryd.func57.trans (congrArg some (by kernel_rfl))
  f259 := Tryd.func63.trans (congrArg some (by kernel_rfl))
  t0 := Tryd.underlying0
  a0 := Tryd.isAgg0
  z0 := Tryd.sizeOf0
  v0 := Tryd.zeroValue0
  t3 := Tryd.underlying3
  a3 := Tryd.isAgg3
  z3 := Tryd.sizeOf3
  v3 := Tryd.zeroValue3
  t4 := Tryd.underlying4
  a4 := Tryd.isAgg4
  z4 := Tryd.sizeOf4
  v4 := Tryd.zeroValue4
  t5 := Tryd.underlying5
  a5 := Tryd.isAgg5
  z5 := Tryd.sizeOf5
  v5 := Tryd.zeroValue5
  t9 := Tryd.underlying9
  a9 := Tryd.isAgg9
  z9 := Tryd.sizeOf9
  v9 := Tryd.zeroValue9
  t12 := Tryd.underlying12
  a12 := Tryd.isAgg12
  z12 := Tryd.sizeOf12
  v12 := Tryd.zeroValue12
  t46 := Tryd.underlying86
  a46 := Tryd.isAgg86
  z46 := Tryd.sizeOf86
  v46 := Tryd.zeroValue86
  t53 := Tryd.underlying88
  a53 := Tryd.isAgg88
  z53 := Tryd.sizeOf88
  v53 := Tryd.zeroValue88
  t119 := Tryd.underlying82
  a119 := Tryd.isAgg82
  z119 := Tryd.sizeOf82
  t138 := Tryd.underlying84
  a138 := Tryd.isAgg84
  z138 := Tryd.sizeOf84
  v138 := Tryd.zeroValue84
  t139 := Tryd.underlying85
  a139 := Tryd.isAgg85
  z139 := Tryd.sizeOf85
  v139 := Tryd.zeroValue85
  g3 := by kernel_rfl
  g4 := by kernel_rfl }

def Tryd.hasLay_ren : Go.Shelf.Ren := ⟨fun | 8 => 46 | 6 => 61 | n => n, fun | 22 => 22 | 23 => 40 | 25 => 61 | 4 => 4 | 3 => 3 | 0 => 0 | n => n, fun | n => n⟩
theorem Tryd.hasLay : Go.Proofs.SlLaysH0.n8 Tryd.prog Tryd.hasLay_ren := {
  mixed := by kernel_rfl
  f6 := ⟨Tryd.f61.name, by decide, Tryd.func61.trans (congrArg some (by kernel_rfl))⟩
  f8 := ⟨Tryd.f46.name, by decide, Tryd.func46.trans (congrArg some (by kernel_rfl))⟩
  t0 := Tryd.underlying0
  a0 := Tryd.isAgg0
  z0 := Tryd.sizeOf0
  v0 := Tryd.zeroValue0
  t3 := Tryd.underlying3
  a3 := Tryd.isAgg3
  z3 := Tryd.sizeOf3
  v3 := Tryd.zeroValue3
  t4 := Tryd.underlying4
  a4 := Tryd.isAgg4
  z4 := Tryd.sizeOf4
  v4 := Tryd.zeroValue4
  t22 := Tryd.underlying22
  a22 := Tryd.isAgg22
  z22 := Tryd.sizeOf22
  v22 := Tryd.zeroValue22
  t25 := Tryd.underlying61
  a25 := Tryd.isAgg61
  z25 := Tryd.sizeOf61
  v25 := Tryd.zeroValue61 }

end Go.Proofs

namespace Go.Proofs.YtjcgngfidnechaaDoor
open Go.RowKit Go.Maps

/-- The tables of the library, as they are laid. -/
def Tabs (w : World) : Prop := Lib.Utf8Tabs (Tryd.validLay_ren.g 3) (Tryd.validLay_ren.g 4) w

theorem valid_any (s : ByteArray) (w : World) (hs : s.size ≤ 9223372036854775807) (hT : Tabs w) :
    Calls Tryd.prog 57 #[.string s] w fun e w' => e = .returned (.bool (Lib.validD s.data.toList)) ∧ Below w.heap.size w w' := Any.utf8_ValidString Tryd.validLay s w hs hT

/-- A name without its mark. -/
def bare (s : ByteArray) : ByteArray := ⟨(Lib.trimSuffix s.data.toList "#".toUTF8.data.toList).toArray⟩

def symB (s : ByteArray) : Bool := nameB (Lib.validD (bare s).data.toList) (bare s)

theorem bare_size (s : ByteArray) : (bare s).size ≤ s.size := by
  show (Lib.trimSuffix s.data.toList _).toArray.size ≤ s.data.size
  unfold Lib.trimSuffix
  split
  · simp only [List.size_toArray, List.length_take, Array.length_toList]; omega
  · simp

set_option maxRecDepth 100000 in
theorem isSymbolName_any (s : ByteArray) (w : World) (hs : s.size ≤ 9223372036854775807) (hT : Tabs w) :
    Calls Tryd.prog 30 #[.string s] w fun e w' => e = .returned (.bool (symB s)) ∧ Below w.heap.size w w' := by
  have cT : Calls Tryd.prog 45 #[.string s, .string "#".toUTF8] w fun e w' => e = .returned (.string (bare s)) ∧ w' = w := Any.strings_TrimSuffix Tryd.trimLay s "#".toUTF8 w hs
  have hb := bare_size s
  have cN := isName_any (Lib.validD (bare s).data.toList) (bare s) w (by omega) (valid_any _ w (by omega) hT)
  have HT : Hid (Calls Tryd.prog 45 #[.string s, .string "#".toUTF8] w fun e w' => e = .returned (.string (bare s)) ∧ w' = w) := cT
  have HN : Hid (Calls Tryd.prog 44 #[.string (bare s)] w fun e w' => e = .returned (.bool (symB s)) ∧ Below w.heap.size w w') := cN
  clear cT cN hb
  generalize bare s = b at HT HN
  generalize symB s = B at HN ⊢
  go_enter Tryd.func30, Tryd.ntmps30
  go_wp2_with fail
  refine HT.out.mono ?_
  rintro e w9 ⟨rfl, hw9⟩
  have hw8 := hw9.symm
  subst hw8
  clear hw9
  go_wp2_with fail
  refine HN.out.mono ?_
  rintro e w9 ⟨rfl, hb9⟩
  go_wp2
  go_ret
  exact ⟨rfl, hb9⟩

end Go.Proofs.YtjcgngfidnechaaDoor

/- What hasName, CheckSig and Check answer. -/
namespace Go.Proofs.YtjcgngfidnechaaDoor
open Go.RowKit Go.Maps Go.BigFrame

theorem hid {p : Prop} (h : p) : Hid p := h

theorem box2 {w w1 : World} {x y : Value} {t : TypeId} (hb : Below (w.alloc (.cells #[x, y] t)).heap.size (w.alloc (.cells #[x, y] t)) w1) :
    w1.cell? ⟨w.heap.size, 0, none⟩ = some x ∧ w1.cell? ⟨w.heap.size, 1, none⟩ = some y ∧ Below w.heap.size w w1 :=
  ⟨(hb.cell (p := ⟨w.heap.size, 0, none⟩) (by simp)).trans (by simp), (hb.cell (p := ⟨w.heap.size, 1, none⟩) (by simp)).trans (by simp), below_step (below_alloc _) hb⟩

theorem region_below {P : Program} {id : Nat} {Q : Exit → Act → World → Prop} {a : Act} {w : World} {l : List Oper} (hm : P.follows .mixedOrders = true) (hB : Region.lexB .any l.toArray = true)
    (h : wpQuiet P l.toArray (fun w' => Below w.heap.size w w') (fun a' => ∀ w', Below w.heap.size w w' → Q .normal a' w') l a) : (Code.region id l.toArray true).wp P Q a w :=
  wp_region_quiet (C := fun w' => Below w.heap.size w w') hm hB (Below.refl _ _).drew (by simpa using h)

/-- A symbol's cells. -/
def encS (s : Sy) : List Value := [.string s.1, .int .i64 s.2]

def sameS (a b : ByteArray) : Bool := a.toList == b.toList

theorem hasClosure (nm : ByteArray) (B : Nat) (w : World) (hB : B < w.heap.size) (hcell : w.cell? ⟨B, 0, none⟩ = some (.string nm)) :
    PredBelow Tryd.prog 47 #[.pointer (some ⟨B, 0, none⟩)] (fun x => .agg (encS x).toArray) (fun x => sameS x.1 nm) w := fun W x hb => by
  have hc : W.cell? ⟨B, 0, none⟩ = some (.string nm) := (hb.cell (p := ⟨B, 0, none⟩) hB).trans hcell
  have hBW : B < W.heap.size := Nat.lt_of_lt_of_le hB hb.size
  have hne : B ≠ W.heap.size := by omega
  show Calls Tryd.prog 47 #[.agg #[.string x.1, .int .i64 x.2], .pointer (some ⟨B, 0, none⟩)] W _
  go_enter Tryd.func47, Tryd.ntmps47
  go_wp2
  all_goals (go_ret; exact ⟨rfl, hb.alloc hb.size _⟩)

def hasB (sig : List Sy) (nm : ByteArray) : Bool := sig.any fun x => sameS x.1 nm

set_option maxRecDepth 100000 in
set_option maxHeartbeats 1000000 in
theorem hasName_any (g off cap : Nat) (n : Nat) (sig : List Sy) (nm : ByteArray) (w : World) (hs : Sg w (.slice (some ⟨g, off, none⟩) sig.length cap) sig) (hn : n ≤ sig.length) (hl : 0 < sig.length) :
    Calls Tryd.prog 31 #[.slice (some ⟨g, off, none⟩) n cap, .string nm] w fun e w' => e = .returned (.bool (hasB (sig.take n) nm)) ∧ Below w.heap.size w w' := by
  have eg : ∀ args w, (callFunc 47 args).run Tryd.prog w = .ok (.enter 47 args) w := enters_of Tryd.func47 (by kernel_rfl) rfl
  obtain ⟨so, sc, hv, _, hsc, _⟩ := Row.flat hs
  have hg : g < w.heap.size := by
    obtain ⟨g', off', s, a, he, _, hc, _⟩ := Sg.at hs hl
    simp only [Option.some.injEq, Addr.mk.injEq] at he
    obtain ⟨rfl, _⟩ := he
    exact World.block_lt_of_cell? _ _ hc
  have hbig : n ≤ 9223372036854775807 := by
    simp only [Value.slice.injEq] at hv
    obtain ⟨_, _, rfl⟩ := hv
    unfold maxLen at hsc; omega
  have hcon := AnyQ.slices_ContainsFunc Tryd.hasLay 2 Tryd.isAgg40 Tryd.sizeOf40 encS (fun _ => rfl) (fun x => sameS x.1 nm) 47 #[.pointer (some ⟨w.heap.size, 0, none⟩)] eg g off n cap sig (w.alloc (.cells #[.string nm] 9))
    (hasClosure nm w.heap.size _ (by simp) (by simp)) hn hbig (by simp; omega) (fun j hj i v hi => by
      refine Lib.cell?_alloc_some _ ?_
      obtain ⟨g', off', s, a, he, hm, h1, h2, _⟩ := Sg.at hs hj
      simp only [Option.some.injEq, Addr.mk.injEq] at he
      obtain ⟨rfl, rfl, _⟩ := he
      have hy : sig[j]! = (s, a) := by rw [List.getElem!_eq_getElem?_getD, hm]; rfl
      rw [hy] at hi
      match i, hi with
      | 0, hi => simp [encS] at hi; rw [← hi]; exact h1
      | 1, hi => simp [encS] at hi; rw [← hi]; exact h2
      | i + 2, hi => simp [encS] at hi)
  change Calls Tryd.prog 46 _ _ _ at hcon
  change Calls Tryd.prog _ _ _ (fun e w' => e = .returned (.bool (hasB (sig.take n) nm)) ∧ _) at hcon
  generalize hasB (sig.take n) nm = r at hcon ⊢
  have HC := hid hcon
  clear hcon hs hg hv
  go_enter Tryd.func31, Tryd.ntmps31
  go_wp2_with fail
  refine HC.out.mono ?_
  rintro e w' ⟨rfl, hb'⟩
  go_wp2
  go_ret
  exact ⟨rfl, ((Below.refl _ w).alloc (Nat.le_refl _) _).trans (hb'.mono (by simp))⟩

/-- What is wrong with a signature, from a place on. -/
def sigGo (sig : List Sy) : Nat → List Sy → Int
  | _, [] => 0
  | k, s :: r => if symB s.1 then (if s.2 < 0 ∨ 8 < s.2 then 35 else if hasB (sig.take k) s.1 then 36 else sigGo sig (k + 1) r) else 34

def sigE (sig : List Sy) : Int := if 128 < sig.length then 37 else sigGo sig 0 sig

theorem Tabs.below {w w' : World} (h : Tabs w) (hb : Below w.heap.size w w') : Tabs w' := Utf8Tabs_below h hb

set_option maxRecDepth 100000 in
set_option maxHeartbeats 1600000 in
theorem checkSig_any (sv : Value) (sig : List Sy) (w : World) (hs : Sg w sv sig) (hT : Tabs w) :
    Calls Tryd.prog 10 #[sv] w fun e w' => e = .returned (.int .i64 (sigE sig)) ∧ Below w.heap.size w w' := by
  obtain ⟨so, sc, rfl, hso, hsc, _⟩ := Row.flat hs
  unfold maxLen at hsc
  have HS : Hid (Sg w (.slice so sig.length sc) sig) := hs
  have HT : Hid (Tabs w) := hT
  clear hs hT
  go_enter Tryd.func10, Tryd.ntmps10
  by_cases h128 : 128 < sig.length
  · have HR : Hid (sigE sig = 37) := by show _ = _; unfold sigE; rw [if_pos h128]
    go_wp2
    go_ret
    exact ⟨ret1i HR.out.symm, Below.refl _ _⟩
  · have HR : Hid (sigE sig = sigGo sig 0 sig) := by show _ = _; unfold sigE; rw [if_neg h128]
    go_wp2
    go_loopw [10] (fun i wr => ∃ k : Nat, k ≤ sig.length ∧ i = .int .i64 k ∧ sigGo sig 0 sig = sigGo sig k (sig.drop k) ∧ Below w.heap.size w wr) (fun i _ => sig.length - (intOf i).toNat)
    case atStart => exact ⟨0, Nat.zero_le _, rfl, rfl, Below.refl _ _⟩
    case round =>
      obtain ⟨k, hk, rfl, hgo, hbl⟩ := hrel
      have HG : Hid (sigGo sig 0 sig = sigGo sig k (sig.drop k)) := hgo
      clear hgo
      by_cases hlt : k < sig.length
      · have HSr : Hid (Sg wr (.slice so sig.length sc) sig) := HS.out.kp (Kp.of_below hbl)
        have HTr : Hid (Tabs wr) := HT.out.below hbl
        obtain ⟨g, off, s, a, rfl, hm, hc0, hc1, ha1, ha2, hs3⟩ := HSr.out.at hlt
        have HD : Hid (sigE sig = if symB s then (if a < 0 ∨ 8 < a then 35 else if hasB (sig.take k) s then 36 else sigGo sig (k + 1) (sig.drop (k + 1))) else 34) := by
          show _ = _
          rw [HR.out, HG.out, drop_get hm]
          rfl
        clear hm
        go_wp2_with fail
        refine (isSymbolName_any s _ hs3 (HTr.out.below (below_alloc _))).mono ?_
        rintro e w1 ⟨rfl, hb1⟩
        obtain ⟨hd0, hd1, hbl1⟩ := box2 hb1
        have HB : Hid (Below w.heap.size w w1) := below_step hbl hbl1
        have HS1 : Hid (Sg w1 (.slice (some ⟨g, off, none⟩) sig.length sc) sig) := HSr.out.kp (Kp.of_below hbl1)
        clear hb1 hbl1 hbl hc0 hc1
        cases hsy : symB s
        · have HF : Hid (sigE sig = 34) := by show _ = _; rw [HD.out, hsy]; rfl
          go_wp2
          go_ret
          exact ⟨ret1i HF.out.symm, HB.out⟩
        by_cases ha0 : a < 0
        · have HF : Hid (sigE sig = 35) := by show _ = _; rw [HD.out, hsy, if_pos rfl, if_pos (.inl ha0)]
          go_wp2
          go_ret
          exact ⟨ret1i HF.out.symm, HB.out⟩
        by_cases ha8 : 8 < a
        · have HF : Hid (sigE sig = 35) := by show _ = _; rw [HD.out, hsy, if_pos rfl, if_pos (.inr ha8)]
          go_wp2
          go_ret
          exact ⟨ret1i HF.out.symm, HB.out⟩
        have HF : Hid (sigE sig = if hasB (sig.take k) s then 36 else sigGo sig (k + 1) (sig.drop (k + 1))) := by show _ = _; rw [HD.out, hsy, if_pos rfl, if_neg (by omega)]
        clear HD
        obtain ⟨hs, hhs⟩ : ∃ hs, hs = hasB (sig.take k) s := ⟨_, rfl⟩
        have HH : Hid (∀ W, Below w1.heap.size w1 W → Calls Tryd.prog 31 #[.slice (some ⟨g, off, none⟩) k sc, .string s] W fun e w' => e = .returned (.bool hs) ∧ Below W.heap.size W w') :=
          fun W hW => by rw [hhs]; exact hasName_any g off sc k sig s W (HS1.out.kp (Kp.of_below hW)) (by omega) (by omega)
        rw [← hhs] at HF
        clear hhs
        have hksc : k ≤ sc := by omega
        go_wp2_with fail
        refine region_below (by kernel_rfl) (by kernel_rfl) ?_
        (go_big_quiet_want; go_big_quiet_op; go_big_quiet_on)
        (go_big_quiet_want; go_big_quiet_op; go_big_quiet_on)
        go_big_quiet_want
        refine ⟨.slice (some ⟨g, off, none⟩) k sc, fun w' hw' => ?_, ?_⟩
        · unfold Oper.quietAt; go_simp
        simp only [Act.put, List.setIfInBounds_toArray, List.set_cons_zero, List.set_cons_succ]
        go_big_quiet_on
        go_big_quiet_want
        refine ⟨.pointer (some ⟨wr.heap.size, 0, none⟩), fun w' hw' => ?_, ?_⟩
        · unfold Oper.quietAt; go_simp
        simp only [Act.put, List.setIfInBounds_toArray, List.set_cons_zero, List.set_cons_succ]
        go_big_quiet_on
        go_big_quiet_want
        refine ⟨.string s, fun w' hw' => ?_, ?_⟩
        · have hh0 := (Kp.of_below hw').cell _ _ hd0; unfold Oper.quietAt; go_simp
        simp only [Act.put, List.setIfInBounds_toArray, List.set_cons_zero, List.set_cons_succ]
        go_big_quiet_on
        go_big_quiet_want
        refine ⟨.bool hs, fun w' hw' => ?_, ?_⟩
        · unfold Oper.quietAt; go_simp; exact (HH.out w' hw').mono (fun e w2 ⟨he, hb⟩ => ⟨he, below_step hw' hb⟩)
        simp only [Act.put, List.setIfInBounds_toArray, List.set_cons_zero, List.set_cons_succ]
        go_big_quiet_on
        (go_big_quiet_want; go_big_quiet_op; go_big_quiet_on)
        refine wpQuiet_nil ?_
        intro w2 hb2
        have HB2 : Hid (Below w.heap.size w w2) := below_step HB.out hb2
        clear hb2
        clear HH
        cases hs
        · have HN : Hid (sigGo sig 0 sig = sigGo sig (k + 1) (sig.drop (k + 1))) := by show _ = _; rw [← HR.out, HF.out]; rfl
          go_wp2
          go_roundw
          case rel => exact ⟨k + 1, by omega, by go_num, HN.out, HB2.out⟩
          case measure => simp [intOf]; omega
        · have HN : Hid (sigE sig = 36) := by show _ = _; rw [HF.out]; rfl
          go_wp2
          go_ret
          exact ⟨ret1i HN.out.symm, HB2.out⟩
      · have hke : k = sig.length := by omega
        subst hke
        have HF : Hid (sigE sig = 0) := by show _ = _; rw [HR.out, HG.out, List.drop_length]; rfl
        go_wp2
        go_ret
        exact ⟨ret1i HF.out.symm, hbl⟩

end Go.Proofs.YtjcgngfidnechaaDoor

/- Rows of trees: cloned, turned round. -/
namespace Go.Proofs.YtjcgngfidnechaaDoor
open Go.RowKit Go.Maps

theorem info_tree : (Tryd.prog.info? 54).map (fun i => (i.zero, i.size, i.bytes)) = some (some .nilIface, 1, 16) := by kernel_rfl
theorem under_trees : Tryd.prog.underlying 66 = some (.slice 54) := by kernel_rfl

section
variable {P : Program} {w w' : World} {ops : Array Oper} {rest : List Oper} {o : Oper} {a : Act} {Q : Exit → Act → World → Prop}

theorem wpList_append_runT (hg : o.guard = none) (s x : Operand) (t : TypeId) (ho : o.op = .call { callee := .builtin .append, args := #[s, x], argTypes := #[t, t] }) (v u : Value) {v' : Value} (hs : a.eval s = v) (hx : a.eval x = u)
    (hr : (Builtin.append_ #[t, t] o.type #[v, u]).run P w = .ok v' w') (h : wpList P ops Q rest (a.put o.dst v') w') : wpList P ops Q (o :: rest) a w := by
  refine wpList_plain hg fun K' hK' => ?_
  unfold Oper.wp
  simp [execOp, ho, resolve, invoke, builtin, hs, hx, hr, Result.andThen]
  exact hK' _ _ h

end

/-- A slice that is read, by its values. -/
def RdV (w : World) (v : Value) (vals : List Value) : Prop :=
  (v = .slice none 0 0 ∧ vals = []) ∨ ∃ g off cap, v = .slice (some ⟨g, off, none⟩) vals.length cap ∧ ∀ (j : Nat) (u : Value), vals[j]? = some u → w.cell? ⟨g, off + j, none⟩ = some u

set_option maxRecDepth 100000 in
set_option maxHeartbeats 800000 in
theorem cloneT_any (v : Value) (vals : List Value) (w : World) (h : RdV w v vals) (h1 : ∀ u ∈ vals, u.oneCell' = true) (hl : vals.length * 16 ≤ 140737488355328) :
    Calls Tryd.prog 53 #[v] w fun e w' => ∃ v', e = .returned v' ∧ w'.ownsRow w.heap.size 54 1 v' vals.length vals ∧ Below w.heap.size w w' := by
  obtain ⟨i0, hi, hz0, hz1, hz2⟩ := info_parts info_tree
  have hq : ∀ (W : World) (a : Option Addr) (n c n' c' : Nat), (binOp .eql 66 (.slice a n c) (.slice none n' c')).run Tryd.prog W = .ok (.bool a.isNone) W := fun W a n c n' c' => Lib.run_eql_slice_nil W _ _ a n c n' c' under_trees
  rcases h with ⟨rfl, rfl⟩ | ⟨g, off, cap, rfl, hc⟩
  · go_enter Tryd.func53, Tryd.ntmps53
    go_wp2
    go_ret
    exact ⟨_, rfl, World.ownsRow_nil _ _ _ _, Below.refl _ _⟩
  · obtain ⟨v', w', hr, ho, hb⟩ : ∃ v' w', (Builtin.append_ #[66, 66] 66 #[.slice (some ⟨w.heap.size, 0, none⟩) 0 0, .slice (some ⟨g, off, none⟩) vals.length cap]).run Tryd.prog (w.alloc (.cells #[] 54)) = .ok v' w' ∧ w'.ownsRow w.heap.size 54 1 v' vals.length vals ∧ Below w.heap.size w w' := by
      by_cases h0 : vals.length = 0
      · obtain rfl : vals = [] := List.eq_nil_of_length_eq_zero h0
        exact ⟨_, _, run_append_nothing _ 66 66 66 54 i0 under_trees hi _ 0 0 (Nat.le_refl _) _ (Src.ofSlice _ under_trees _ 0 _ [] (by simp) (fun j u hj => (by simp at hj)) (fun u hu => (by simp at hu))), empty_row _ (Nat.le_refl _), below_alloc _⟩
      · obtain ⟨v', w', hr, h2, h3, _, _⟩ := run_append_own_at (P := Tryd.prog) (w.alloc (.cells #[] 54)) w.heap.size 66 66 54 i0 _ 1 16 under_trees hi hz0 hz1 hz2 rfl (by decide) _ 0 [] (empty_row _ (Nat.le_refl _)) ⟨g, off, none⟩ vals.length cap vals (by simp)
          (fun j u hj => by rw [Addr.add_lit]; exact (Kp.of_below (below_alloc _)).cell _ _ (hc j u hj)) h1 (by unfold maxLen; omega) (by omega) (below_alloc _).size
        rw [Nat.zero_add, List.nil_append] at h2
        exact ⟨v', w', hr, h2, grown_below (below_alloc _) h3 (Nat.le_refl _)⟩
    have HR := hid hr
    have HO := hid ho
    have HB := hid hb
    clear hr ho hb hc
    go_enter Tryd.func53, Tryd.ntmps53
    go_wp2_with (first
      | (at_builtin; refine wpList_append_runT rfl _ _ _ rfl _ _ rfl rfl HR.out ?_))
    go_ret
    exact ⟨_, rfl, HO.out, HB.out⟩

theorem drawn_below1 (w : World) : Below w.heap.size w w.drew := (Below.refl _ _).drew

theorem set_grownT (w : World) (g k : Nat) (u : Value) : w.grownBy (w.setCell ⟨g, k, none⟩ u) (some g) :=
  ⟨rfl, rfl, rfl, by simp [World.setCell], fun i _ hne => heap_setCell_other _ _ _ _ (by intro e; subst e; exact hne rfl)⟩

/-- A value of an interface. -/
def IfV (u : Value) : Prop := ∃ t x, u = .iface t x

theorem swp_mem {d : Array Value} {i j : Nat} (hi : i < d.size) (hj : j < d.size) {u : Value} (h : u ∈ (Sort.swp d i j).toList) : u ∈ d.toList := by
  unfold Sort.swp at h
  simp only [Array.toList_setIfInBounds] at h
  rcases List.mem_or_eq_of_mem_set h with h | h
  · rcases List.mem_or_eq_of_mem_set h with h | h
    · exact h
    · rw [h, getElem!_pos d j hj]; exact Array.getElem_mem_toList hj
  · rw [h, getElem!_pos d i hi]; exact Array.getElem_mem_toList hi

theorem swp_list {d : Array Value} {i j : Nat} (hi : i < d.size) (hj : j < d.size) : (Sort.swp d i j).toList = (d.toList.set i d[j]!).set j d[i]! := by
  unfold Sort.swp
  simp [getElem!_pos, hi, hj]

set_option maxRecDepth 1000000 in
set_option maxHeartbeats 1600000 in
theorem reverseT_any (v : Value) (vals : List Value) (base : Nat) (w : World) (h : w.ownsRow base 54 1 v vals.length vals) (hif : ∀ u ∈ vals, IfV u) :
    Calls Tryd.prog 54 #[v] w fun e w' => e = .returned (.tuple #[]) ∧ w'.ownsRow base 54 1 v vals.length vals.reverse ∧ w.grownBy w' v.ownBlock := by
  have hsh : ∃ ao cap, v = .slice ao vals.length cap ∧ vals.length ≤ cap ∧ cap ≤ maxLen := by
    rcases h.2 with ⟨rfl, hn⟩ | ⟨g, cap, cur, rfl, hb, hg, hc, hm, hs, ht⟩
    · exact ⟨none, 0, by rw [hn], by omega, by simp [maxLen]⟩
    · exact ⟨_, cap, rfl, hc, hm⟩
  obtain ⟨ao, cap, rfl, hc1, hc2⟩ := hsh
  unfold maxLen at hc2
  have HV := hid h
  have HIf := hid hif
  clear h hif
  have mixed : Tryd.prog.follows .mixedOrders = true := by kernel_rfl
  go_enter Tryd.func54, Tryd.ntmps54
  go_wp2
  go_loopg [2, 3] vals.length (fun k s2 s3 wr => ∃ (i jn : Nat) (jz : Int) (dk : Array Value), s2 = .int .i64 i ∧ s3 = .int .i64 jz ∧ ((i : Int) < jz → jz = jn ∧ jn < vals.length) ∧ (¬ (i : Int) < jz → ¬ i < jn) ∧ jn - i ≤ k ∧
    dk.size = vals.length ∧ (∀ u ∈ dk.toList, IfV u) ∧ wr.ownsRow base 54 1 (.slice ao vals.length cap) vals.length dk.toList ∧ w.grownBy wr (Value.slice ao vals.length cap).ownBlock ∧ Sort.reverseLoop i jn dk = Sort.reverseLoop 0 (vals.length - 1) vals.toArray)
  case atStart => exact ⟨0, vals.length - 1, (vals.length : Int) - 1, vals.toArray, rfl, rfl, fun h => ⟨by omega, by omega⟩, fun h => by omega, by omega, by simp, HIf.out, HV.out, World.grownBy.refl _ _, rfl⟩
  case round =>
    obtain ⟨i, jn, jz, dk, rfl, rfl, h1, h2, hk, hds, hifd, how, hgr, heq⟩ := hrel
    by_cases hlt : (i : Int) < jz
    · obtain ⟨rfl, hjn⟩ := h1 hlt
      have hij : i < jn := by omega
      obtain ⟨g, cp, hv⟩ := own_form (v := .slice ao vals.length cap) how (by omega)
      simp only [Value.slice.injEq] at hv
      obtain ⟨rfl, _, rfl⟩ := hv
      have ci : wr.cell? ⟨g, i, none⟩ = some dk[i]! := by
        rw [World.ownsRow.cellAt how i (by omega)]
        simp [getElem!_pos, show i < dk.size by omega]
      have cj : wr.cell? ⟨g, jn, none⟩ = some dk[jn]! := by
        rw [World.ownsRow.cellAt how jn (by omega)]
        simp [getElem!_pos, show jn < dk.size by omega]
      have fi := World.ownsRow.frozenAt how i
      have fj := World.ownsRow.frozenAt how jn
      have HOw := hid how
      have HGr := hid hgr
      have HEq := hid heq
      have hil : i < vals.length := by omega
      obtain ⟨xi, hxi⟩ : ∃ x, x = dk[i]! := ⟨_, rfl⟩
      obtain ⟨xj, hxj⟩ : ∃ x, x = dk[jn]! := ⟨_, rfl⟩
      rw [← hxi] at ci
      rw [← hxj] at cj
      obtain ⟨ti, yi, hyi⟩ : IfV xi := by rw [hxi, getElem!_pos dk i (by omega)]; exact hifd _ (Array.getElem_mem_toList (by omega))
      obtain ⟨tj, yj, hyj⟩ : IfV xj := by rw [hxj, getElem!_pos dk jn (by omega)]; exact hifd _ (Array.getElem_mem_toList (by omega))
      subst hyi
      subst hyj
      have HXi := hid hxi
      have HXj := hid hxj
      have HIf2 : Hid (∀ u ∈ (Sort.swp dk i jn).toList, IfV u) := fun u hu => hifd u (swp_mem (by omega) (by omega) hu)
      clear hifd
      clear how hgr heq hxi hxj h1 h2
      have hst := (World.ownsRow.stored HOw.out i (.iface tj yj)).1
      have hst2 := (World.ownsRow.stored hst jn (.iface ti yi)).1
      have HS2 : Hid (((wr.setCell ⟨g, i, none⟩ (.iface tj yj)).setCell ⟨g, jn, none⟩ (.iface ti yi)).drew.ownsRow base 54 1 (.slice (some ⟨g, 0, none⟩) vals.length cap) vals.length (Sort.swp dk i jn).toList) := by
        rw [swp_list (by omega) (by omega), ← HXi.out, ← HXj.out]
        exact ownsRow_later hst2 (drawn_below1 _)
      have HG2 : Hid (w.grownBy ((wr.setCell ⟨g, i, none⟩ (.iface tj yj)).setCell ⟨g, jn, none⟩ (.iface ti yi)).drew (some g)) :=
        grown_trans HGr.out (grown_trans (set_grownT wr g i (.iface tj yj)) (grown_trans (set_grownT _ g jn (.iface ti yi)) (grown_of_below (drawn_below1 _) _)))
      clear hst hst2
      go_wp2_with fail
      go_region_o
      go_wp2
      go_roundg (jn - 1 - (i + 1))
      case measure => omega
      case rel =>
        have h9 := HEq.out
        rw [Sort.reverseLoop, if_pos hij] at h9
        exact ⟨i + 1, jn - 1, (jn : Int) - 1, Sort.swp dk i jn, by simp, rfl, fun h => ⟨by omega, by omega⟩, fun h => by omega, Nat.le_refl _, by rw [Sort.size_swp]; exact hds, HIf2.out, HS2.out, HG2.out, h9⟩
    · have hnot := h2 hlt
      have HR : Hid (dk.toList = vals.reverse) := by
        show _ = _
        rw [Sort.reverseLoop, if_neg hnot] at heq
        have h9 := Lib.reverseLoop_reverse vals.toArray
        rw [show vals.toArray.size = vals.length by simp] at h9
        rw [heq, h9]
        simp
      have HOw := hid how
      have HGr := hid hgr
      clear how hgr heq
      go_wp2
      go_end0
      exact ⟨rfl, by rw [← HR.out]; exact HOw.out, HGr.out⟩

end Go.Proofs.YtjcgngfidnechaaDoor

/- Trees in memory; apply. -/
namespace Go.Proofs.YtjcgngfidnechaaDoor
open Go.RowKit Go.Maps

/-- A term as a tree, without its symbols. -/
inductive Tr where
  | var : Tr
  | app : List Tr → Tr

mutual
def Tr.size : Tr → Nat
  | .var => 1
  | .app ts => 1 + sizes ts
def sizes : List Tr → Nat
  | [] => 0
  | t :: ts => t.size + sizes ts
end

mutual
/-- The value v is the tree, read through blocks of A alone. -/
def TV (w : World) (A : Nat → Prop) : Value → Tr → Prop
  | v, .var => v = .iface 73 (.agg #[])
  | v, .app ts => ∃ b a cap, v = .iface 64 (.pointer (some ⟨b, 0, none⟩)) ∧ A b ∧ w.cell? ⟨b, 0, none⟩ = some (.slice a ts.length cap) ∧ w.cell? ⟨b, 1, none⟩ = some (.int .i64 ((1 + sizes ts : Nat) : Int)) ∧ ts.length ≤ cap ∧ cap ≤ maxLen ∧ (ts = [] ∨ ∃ g off, a = some ⟨g, off, none⟩ ∧ A g ∧ TVs w A g off ts)
def TVs (w : World) (A : Nat → Prop) (g : Nat) : Nat → List Tr → Prop
  | _, [] => True
  | o, t :: ts => (∃ v, w.cell? ⟨g, o, none⟩ = some v ∧ TV w A v t) ∧ TVs w A g (o + 1) ts
end

mutual
theorem TV.keep {w w' : World} {A A' : Nat → Prop} (hc : ∀ b o x, A b → w.cell? ⟨b, o, none⟩ = some x → w'.cell? ⟨b, o, none⟩ = some x) (hA : ∀ b, A b → A' b) : ∀ {v : Value} {t : Tr}, TV w A v t → TV w' A' v t
  | v, .var, h => by unfold TV at h ⊢; exact h
  | v, .app ts, h => by
    unfold TV at h ⊢
    obtain ⟨b, a, cap, h1, h2, h3, h4, h5, h6, h7⟩ := h
    refine ⟨b, a, cap, h1, hA b h2, hc b 0 _ h2 h3, hc b 1 _ h2 h4, h5, h6, ?_⟩
    rcases h7 with h7 | ⟨g, off, k1, k2, k3⟩
    · exact .inl h7
    · exact .inr ⟨g, off, k1, hA g k2, TVs.keep hc hA k2 k3⟩
theorem TVs.keep {w w' : World} {A A' : Nat → Prop} (hc : ∀ b o x, A b → w.cell? ⟨b, o, none⟩ = some x → w'.cell? ⟨b, o, none⟩ = some x) (hA : ∀ b, A b → A' b) : ∀ {g o : Nat} {ts : List Tr}, A g → TVs w A g o ts → TVs w' A' g o ts
  | g, o, [], _, _ => by unfold TVs; trivial
  | g, o, t :: ts, hg, h => by
    unfold TVs at h ⊢
    obtain ⟨⟨v, h1, h2⟩, h3⟩ := h
    exact ⟨⟨v, hc g o _ hg h1, TV.keep hc hA h2⟩, TVs.keep hc hA hg h3⟩
end

/-- Values that are trees. -/
def TVl (w : World) (A : Nat → Prop) : List Value → List Tr → Prop
  | [], [] => True
  | v :: vs, t :: ts => TV w A v t ∧ TVl w A vs ts
  | _, _ => False

theorem TVl.keep {w w' : World} {A A' : Nat → Prop} (hc : ∀ b o x, A b → w.cell? ⟨b, o, none⟩ = some x → w'.cell? ⟨b, o, none⟩ = some x) (hA : ∀ b, A b → A' b) : ∀ {vs : List Value} {ts : List Tr}, TVl w A vs ts → TVl w' A' vs ts
  | [], [], _ => trivial
  | _ :: _, _ :: _, ⟨h1, h2⟩ => ⟨h1.keep hc hA, TVl.keep hc hA h2⟩
  | [], _ :: _, h => h.elim
  | _ :: _, [], h => h.elim

theorem TVl.len {w : World} {A : Nat → Prop} : ∀ {vs : List Value} {ts : List Tr}, TVl w A vs ts → vs.length = ts.length
  | [], [], _ => rfl
  | _ :: _, _ :: _, ⟨_, h2⟩ => congrArg (· + 1) (TVl.len h2)
  | [], _ :: _, h => h.elim
  | _ :: _, [], h => h.elim

theorem TVl.get {w : World} {A : Nat → Prop} : ∀ {vs : List Value} {ts : List Tr} {k : Nat} {v : Value} {t : Tr}, TVl w A vs ts → vs[k]? = some v → ts[k]? = some t → TV w A v t
  | [], [], _, _, _, _, h, _ => by simp at h
  | v :: vs, t :: ts, 0, _, _, ⟨h1, _⟩, hv, ht => by simp at hv ht; subst hv; subst ht; exact h1
  | v :: vs, t :: ts, k + 1, _, _, ⟨_, h2⟩, hv, ht => TVl.get h2 (by simpa using hv) (by simpa using ht)
  | [], _ :: _, _, _, _, h, _, _ => h.elim
  | _ :: _, [], _, _, _, h, _, _ => h.elim

theorem TVl.app {w : World} {A : Nat → Prop} : ∀ {vs us : List Value} {ts rs : List Tr}, TVl w A vs ts → TVl w A us rs → TVl w A (vs ++ us) (ts ++ rs)
  | [], _, [], _, _, h => h
  | _ :: _, _, _ :: _, _, ⟨h1, h2⟩, h => ⟨h1, TVl.app h2 h⟩
  | [], _, _ :: _, _, h, _ => h.elim
  | _ :: _, _, [], _, h, _ => h.elim

theorem TVl.take {w : World} {A : Nat → Prop} : ∀ {vs : List Value} {ts : List Tr} (k : Nat), TVl w A vs ts → TVl w A (vs.take k) (ts.take k) ∧ TVl w A (vs.drop k) (ts.drop k)
  | [], [], k, _ => by simp [TVl]
  | _ :: _, _ :: _, 0, h => ⟨trivial, h⟩
  | _ :: _, _ :: _, k + 1, ⟨h1, h2⟩ => by
    obtain ⟨h3, h4⟩ := TVl.take k h2
    exact ⟨⟨h1, h3⟩, h4⟩
  | [], _ :: _, _, h => h.elim
  | _ :: _, [], _, h => h.elim

theorem TVl.rev {w : World} {A : Nat → Prop} : ∀ {vs : List Value} {ts : List Tr}, TVl w A vs ts → TVl w A vs.reverse ts.reverse
  | [], [], _ => trivial
  | _ :: _, _ :: _, ⟨h1, h2⟩ => by
    rw [List.reverse_cons, List.reverse_cons]
    exact TVl.app (TVl.rev h2) ⟨h1, trivial⟩
  | [], _ :: _, h => h.elim
  | _ :: _, [], h => h.elim

theorem TV.ifv {w : World} {A : Nat → Prop} {v : Value} {t : Tr} (h : TV w A v t) : IfV v := by
  cases t with
  | var => unfold TV at h; exact ⟨_, _, h⟩
  | app ts => unfold TV at h; obtain ⟨b, a, cap, h1, _⟩ := h; exact ⟨_, _, h1⟩

theorem TVl.ifv {w : World} {A : Nat → Prop} : ∀ {vs : List Value} {ts : List Tr}, TVl w A vs ts → ∀ u ∈ vs, IfV u
  | [], [], _, u, hu => by cases hu
  | v :: vs, t :: ts, ⟨h1, h2⟩, u, hu => by
    cases hu with
    | head => exact h1.ifv
    | tail _ hu => exact TVl.ifv h2 u hu
  | [], _ :: _, h, _, _ => h.elim
  | _ :: _, [], h, _, _ => h.elim

theorem IfV.one {u : Value} (h : IfV u) : u.oneCell' = true := by obtain ⟨t, x, rfl⟩ := h; rfl

theorem TVs_of_TVl {w : World} {A : Nat → Prop} {g : Nat} : ∀ {vs : List Value} {ts : List Tr} {o : Nat}, TVl w A vs ts → (∀ (j : Nat) (u : Value), vs[j]? = some u → w.cell? ⟨g, o + j, none⟩ = some u) → TVs w A g o ts
  | [], [], o, _, _ => by unfold TVs; trivial
  | v :: vs, t :: ts, o, ⟨h1, h2⟩, hc => by
    unfold TVs
    refine ⟨⟨v, hc 0 v rfl, h1⟩, TVs_of_TVl h2 fun j u hj => ?_⟩
    have := hc (j + 1) u (by simpa using hj)
    rw [show o + 1 + j = o + (j + 1) by omega]
    exact this
  | [], _ :: _, _, h, _ => h.elim
  | _ :: _, [], _, h, _ => h.elim

theorem varNodes_any (w : World) : Calls Tryd.prog 81 #[.agg #[]] w fun e w' => e = .returned (.int .i64 1) ∧ Below w.heap.size w w' := by
  go_enter Tryd.func81, Tryd.ntmps81
  go_wp2
  go_ret
  exact ⟨rfl, below_alloc _⟩

theorem appNodes_any (b : Nat) (n : Int) (w : World) (h : w.cell? ⟨b, 1, none⟩ = some (.int .i64 n)) : Calls Tryd.prog 80 #[.pointer (some ⟨b, 0, none⟩)] w fun e w' => e = .returned (.int .i64 n) ∧ w' = w := by
  go_enter Tryd.func80, Tryd.ntmps80
  go_wp2
  go_ret
  exact ⟨rfl, rfl⟩

theorem sizes_app : ∀ (a b : List Tr), sizes (a ++ b) = sizes a + sizes b
  | [], b => by simp [sizes]
  | t :: a, b => by simp only [List.cons_append, sizes, sizes_app a b]; omega

theorem sizes_take (ts : List Tr) (k : Nat) : sizes (ts.take k) ≤ sizes ts := by
  have := sizes_app (ts.take k) (ts.drop k)
  rw [List.take_append_drop] at this
  omega

theorem Tr.pos (t : Tr) : 1 ≤ t.size := by
  cases t <;> simp only [Tr.size] <;> omega

theorem len_sizes : ∀ ts : List Tr, ts.length ≤ sizes ts
  | [] => by simp [sizes]
  | t :: ts => by
    have := t.pos
    have := len_sizes ts
    simp only [List.length_cons, sizes]
    omega

theorem RdV.kp {w w' : World} {v : Value} {vals : List Value} (h : RdV w v vals) (hk : Kp w w') : RdV w' v vals := by
  rcases h with h | ⟨g, off, cap, h1, h2⟩
  · exact .inl h
  · exact .inr ⟨g, off, cap, h1, fun j u hj => hk.cell _ _ (h2 j u hj)⟩

theorem RdV.at {w : World} {ao : Option Addr} {n cap : Nat} {vals : List Value} (h : RdV w (.slice ao n cap) vals) {k : Nat} {u : Value} (hk : vals[k]? = some u) : ∃ g off, ao = some ⟨g, off, none⟩ ∧ w.cell? ⟨g, off + k, none⟩ = some u := by
  rcases h with ⟨_, rfl⟩ | ⟨g, off, cap', h1, h2⟩
  · simp at hk
  · simp only [Value.slice.injEq] at h1
    exact ⟨g, off, h1.1, h2 k u hk⟩

set_option maxRecDepth 100000 in
set_option maxHeartbeats 1600000 in
theorem applyT_any (v : Value) (vals : List Value) (ts : List Tr) (A : Nat → Prop) (w : World) (hr : RdV w v vals) (ht : TVl w A vals ts) (hA : ∀ b, A b → b < w.heap.size) (hs : sizes ts ≤ 4611686018427387904) :
    Calls Tryd.prog 55 #[v] w fun e w' => ∃ b, e = .returned (.iface 64 (.pointer (some ⟨b, 0, none⟩))) ∧ w.heap.size ≤ b ∧ w'.cell? ⟨b, 0, none⟩ = some v ∧ w'.cell? ⟨b, 1, none⟩ = some (.int .i64 ((1 + sizes ts : Nat) : Int)) ∧ Below w.heap.size w w' := by
  have hlen := ht.len
  have hsh : ∃ ao cap, v = .slice ao ts.length cap := by
    rcases hr with ⟨rfl, rfl⟩ | ⟨g, off, cap, rfl, _⟩
    · exact ⟨none, 0, by rw [← hlen]; rfl⟩
    · exact ⟨_, cap, by rw [hlen]⟩
  obtain ⟨ao, cap, rfl⟩ := hsh
  have HR := hid hr
  have HT := hid ht
  have HA := hid hA
  have hbig := len_sizes ts
  clear hr ht hA
  go_enter Tryd.func55, Tryd.ntmps55
  go_wp2
  go_loopw [3, 8] (fun sv iv wr => ∃ k : Nat, k ≤ ts.length ∧ iv = .int .i64 k ∧ sv = .int .i64 ((1 + sizes (ts.take k) : Nat) : Int) ∧ Below w.heap.size w wr) (fun _ iv _ => ts.length - (intOf iv).toNat)
  case atStart => exact ⟨0, Nat.zero_le _, rfl, by simp [sizes], Below.refl _ _⟩
  case round =>
    obtain ⟨k, hk, rfl, rfl, hbl⟩ := hrel
    have HBl := hid hbl
    by_cases hlt : k < ts.length
    · obtain ⟨u, hu⟩ : ∃ u, vals[k]? = some u := ⟨_, List.getElem?_eq_getElem (by omega)⟩
      obtain ⟨t, htk⟩ : ∃ t, ts[k]? = some t := ⟨_, List.getElem?_eq_getElem hlt⟩
      obtain ⟨g, off, rfl, hc⟩ := (HR.out.kp (Kp.of_below hbl)).at hu
      have htv := HT.out.get hu htk
      have hst := sizes_take ts (k + 1)
      have hsn : sizes (ts.take (k + 1)) = sizes (ts.take k) + t.size := by rw [take_get htk, sizes_app]; simp [sizes]
      have HSn := hid hsn
      obtain ⟨S, hS⟩ : ∃ S, S = sizes (ts.take k) := ⟨_, rfl⟩
      rw [← hS] at hsn HSn ⊢
      clear hS hu htk hbl
      cases t with
      | var =>
        unfold TV at htv
        subst htv
        simp only [Tr.size] at hsn HSn
        go_wp2_with fail
        refine (varNodes_any wr).mono ?_
        rintro e w2 ⟨rfl, hb2⟩
        have HB2 := hid (below_step HBl.out hb2)
        have hwr : IntKind.i64.wrap (((1 + S : Nat) : Int) + 1) = ((1 + (S + 1) : Nat) : Int) := by rw [IntWalk.i64_in _ ⟨by omega, by omega⟩]; omega
        clear hb2
        go_wp2
        go_roundw
        case rel => exact ⟨k + 1, by omega, by go_num, by rw [HSn.out]; exact congrArg (Value.int .i64) (by omega), HB2.out⟩
        case measure => simp [intOf]; omega
      | app rs =>
        unfold TV at htv
        obtain ⟨b, a, cp, rfl, hb, h3, h4, h5, h6, h7⟩ := htv
        have h4r := (HBl.out.cell (p := ⟨b, 1, none⟩) (HA.out b hb)).trans h4
        simp only [Tr.size] at hsn HSn
        have hwr : IntKind.i64.wrap (((1 + S : Nat) : Int) + ((1 + sizes rs : Nat) : Int)) = ((1 + (S + (1 + sizes rs)) : Nat) : Int) := by rw [IntWalk.i64_in _ ⟨by omega, by omega⟩]; omega
        clear h3 h7
        go_wp2_with fail
        refine (appNodes_any b _ wr h4r).mono ?_
        rintro e w2 ⟨rfl, hw2⟩
        have hw8 := hw2.symm
        subst hw8
        clear hw2
        go_wp2
        go_roundw
        case rel => exact ⟨k + 1, by omega, by go_num, by rw [HSn.out]; exact congrArg (Value.int .i64) (by omega), HBl.out⟩
        case measure => simp [intOf]; omega
    · have hke : k = ts.length := by omega
      subst hke
      rw [List.take_length]
      go_wp2
      go_ret
      exact ⟨_, rfl, hbl.size, by simp, by simp, below_step hbl (below_alloc _)⟩

end Go.Proofs.YtjcgngfidnechaaDoor

/- A range over a function whose rounds are numbered: round k is handed just what the iterator hands it then. -/
namespace Go.Proofs.YtjcgngfidnechaaDoor
open Go.RowKit Go.Maps Go.Shelf

attribute [local go_sem] Oper.semAt_some

section
variable {P : Program} {F : Fence} {n : Nat}

/-- Rounds by their numbers. -/
theorem range_rounds {g : Operand} {ps : Array Tmp} {assign body : Code} {Q : Exit → Act → World → Prop} {a : Act} {w : World} (hro : F.round = none) (h1 : 1 ≤ n) {gf : Nat} {lb : Array Value}
    (hg : a.eval g = .func (.func gf) #[] lb) (hFg : F.fn gf) (eg : ∀ args w, (callFunc gf args).run P w = .ok (.enter gf args) w)
    (args : Nat → Array Value) (N : Nat) (hps : ∀ k, (args k).size = ps.size) (Rd : World → Prop) (I : Nat → World → Prop)
    (hput : ∀ (k : Nat) (W : World) (l : Nat) (o o' : Obj), w.heap.size ≤ l → W.heap[l]? = some o → o.isCells = false → I k W → I k (W.putObj l o'))
    (h0 : ∀ r : Loop, I 0 ((w.alloc (.deferred (some []))).alloc (.loop r))) (hRd : ∀ k W, I k W → Rd W)
    (hseq : ∀ (l : Nat) (J : Nat → World → Prop) (W : World), (∀ k W1, J k W1 → Rd W1) → (∀ k W1, k < N → J k W1 → YieldAt F (n - 1 - 1) P l (args k) W1 fun e W' => e = .returned (.bool true) ∧ J (k + 1) W') → J 0 W →
      CallsIn F (n - 1) P gf (#[.func (.yield l) #[] #[]] ++ lb) W fun e W' => (∃ v, e = .returned v) ∧ J N W')
    (a1 : Nat → Act)
    (hassign : ∀ (l k : Nat) (W : World) (K : Act → World → Prop), K (a1 k) W → assign.wpIn (F.inRound l) (n - 1 - 1) P (Exit.then K (fun _ _ _ => False)) { tmps := (ps.zip (args k)).foldl (fun t (p, v) => t.setIfInBounds p v) a.tmps, defers := [] } W)
    (hbody : ∀ (l k : Nat) (W : World), k < N → I k W → body.wpIn (F.inRound l) (n - 1 - 1) P (fun e _ W' => e = .normal ∧ KeepsFrom w.heap.size W W' ∧ I (k + 1) W') (a1 k) W)
    (hdone : ∀ (D : Nat) (W : World), w.heap.size ≤ D → I N W → W.heap[D]? = some (.deferred (some [])) → Q .normal { a with defers := { target := .collected D, args := #[] } :: a.defers } W) :
    (Code.rangeFunc g ps assign body).wpIn F n P Q a w := by
  refine wpIn_rangeFunc fun fn hfn => ?_
  rw [hro]
  -- the record of the loop, as it stands between two rounds and in one
  obtain ⟨R, hR⟩ : ∃ R : LoopState → Loop, R = fun s => { state := s, pending := none, fn, tmps := a.tmps, params := ps, assign, body, defers := w.heap.size } := ⟨_, rfl⟩
  have hRs : ∀ s, (R s).state = s := fun s => by rw [hR]
  have hRb : ∀ s s', { R s with state := s' } = R s' := fun s s' => by rw [hR]
  obtain ⟨l, hl⟩ : ∃ l, l = w.heap.size + 1 := ⟨_, rfl⟩
  obtain ⟨W1, hW1⟩ : ∃ W, W = (w.alloc (.deferred (some []))).alloc (.loop (R .ready)) := ⟨_, rfl⟩
  have hl1 : W1.heap[l]? = some (.loop (R .ready)) := by
    rw [hW1, hl]
    have := World.alloc_heap_new (w.alloc (.deferred (some []))) (.loop (R .ready))
    rwa [World.size_alloc] at this
  have hd1 : W1.heap[w.heap.size]? = some (.deferred (some [])) := by
    rw [hW1]
    exact (Below.heap_alloc _ _ _ (by simp)).trans (World.alloc_heap_new w _)
  refine ⟨l, [{ target := .collected w.heap.size, args := #[] }], W1, { target := .fn (.func gf) lb, args := #[.func (.yield l) #[] #[]] }, W1, gf, #[.func (.yield l) #[] #[]] ++ lb, W1, ?_, ?_, ?_, ?_, fun _ => h1, ?_⟩
  · rw [hl, hW1, hR]
    exact run_enterLoop_outer _ _ _ _ _
  · simp only [resolve, hg]
    simp [go_sem]
  · intro f' hf'
    simp [Target.leads] at hf'
    subst hf'
    exact hFg
  · simp [invoke, go_sem, eg]
  · refine (hseq l (fun k W => I k W ∧ W.heap[l]? = some (.loop (R .ready)) ∧ W.heap[w.heap.size]? = some (.deferred (some []))) W1 (fun k W h => hRd k W h.1) ?_ ⟨by rw [hW1]; exact h0 _, hl1, hd1⟩).mono ?_
    · rintro k W hk ⟨hi, hL, hD⟩
      have hlt := (Array.getElem?_eq_some_iff.1 hL).1
      have hy := run_yield (P := P) (args := args k) hL (by rw [hR]; exact hps k)
      refine ⟨_, _, _, _, hy, ?_⟩
      rw [show (R .ready).assign = assign by rw [hR], show (R .ready).body = body by rw [hR], show (R .ready).fn = fn by rw [hR], show (R .ready).tmps = a.tmps by rw [hR], show (R .ready).params = ps by rw [hR]]
      refine roundIn_of_wpIn hfn (hassign l k W _ ⟨_, run_beginRound hL (hRs _), ?_⟩)
      rw [hRb]
      have hL2 : (W.putObj l (.loop (R .busy))).heap[l]? = some (.loop (R .busy)) := World.putObj_heap_same hlt
      have hD2 : (W.putObj l (.loop (R .busy))).heap[w.heap.size]? = some (.deferred (some [])) := (World.putObj_heap_other (by omega)).trans hD
      refine wpIn_mono (hbody l k _ hk (hput k W l _ _ (by omega) hL rfl hi)) ?_
      rintro e a3 W3 ⟨rfl, hkf, hi3⟩
      have hL3 := hkf.same _ _ (show w.heap.size ≤ l by omega) hL2 rfl
      have hD3 := hkf.same _ _ (Nat.le_refl _) hD2 rfl
      have he := run_endRound (P := P) none hL3
      refine ⟨_, _, he, rfl, ?_, ?_, ?_⟩
      · exact hput _ W3 l _ _ (by omega) hL3 rfl hi3
      · rw [World.putObj_heap_same (Array.getElem?_eq_some_iff.1 hL3).1]
        simp only [Option.isNone_none, if_true]
        rw [hR]
      · exact (World.putObj_heap_other (by omega)).trans hD3
    · rintro e W2 ⟨⟨v, rfl⟩, hi, hL, hD⟩
      have he := run_endLoop (P := P) hL (by rw [hRs]; simp)
      rw [show (R .ready).pending = none by rw [hR]] at he
      exact ⟨none, _, he, hdone _ _ (Nat.le_refl _) (hput _ W2 l _ _ (by omega) hL rfl hi) ((World.putObj_heap_other (by omega)).trans hD)⟩

end

end Go.Proofs.YtjcgngfidnechaaDoor

/- slices.Backward over a row of numbers. -/
namespace Go.Proofs.YtjcgngfidnechaaDoor
open Go.RowKit Go.Maps Go.Shelf

attribute [local go_sem] Oper.semAt_some

/-- What round k is handed. -/
def backA (t : List Int) (k : Nat) : Array Value := #[.int .i64 ((t.length - 1 - k : Nat) : Int), .int .i64 (t.reverse[k]?.getD 0)]

/-- What the iterator reads. -/
def BackR (Bs b off cap : Nat) (t : List Int) (W : World) : Prop := W.cell? ⟨Bs, 0, none⟩ = some (.slice (some ⟨b, off, none⟩) t.length cap) ∧ ∀ (j : Nat) (c : Int), t[j]? = some c → W.cell? ⟨b, off + j, none⟩ = some (.int .i64 c)

set_option maxRecDepth 100000 in
set_option maxHeartbeats 1600000 in
theorem back_rounds (F : Fence) (n : Nat) (hF : F.fn 62) (hro : F.round = none) (hn : 1 ≤ n) (Bs b off cap : Nat) (t : List Int) (ht : t.length * 8 ≤ 140737488351232) (_hcap : t.length ≤ cap) (_hcm : cap ≤ 9223372036854775807) (l : Nat) (J : Nat → World → Prop) (W : World)
    (hR : ∀ k W1, J k W1 → BackR Bs b off cap t W1) (hY : ∀ k W1, k < t.length → J k W1 → YieldAt F (n - 1) Tryd.prog l (backA t k) W1 fun e W' => e = .returned (.bool true) ∧ J (k + 1) W') (h0 : J 0 W) :
    CallsIn F n Tryd.prog 62 (#[.func (.yield l) #[] #[]] ++ #[.pointer (some ⟨Bs, 0, none⟩)]) W fun e W' => (∃ v, e = .returned v) ∧ J t.length W' := by
  refine callsIn_of_wp Tryd.func62 rfl hF ?_ hro
  simp only [Tryd.ntmps62, List.size_toArray, List.length_cons, List.length_nil, Nat.reduceAdd, Nat.reduceSub, Array.replicate_succ, Array.replicate_zero, List.push_toArray, List.append_toArray, List.nil_append, List.cons_append]
  have hb0 := (hR 0 W h0).1
  have hw0 : IntKind.i64.wrap ((t.length : Int) - 1) = (t.length : Int) - 1 := IntWalk.i64_in _ ⟨by omega, by omega⟩
  gi_wp2
  gi_loopw [3] (fun iv wr => ∃ k : Nat, k ≤ t.length ∧ iv = .int .i64 ((t.length : Int) - 1 - k) ∧ J k wr) (fun iv _ => (intOf iv + 1).toNat)
  case atStart => exact ⟨0, Nat.zero_le _, by simp, h0⟩
  case round =>
    obtain ⟨k, hk, rfl, hJ⟩ := hrel
    obtain ⟨hb1, hb2⟩ := hR k wr hJ
    by_cases hlt : k < t.length
    · obtain ⟨j, hj⟩ : ∃ j : Nat, j = t.length - 1 - k := ⟨_, rfl⟩
      have hjl : j < t.length := by omega
      have hji : (t.length : Int) - 1 - (k : Int) = (j : Int) := by omega
      obtain ⟨c, hc⟩ : ∃ c, t[j]? = some c := ⟨_, List.getElem?_eq_getElem hjl⟩
      have hcell := hb2 j c hc
      obtain ⟨fn, tmps, assign, body, hy, hRd⟩ := hY k wr hlt hJ
      have hbk : backA t k = #[.int .i64 (j : Int), .int .i64 c] := by
        unfold backA
        rw [List.getElem?_reverse hlt, ← hj, hc]
        rfl
      rw [hbk] at hy
      rw [hji]
      clear hb2 hbk hc hj
      gi_wp2
      refine hRd.mono ?_
      rintro e W3 ⟨rfl, hJ3⟩
      have hwj : IntKind.i64.wrap ((j : Int) - 1) = (j : Int) - 1 := IntWalk.i64_in _ ⟨by omega, by omega⟩
      gi_wp2
      go_roundw
      case rel => exact ⟨k + 1, by omega, congrArg (Value.int .i64) (by omega), hJ3⟩
      case measure => simp [intOf]
    · have hke : k = t.length := by omega
      subst hke
      gi_wp2
      go_end0
      exact ⟨⟨_, rfl⟩, hJ⟩

theorem back_any (ao : Option Addr) (len cap : Nat) (w : World) (F : Fence) (n : Nat) (hF : F.fn 52) (hro : F.round = none) :
    CallsIn F n Tryd.prog 52 #[.slice ao len cap] w fun e w' => e = .returned (.func (.func 62) #[] #[.pointer (some ⟨w.heap.size, 0, none⟩)]) ∧ w' = w.alloc (.cells #[.slice ao len cap] 27) := by
  refine callsIn_of_wp Tryd.func52 rfl hF ?_ hro
  simp only [Tryd.ntmps52, List.size_toArray, List.length_cons, List.length_nil, Nat.reduceAdd, Nat.reduceSub, Array.replicate_succ, Array.replicate_zero, List.push_toArray, List.append_toArray, List.nil_append, List.cons_append]
  gi_wp2
  go_ret
  exact ⟨rfl, rfl⟩

end Go.Proofs.YtjcgngfidnechaaDoor

/- What Vars, and the law file's same, answer. -/
namespace Go.Proofs.YtjcgngfidnechaaDoor
open Go.RowKit Go.Maps

/-- The codes below 0 of a row, each once, as they are met, behind those that were met. -/
def metA : List Int → List Int → List Int
  | m, [] => m
  | m, c :: r => if 0 ≤ c ∨ c ∈ m then metA m r else metA (m ++ [c]) r

def varsL (t : List Int) : List Int := (metA [] t).map fun c => -1 - c

theorem set_keyed : Keyed Tryd.prog 3 := int_keyed (q := .i64) (by kernel_rfl)
theorem under_set : Tryd.prog.underlying 47 = some (.map 3 48) := by kernel_rfl
theorem zero_unit (w : World) : (zeroValue 48).run Tryd.prog w = .ok (.agg #[]) w := by kernel_rfl

theorem key_int {c : Int} (h1 : -9223372036854775808 ≤ c) (h2 : c ≤ 9223372036854775807) : keyOf Tryd.prog 3 (.int .i64 c) = some (.int .i64 c) := by
  refine keyOf_int_mk (by kernel_rfl) ?_
  have e0 : IntKind.i64.min = -9223372036854775808 := by decide
  have e1 : IntKind.i64.max = 9223372036854775807 := by decide
  simp [Lit.wf, e0, e1]
  omega

theorem Is.range {w : World} {v : Value} {xs : List Int} (h : Is w v xs) : ZI xs := fun k x hk => by
  obtain ⟨ao, cap, rfl, _, _, hx⟩ := Row.flat h
  obtain ⟨_, _, y, _, hy, h1, h2, _⟩ := hx k (List.getElem?_eq_some_iff.1 hk).1
  rw [hk] at hy
  cases hy
  exact ⟨h1, h2⟩

theorem Is.flatI {w : World} {v : Value} {xs : List Int} (h : Is w v xs) : ∃ ao cap, v = .slice ao xs.length cap ∧ xs.length ≤ cap ∧ cap ≤ 9223372036854775807 ∧
    ∀ k : Nat, k < xs.length → ∃ g off x, ao = some ⟨g, off, none⟩ ∧ xs[k]? = some x ∧ w.cell? ⟨g, off + k, none⟩ = some (.int .i64 x) := by
  obtain ⟨ao, cap, rfl, h1, h2, hx⟩ := Row.flat h
  refine ⟨ao, cap, rfl, h1, by unfold maxLen at h2; omega, fun k hk => ?_⟩
  obtain ⟨g, off, x, rfl, hm, _, _, h3⟩ := hx k hk
  rw [Nat.mul_one] at h3
  exact ⟨g, off, x, rfl, hm, h3⟩

theorem drawn_below {w w' : World} {n : Nat} (h : w' = w.drewN n) : Below w.heap.size w w' := by rw [h]; exact below_drewN (Below.refl _ _) n

theorem cell_int_new (w : World) (x : Int) (j : Nat) (u : Value) (hj : [Value.int .i64 x][j]? = some u) : (w.alloc (.cells #[.int .i64 x] 3)).cell? ((⟨w.heap.size, 0, none⟩ : Addr).add j) = some u := by
  rw [Addr.add_lit, Nat.zero_add, cell_of_row _ _ _ _ _ _ (heap_alloc_new _ _)]
  simpa using hj

theorem own_notMap {w : World} {base n : Nat} {e : TypeId} {s b : Nat} {v : Value} {xs : List Value} {es : Array MapEntry} {clock : Nat} (h : w.ownsRow base e s v n xs) (hb : w.heap[b]? = some (.map es clock)) : v.ownBlock = none ∨ v.ownBlock ≠ some b := by
  rcases h.2 with ⟨rfl, _⟩ | ⟨g, cap, cur, rfl, _, hg, _⟩
  · exact .inl rfl
  · refine .inr ?_
    simp only [Value.ownBlock]
    intro e
    cases e
    rw [hg] at hb
    cases hb

/-- The row of numbers, behind a store into the map and the new element. -/
theorem vars_row {H : Type} {w wr w4 : World} {o o' : Obj} {n b : Nat} {R : Value → Option (DataW H × List MemPlace)} {D : DataW H} {x : Value} {zs : List Int} {kt : TypeId} (h : OwI wr w.heap.size x zs) (hm : wr.ownsMap Tryd.prog kt R b n D) (hg : (wr.alloc o).grownBy w4 (some b)) :
    OwI w4 w.heap.size x zs ∧ (w4.alloc o').ownsRow w.heap.size 3 1 x zs.length (zs.map I64) := by
  have hm2 := hm.alloc o
  obtain ⟨es, clock, hb, _⟩ := hm2
  have h2 := h.later (below_alloc o)
  have h3 := h2.kept hg (own_notMap h2.2 hb)
  exact ⟨h3, ownsRow_later h3.2 (below_alloc o')⟩

theorem vars_next {H : Type} {w wr w4 w5 : World} {o o' : Obj} {b : Nat} {D : DataW H} {x5 x4 : Value} {m : List Int} {x : Int} (hB : Below w.heap.size w wr) (h : OwI wr w.heap.size x4 (m.map fun c => -1 - c)) (hm : wr.ownsMap Tryd.prog 3 unitElem b m.length D) (hh : ∀ c : Int, Maps.has D (.int .i64 c) = decide (c ∈ m))
    (hg : (wr.alloc o).grownBy w4 (some b)) (hm4 : w4.ownsMap Tryd.prog 3 unitElem b (m.length + 1) (D.put (.int .i64 x) (.agg []))) (hown : w5.ownsRow w.heap.size 3 1 x5 ((m.map fun c => -1 - c).length + 1) ((m.map fun c => -1 - c).map I64 ++ [.int .i64 (-1 - x)])) (hgr : (w4.alloc o').grownBy w5 x4.ownBlock) (hz : -9223372036854775808 ≤ -1 - x ∧ -1 - x ≤ 9223372036854775807) (hb : w.heap.size ≤ b := by exact Nat.le_refl _) :
    Hid (OwI w5 w.heap.size x5 ((m ++ [x]).map fun c => -1 - c) ∧ w5.ownsMap Tryd.prog 3 unitElem b (m ++ [x]).length (D.put (.int .i64 x) (.agg [])) ∧ (∀ c : Int, Maps.has (D.put (.int .i64 x) (.agg [])) (.int .i64 c) = decide (c ∈ m ++ [x])) ∧ Below w.heap.size w w5) := by
  have hT := hm.tidy set_keyed
  have hK : WideAt.IsKeyLit (.int .i64 x) := set_keyed.key (key_int (by omega) (by omega))
  obtain ⟨h4, h4'⟩ := vars_row (o' := o') h hm hg
  obtain ⟨es, clock, hbm, _⟩ := hm4.alloc o'
  have b1 : Below w.heap.size w w4 := (below_step hB (below_alloc o)).grown hg (below_step hB (below_alloc o)).size (fun j hj => by cases hj; exact hb)
  have b2 : Below w.heap.size w (w4.alloc o') := below_step b1 (below_alloc o')
  refine ⟨⟨fun j z hj => ?_, ?_⟩, ?_, fun c => ?_, b2.grown hgr b2.size (fun j hj => own_blk h4' hj)⟩
  · rw [List.map_append] at hj
    by_cases hjl : j < (m.map fun c => -1 - c).length
    · rw [List.getElem?_append_left hjl] at hj
      exact h.1 j z hj
    · rw [List.getElem?_append_right (by omega)] at hj
      have e0 : j - (m.map fun c => -1 - c).length = 0 := by
        have := (List.getElem?_eq_some_iff.1 hj).1
        simp at this
        simp
        omega
      rw [e0] at hj
      simp at hj
      omega
  · rw [List.map_append, List.map_append, List.length_append]
    exact hown
  · rw [List.length_append]
    refine (hm4.alloc o').kept hgr (fun e => ?_)
    rcases own_notMap h4' hbm with h0 | h0
    · rw [h0] at e
      cases e
    · exact h0 e.symm
  · by_cases e : c = x
    · subst e
      rw [has_put_same hT.isMap hK]
      simp
    · rw [has_put_other (by simpa using e), hh]
      simp [e]

set_option maxRecDepth 100000 in
set_option maxHeartbeats 1600000 in
theorem vars_any (v : Value) (t : List Int) (w : World) (h : Is w v t) (hb : t.length * 8 ≤ 140737488351232) :
    Calls Tryd.prog 15 #[v] w fun e w' => ∃ v', e = .returned v' ∧ OwI w' w.heap.size v' (varsL t) ∧ Below w.heap.size w w' := by
  obtain ⟨i1, hi1, hy0, hy1, hy2⟩ := info_parts info_int
  obtain ⟨ao, cap, rfl, hao, hca, q0⟩ := Row.flat h
  unfold maxLen at hca
  have HT : Hid (Is w (.slice ao t.length cap) t) := h
  clear h q0
  have hmm := @run_makeMap Tryd.prog
  go_enter Tryd.func15, Tryd.ntmps15
  go_wp2
  go_loopw [4, 12] (fun x i wr => ∃ (k : Nat) (m : List Int) (D : DataW Unit), k ≤ t.length ∧ i = .int .i64 k ∧ metA [] t = metA m (t.drop k) ∧ m.length ≤ k ∧ OwI wr w.heap.size x (m.map fun c => -1 - c) ∧ wr.ownsMap Tryd.prog 3 unitElem w.heap.size m.length D ∧ (∀ c : Int, Maps.has D (.int .i64 c) = decide (c ∈ m)) ∧ Below w.heap.size w wr) (fun _ i _ => t.length - (intOf i).toNat)
  case atStart => exact ⟨0, [], .map [], Nat.zero_le _, rfl, rfl, Nat.le_refl _, ⟨fun k x hk => (by simp at hk), World.ownsRow_nil _ _ _ _⟩, World.ownsMap_made w _ _ _, fun c => (by simp [Maps.has]), below_alloc _⟩
  case round =>
    obtain ⟨k, m, D, hk, rfl, hme, hml, how, hmap, hhas, hbl⟩ := hrel
    have HMe : Hid (metA [] t = metA m (t.drop k)) := hme
    have HOw : Hid (OwI wr w.heap.size u4 (m.map fun c => -1 - c)) := how
    have HMap : Hid (wr.ownsMap Tryd.prog 3 unitElem w.heap.size m.length D) := hmap
    have HHas : Hid (∀ c : Int, Maps.has D (.int .i64 c) = decide (c ∈ m)) := hhas
    have HB : Hid (Below w.heap.size w wr) := hbl
    clear hme how hmap hhas
    by_cases hlt : k < t.length
    · obtain ⟨g, off, x, rfl, hx1, hx2, hx3, hx4⟩ := (HT.out.kp (Kp.of_below hbl)).at hlt
      have hd : t.drop k = x :: t.drop (k + 1) := drop_get hx1
      have HD : Hid (t.drop k = x :: t.drop (k + 1)) := hd
      clear hx1 hd hbl
      by_cases hx0 : 0 ≤ x
      · have HN : Hid (metA [] t = metA m (t.drop (k + 1))) := by show _ = _; rw [HMe.out, HD.out, metA, if_pos (.inl hx0)]
        go_wp2
        go_roundw
        case rel => exact ⟨k + 1, m, D, by omega, by go_num, HN.out, by omega, HOw.out, HMap.out, HHas.out, HB.out⟩
        case measure => simp [intOf]; omega
      · have HKey : Hid (keyOf Tryd.prog 3 (.int .i64 x) = some (.int .i64 x)) := key_int hx3 hx4
        by_cases hin : x ∈ m
        · have HN : Hid (metA [] t = metA m (t.drop (k + 1))) := by show _ = _; rw [HMe.out, HD.out, metA, if_pos (.inr hin)]
          have hh : Maps.has D (.int .i64 x) = true := by rw [HHas.out, decide_eq_true hin]
          go_wp2_with (first
            | (at_lookup; refine wpList_lookup_own_unit _ rfl _ _ 47 rfl 3 48 set_keyed under_set (zero_unit _) w.heap.size m.length D rfl HMap.out _ _ rfl HKey.out ?_; rw [hh]))
          go_roundw
          case rel => exact ⟨k + 1, m, D, by omega, by go_num, HN.out, by omega, HOw.out.later (below_alloc _), HMap.out.alloc _, HHas.out, below_step HB.out (below_alloc _)⟩
          case measure => simp [intOf]; omega
        · have HN : Hid (metA [] t = metA (m ++ [x]) (t.drop (k + 1))) := by
            show _ = _
            rw [HMe.out, HD.out, metA, if_neg (fun hh => by rcases hh with hh | hh; exact hx0 hh; exact hin hh)]
          have hh : Maps.has D (.int .i64 x) = false := by rw [HHas.out, decide_eq_false hin]
          have hw : IntKind.i64.wrap (-1 - x) = -1 - x := IntWalk.i64_in _ ⟨by omega, by omega⟩
          have hml2 : m.length < maxLen := by unfold maxLen; omega
          have HZ : Hid (-9223372036854775808 ≤ -1 - x ∧ -1 - x ≤ 9223372036854775807) := ⟨by omega, by omega⟩
          go_wp2_with (first
            | (at_lookup; refine wpList_lookup_own_unit _ rfl _ _ 47 rfl 3 48 set_keyed under_set (zero_unit _) w.heap.size m.length D rfl HMap.out _ _ rfl HKey.out ?_; rw [hh])
            | (at_mapUpdate; refine wpList_mapUpdate_in _ rfl _ _ _ 47 rfl 3 48 set_keyed under_set unitElem w.heap.size m.length D rfl (HMap.out.alloc _) hml2 _ _ _ rfl rfl HKey.out (.agg []) [] unitElem_mk ?_; intro w4 hown4 hturn4; have HM4 : Hid (w4.ownsMap Tryd.prog 3 unitElem w.heap.size (m.length + 1) (D.put (.int .i64 x) (.agg []))) := hown4; have HG4 : Hid ((wr.alloc (.cells #[] 48)).grownBy w4 (some w.heap.size)) := hturn4.grown; clear hown4 hturn4)
            | (at_builtin; refine wpList_append_own _ rfl _ _ 27 rfl w.heap.size 3 i1 _ 1 8 under_ints hi1 hy0 hy1 hy2 rfl (by decide) u4 (m.map fun c => -1 - c).length ((m.map fun c => -1 - c).map I64) rfl (vars_row HOw.out HMap.out HG4.out).2 ⟨w4.heap.size, 0, none⟩ 1 1 [.int .i64 (-1 - x)] rfl rfl (cell_int_new _ _) (by intro u hu; simp at hu; subst hu; rfl) (by rw [List.length_map]; unfold maxLen; omega) (by rw [List.length_map]; omega) (Nat.le_trans (Nat.le_trans HB.out.size (below_alloc _).size) (Nat.le_trans HG4.out.size (below_alloc _).size)) ?_; intro v5 w5 hown5 hgrow5 _))
          have HFin := vars_next (H := Unit) (b := w.heap.size) HB.out HOw.out HMap.out HHas.out HG4.out HM4.out hown5 hgrow5 HZ.out
          clear hown5 hgrow5
          try go_wp2
          go_roundw
          case rel => exact ⟨k + 1, m ++ [x], _, by omega, by go_num, HN.out, by rw [List.length_append, List.length_singleton]; omega, HFin.out.1, HFin.out.2.1, HFin.out.2.2.1, HFin.out.2.2.2⟩
          case measure => simp [intOf]; omega
    · have hke : k = t.length := by omega
      have HF : Hid (varsL t = m.map fun c => -1 - c) := by show _ = _; unfold varsL; rw [HMe.out, List.drop_of_length_le (by omega)]; rfl
      clear hbl
      go_wp2
      go_ret
      exact ⟨_, rfl, by rw [HF.out]; exact HOw.out, HB.out⟩

end Go.Proofs.YtjcgngfidnechaaDoor

/- What Shift answers. -/
namespace Go.Proofs.YtjcgngfidnechaaDoor
open Go.RowKit Go.Maps

def isVarB (n : Int) : Bool := decide (0 ≤ n) && decide (n < 1048576)

/-- The variables of a row numbered by a function with a state. -/
def renG {σ : Type} (φ : σ → Int → Int × σ) : σ → List Int → List Int × σ
  | s, [] => ([], s)
  | s, c :: r => if c < 0 then (((-1 - (φ s (-1 - c)).1) :: (renG φ (φ s (-1 - c)).2 r).1), (renG φ (φ s (-1 - c)).2 r).2) else (c :: (renG φ s r).1, (renG φ s r).2)

theorem set_midI {α : Type} (a : List α) (x y : α) (b : List α) (k : Nat) (h : a.length = k) : (a ++ x :: b).set k y = a ++ y :: b := by
  subst h
  simp

theorem grown_set {w wr : World} {r : Option Nat} {g : Nat} (h : w.grownBy wr r) (hg : w.heap.size ≤ g) (k : Nat) (u : Value) : w.grownBy (wr.setCell ⟨g, k, none⟩ u) r :=
  ⟨h.os, h.tape, h.output, by simpa [World.setCell] using h.size, fun j hj hne => by
    rw [heap_setCell_other _ _ _ _ (show j ≠ g by omega)]
    exact h.block j hj hne⟩

theorem set_grown (w : World) (g k : Nat) (u : Value) : w.grownBy (w.setCell ⟨g, k, none⟩ u) (some g) :=
  ⟨rfl, rfl, rfl, by simp [World.setCell], fun j _ hne => heap_setCell_other _ _ _ _ (fun e => hne (by rw [e]))⟩

end Go.Proofs.YtjcgngfidnechaaDoor

/- What Check answers, of a row and of binds. -/
namespace Go.Proofs.YtjcgngfidnechaaDoor
open Go.RowKit Go.Maps Go.BigFrame

theorem sigGo_ok : ∀ (sig : List Sy) (k : Nat) (r : List Sy), sigGo sig k r = 0 → ArOk r
  | _, _, [] => fun _ s hs => by cases hs
  | sig, k, s :: r => fun h => by
    unfold sigGo at h
    split at h
    · split at h
      · cases h
      · rename_i h2
        split at h
        · cases h
        · intro x hx
          cases hx with
          | head => omega
          | tail _ hx => exact sigGo_ok sig (k + 1) r h x hx
    · cases h

theorem sigE_ok {sig : List Sy} (h : sigE sig = 0) : ArOk sig := by
  unfold sigE at h
  split at h
  · cases h
  · exact sigGo_ok sig 0 sig h

theorem sigGo_range : ∀ (sig : List Sy) (k : Nat) (r : List Sy), 0 ≤ sigGo sig k r ∧ sigGo sig k r ≤ 37
  | _, _, [] => by unfold sigGo; omega
  | sig, k, s :: r => by
    have := sigGo_range sig (k + 1) r
    unfold sigGo
    split
    · split
      · omega
      · split <;> omega
    · omega

def termE (sig : List Sy) (t : List Int) : Int := if sigE sig = 0 then rowE sig t else sigE sig

set_option maxRecDepth 100000 in
set_option maxHeartbeats 800000 in
theorem check_any (sv v : Value) (sig : List Sy) (t : List Int) (w : World) (hs : Sg w sv sig) (h : Is w v t) (hT : Tabs w) (hb : t.length * 8 ≤ 140737488351232) :
    Calls Tryd.prog 13 #[sv, v] w fun e w' => e = .returned (.int .i64 (termE sig t)) ∧ Below w.heap.size w w' := by
  have HS : Hid (Sg w sv sig) := hs
  have HI : Hid (Is w v t) := h
  have HT : Hid (Tabs w) := hT
  clear hs h hT
  go_enter Tryd.func13, Tryd.ntmps13
  go_wp2_with fail
  refine (checkSig_any sv sig w HS.out HT.out).mono ?_
  rintro e w1 ⟨rfl, hb1⟩
  have HB : Hid (Below w.heap.size w w1) := hb1
  have HS1 : Hid (Sg w1 sv sig) := HS.out.kp (Kp.of_below hb1)
  have HI1 : Hid (Is w1 v t) := HI.out.kp (Kp.of_below hb1)
  clear hb1
  by_cases he : sigE sig = 0
  · have HA : Hid (ArOk sig) := sigE_ok he
    have HF : Hid (termE sig t = rowE sig t) := by show _ = _; unfold termE; rw [if_pos he]
    rw [he]
    clear he
    go_wp2_with fail
    refine (checkRow_any sv v sig t w1 HS1.out HI1.out HA.out hb).mono ?_
    rintro e w9 ⟨rfl, hw9⟩
    have hw8 := hw9.symm
    subst hw8
    clear hw9
    go_wp2
    go_ret
    exact ⟨ret1i HF.out.symm, HB.out⟩
  · have HF : Hid (termE sig t = sigE sig) := by show _ = _; unfold termE; rw [if_neg he]
    generalize sigE sig = E at he HF ⊢
    have heb : (E != 0) = true := by simpa using he
    go_wp2
    go_ret
    exact ⟨ret1i HF.out.symm, HB.out⟩

/-- A bind: a variable's number, and a row. -/
abbrev Bd := Int × List Int

def EB (w : World) (g o : Nat) (b : Bd) : Prop := -9223372036854775808 ≤ b.1 ∧ b.1 ≤ 9223372036854775807 ∧ b.2.length * 8 ≤ 140737488351232 ∧ w.cell? ⟨g, o, none⟩ = some (.int .i64 b.1) ∧ ∃ v, w.cell? ⟨g, o + 1, none⟩ = some v ∧ Is w v b.2

theorem EB.kp {w w' : World} (hk : Kp w w') (g o : Nat) (b : Bd) (h : EB w g o b) : EB w' g o b := by
  obtain ⟨h1, h2, h3, h4, v, h5, h6⟩ := h
  exact ⟨h1, h2, h3, hk.cell _ _ h4, v, hk.cell _ _ h5, h6.kp hk⟩

def Bs (w : World) (v : Value) (s : List Bd) : Prop := Row EB 2 w v s
theorem Bs.kp {w w' : World} {v : Value} {s : List Bd} (h : Bs w v s) (hk : Kp w w') : Bs w' v s := Row.imp h hk.size (EB.kp hk)

theorem Bs.at {w : World} {ao : Option Addr} {n cap : Nat} {s : List Bd} (h : Bs w (.slice ao n cap) s) {k : Nat} (hk : k < s.length) :
    ∃ g off x a t c, ao = some ⟨g, off, none⟩ ∧ s[k]? = some (x, t) ∧ w.cell? ⟨g, off + k * 2, none⟩ = some (.int .i64 x) ∧ w.cell? ⟨g, off + k * 2 + 1, none⟩ = some (.slice a t.length c) ∧ Is w (.slice a t.length c) t ∧ -9223372036854775808 ≤ x ∧ x ≤ 9223372036854775807 ∧ t.length * 8 ≤ 140737488351232 := by
  obtain ⟨ao', cap', hv, _, _, hx⟩ := Row.flat h
  simp only [Value.slice.injEq] at hv
  obtain ⟨rfl, rfl, rfl⟩ := hv
  obtain ⟨g, off, ⟨x, t⟩, rfl, hm, h1, h2, h3, h4, v, h5, h6⟩ := hx k hk
  obtain ⟨a, c, rfl, _⟩ := Row.flat h6
  exact ⟨g, off, x, a, t, c, rfl, hm, h4, h5, h6, h1, h2, h3⟩

/-- What is wrong with binds, from a place on. -/
def bindGo (sig : List Sy) : Option Int → List Bd → Int
  | _, [] => 0
  | p, b :: r => if isVarB b.1 then (if p.any (fun y => decide (b.1 ≤ y)) then 41 else if termE sig b.2 = 0 then bindGo sig (some b.1) r else termE sig b.2) else 40

def bindE (sig : List Sy) (s : List Bd) : Int := if sigE sig = 0 then bindGo sig none s else sigE sig

/-- The number of the bind ahead of a place. -/
def ahead (s : List Bd) : Nat → Option Int
  | 0 => none
  | k + 1 => (s[k]?).map (·.1)

end Go.Proofs.YtjcgngfidnechaaDoor

/- A map from numbers to values in memory; a row joined to one's own. -/
namespace Go.Proofs.YtjcgngfidnechaaDoor
open Go.RowKit Go.Maps

theorem join_ints (ty : TypeId) {w : World} {base : Nat} {x u : Value} {xs es : List Int} (ho : OwI w base x xs) (hs : Is w u es) (hb : base ≤ w.heap.size) (hl : (xs.length + es.length) * 8 ≤ 140737488355328) :
    ∃ v' w', (Builtin.append_ #[27, 27] ty #[x, u]).run Tryd.prog w = .ok v' w' ∧ OwI w' base v' (xs ++ es) ∧ w.grownBy w' x.ownBlock := by
  obtain ⟨i0, hi, hz0, hz1, hz2⟩ := info_parts info_int
  have hZ : ZI es := fun k x hk => by
    obtain ⟨ao, cap, rfl, _, _, hx⟩ := Row.flat hs
    obtain ⟨_, _, y, _, hy, h1, h2, _⟩ := hx k (List.getElem?_eq_some_iff.1 hk).1
    rw [hk] at hy
    cases hy
    exact ⟨h1, h2⟩
  have hZ2 : ZI (xs ++ es) := fun k y hk => by
    by_cases hkl : k < xs.length
    · rw [List.getElem?_append_left hkl] at hk
      exact ho.1 k y hk
    · rw [List.getElem?_append_right (by omega)] at hk
      exact hZ _ y hk
  obtain ⟨ao, cap, rfl, hc, hm, hx⟩ := hs
  by_cases h0 : es.length = 0
  · obtain rfl : es = [] := List.eq_nil_of_length_eq_zero h0
    obtain ⟨bo, bc, rfl, hbc, _⟩ := ho.shape
    refine ⟨_, w, run_append_nothing w 27 27 ty 3 i0 under_ints hi _ xs.length bc hbc _ ?_, by rw [List.append_nil]; exact ho, World.grownBy.refl _ _⟩
    cases ao with
    | none => exact Src.ofNil w under_ints _
    | some a => exact Src.ofSlice w under_ints a 0 _ [] (by simp) (fun j u hj => (by simp at hj)) (fun u hu => (by simp at hu))
  · obtain ⟨g', off, rfl, hg, hcell⟩ := hx (by omega)
    obtain ⟨v', w', hr, h2, h3, _, _⟩ := run_append_own_at (P := Tryd.prog) w base 27 ty 3 i0 _ 1 8 under_ints hi hz0 hz1 hz2 rfl (by decide) _ xs.length (xs.map I64) ho.2 ⟨g', off, none⟩ es.length cap (es.map I64) (by simp) (fun j u hj => by
      rw [List.getElem?_map] at hj
      cases hk : es[j]? with
      | none => rw [hk] at hj; simp at hj
      | some x =>
        rw [hk] at hj
        simp at hj
        subst hj
        rw [Addr.add_lit]
        have := (hcell j x hk).2.2
        rw [Nat.mul_one] at this
        exact this) (fun u hu => by obtain ⟨x, _, rfl⟩ := List.mem_map.1 hu; rfl) (by unfold maxLen; omega) (by omega) hb
    refine ⟨v', w', hr, ⟨hZ2, ?_⟩, h3⟩
    rw [List.length_append, List.map_append]
    exact h2

/-- An element, read as the value that it is. -/
def RV (v : Value) : Option (DataW Value × List MemPlace) := some (.held v, [])

/-- Block b of w is the map L. -/
def MapV (w : World) (b : Nat) (L : List (Int × Value)) : Prop :=
  ∃ D : DataW Value, w.ownsMap Tryd.prog 3 RV b L.length D ∧ Maps.size D = L.length ∧
    (∀ k v, L.lookup k = some v → ∀ z, D.atKey (.int .i64 k) z = .held v) ∧ (∀ k, Maps.has D (.int .i64 k) = (L.lookup k).isSome)

theorem MapV.isMap {w : World} {b : Nat} {L : List (Int × Value)} (h : MapV w b L) : ∃ es clock, w.heap[b]? = some (.map es clock) := by
  obtain ⟨D, ⟨es, clock, hb, _⟩, _⟩ := h
  exact ⟨es, clock, hb⟩

theorem MapV.lt {w : World} {b : Nat} {L : List (Int × Value)} (h : MapV w b L) : b < w.heap.size := by
  obtain ⟨es, clock, hb⟩ := h.isMap
  exact (Array.getElem?_eq_some_iff.1 hb).1

theorem MapV.kept {w w' : World} {b : Nat} {L : List (Int × Value)} {row : Option Nat} (h : MapV w b L) (hg : w.grownBy w' row) (hr : row ≠ some b) : MapV w' b L := by
  obtain ⟨D, h1, h2, h3, h4⟩ := h
  exact ⟨D, h1.kept hg (fun e => hr e.symm), h2, h3, h4⟩

theorem MapV.later {w w' : World} {b : Nat} {L : List (Int × Value)} (h : MapV w b L) (hb : Below w.heap.size w w') : MapV w' b L :=
  h.kept (grown_of_below hb none) (by simp)

theorem MapV.made (w : World) : MapV (w.alloc (.map #[] 0)) w.heap.size [] :=
  ⟨DataW.map [], World.ownsMap_made w _ _ _, rfl, fun k v hk => (by cases hk), fun k => (by simp [Maps.has])⟩

theorem MapV.look {w : World} {b : Nat} {L : List (Int × Value)} (h : MapV w b L) {t e : TypeId} {z : Value} (ht : Tryd.prog.underlying t = some (.map 3 e)) (hz : (zeroValue e).run Tryd.prog w = .ok z w) {k : Int} (h1 : -9223372036854775808 ≤ k) (h2 : k ≤ 9223372036854775807) :
    (Instr.lookup t (.map (some b)) (.int .i64 k) true).run Tryd.prog w = .ok (.tuple #[(L.lookup k).getD z, .bool (L.lookup k).isSome]) w := by
  obtain ⟨D, hD, _, ha, hh⟩ := h
  obtain ⟨v, ps, hrun, hv⟩ := hD.look_ok set_keyed ht hz (zd := .held z) (zp := []) rfl (key_int h1 h2)
  rw [hrun, hh]
  have hv2 : D.atKey (.int .i64 k) (.held z) = .held v := by
    simp only [RV, Option.some.injEq, Prod.mk.injEq] at hv
    exact hv.1.symm
  cases hl : L.lookup k with
  | none =>
    rw [atKey_of_not_has (by rw [hh, hl]; rfl)] at hv2
    rw [DataW.held.inj hv2]
    simp only [Option.getD, Option.isSome]
  | some u =>
    rw [ha k u hl] at hv2
    rw [DataW.held.inj hv2]
    simp only [Option.getD, Option.isSome]

theorem MapV.store {w : World} {b : Nat} {L : List (Int × Value)} (h : MapV w b L) {t e : TypeId} (ht : Tryd.prog.underlying t = some (.map 3 e)) {k : Int} (h1 : -9223372036854775808 ≤ k) (h2 : k ≤ 9223372036854775807) (hn : L.lookup k = none) (hL : L.length < maxLen) (v : Value) :
    ∃ w', (Instr.mapUpdate t (.map (some b)) (.int .i64 k) v).run Tryd.prog w = .ok () w' ∧ MapV w' b ((k, v) :: L) ∧ w.grownBy w' (some b) := by
  obtain ⟨D, hD, hs, ha, hh⟩ := h
  have hT := hD.tidy set_keyed
  have hK : WideAt.IsKeyLit (.int .i64 k) := set_keyed.key (key_int h1 h2)
  obtain ⟨w', hrun, r1, r2⟩ := hD.store set_keyed ht hL (key_int h1 h2) (val := v) (d := .held v) (ps := []) rfl
  refine ⟨w', hrun, ⟨D.put (.int .i64 k) (.held v), r1, ?_, fun k' v' hl z => ?_, fun k' => ?_⟩, r2.grown⟩
  · rw [size_put hT, hs, hh, hn]
    rfl
  · rw [List.lookup_cons] at hl
    by_cases e : k' = k
    · subst e
      simp at hl
      subst hl
      exact atKey_put_same hT.isMap hK _ z
    · rw [show (k' == k) = false by simpa using e] at hl
      rw [atKey_put_other (by simpa using e)]
      exact ha k' v' hl z
  · rw [List.lookup_cons]
    by_cases e : k' = k
    · subst e
      rw [has_put_same hT.isMap hK]
      simp
    · rw [has_put_other (by simpa using e), hh, show (k' == k) = false by simpa using e]

theorem MapV.len {w : World} {b : Nat} {L : List (Int × Value)} (h : MapV w b L) {t e : TypeId} (ht : Tryd.prog.underlying t = some (.map 3 e)) (ty : TypeId) : (Builtin.len_ #[t] ty #[.map (some b)]).run Tryd.prog w = .ok (.int .i64 (L.length : Int)) w := by
  obtain ⟨D, h1, h2, _⟩ := h
  have := h1.len ht ty
  rw [h2] at this
  exact this

end Go.Proofs.YtjcgngfidnechaaDoor

/- What Apply answers. -/
namespace Go.Proofs.YtjcgngfidnechaaDoor
open Go.RowKit Go.Maps

/-- The map's values are the terms of binds. -/
def Terms (w : World) : List (Int × Value) → List Bd → Prop
  | [], [] => True
  | (k, v) :: L, (x, t) :: s => k = x ∧ Is w v t ∧ Terms w L s
  | _, _ => False

theorem Terms.kp {w w' : World} (hk : Kp w w') : ∀ {L : List (Int × Value)} {s : List Bd}, Terms w L s → Terms w' L s
  | [], [], _ => trivial
  | (_, _) :: _, (_, _) :: _, ⟨h1, h2, h3⟩ => ⟨h1, h2.kp hk, Terms.kp hk h3⟩
  | [], _ :: _, h => h.elim
  | _ :: _, [], h => h.elim

theorem Terms.len {w : World} : ∀ {L : List (Int × Value)} {s : List Bd}, Terms w L s → L.length = s.length
  | [], [], _ => rfl
  | (_, _) :: _, (_, _) :: _, ⟨_, _, h3⟩ => congrArg (· + 1) (Terms.len h3)
  | [], _ :: _, h => h.elim
  | _ :: _, [], h => h.elim

theorem Terms.look {w : World} (n : Int) : ∀ {L : List (Int × Value)} {s : List Bd}, Terms w L s → (∀ t, s.lookup n = some t → ∃ v, L.lookup n = some v ∧ Is w v t) ∧ (s.lookup n = none → L.lookup n = none)
  | [], [], _ => ⟨fun t h => (by cases h), fun _ => rfl⟩
  | (k, v) :: L, (x, t) :: s, ⟨h1, h2, h3⟩ => by
    subst h1
    rw [List.lookup_cons, List.lookup_cons]
    cases hk : n == k with
    | true => exact ⟨fun u hu => ⟨v, rfl, by cases hu; exact h2⟩, fun h => by cases h⟩
    | false => exact Terms.look n h3
  | [], _ :: _, h => h.elim
  | _ :: _, [], h => h.elim

end Go.Proofs.YtjcgngfidnechaaDoor

/- What lay and Apply answer. -/
namespace Go.Proofs.YtjcgngfidnechaaDoor
open Go.RowKit Go.Maps

/-- What a code becomes. -/
def piece (f : Int → Option (List Int)) (c : Int) : List Int := if c < 0 then (f (-1 - c)).getD [c] else [c]

/-- A row with pieces in its codes' places; none: too many nodes. -/
def layGo (f : Int → Option (List Int)) : List Int → List Int → Option (List Int)
  | a, [] => some a
  | a, c :: r => if 512 < a.length + (piece f c).length then none else layGo f (a ++ piece f c) r

def layE (f : Int → Option (List Int)) (t : List Int) : Int := if (layGo f [] t).isSome then 0 else 2
def layL (f : Int → Option (List Int)) (t : List Int) : List Int := (layGo f [] t).getD []

theorem nilI (w : World) (base : Nat) : OwI w base (.slice none 0 0) [] := ⟨fun k x hk => (by simp at hk), World.ownsRow_nil _ _ _ _⟩

theorem one_row {w : World} {g o cap : Nat} {c : Int} (h : w.cell? ⟨g, o, none⟩ = some (.int .i64 c)) (h1 : -9223372036854775808 ≤ c) (h2 : c ≤ 9223372036854775807) (h3 : 1 ≤ cap) (h4 : cap ≤ maxLen) : Is w (.slice (some ⟨g, o, none⟩) 1 cap) [c] := by
  refine ⟨some ⟨g, o, none⟩, cap, rfl, h3, h4, fun _ => ⟨g, o, rfl, World.block_lt_of_cell? _ _ h, fun k x hk => ?_⟩⟩
  have hk0 : k = 0 := by
    have := (List.getElem?_eq_some_iff.1 hk).1
    simp at this
    omega
  subst hk0
  simp at hk
  subst hk
  exact ⟨h1, h2, by simpa using h⟩

section
variable {P : Program} {w w' : World} {ops : Array Oper} {rest : List Oper} {o : Oper} {a : Act} {Q : Exit → Act → World → Prop}

theorem wpList_append_run (hg : o.guard = none) (s x : Operand) (t : TypeId) (ho : o.op = .call { callee := .builtin .append, args := #[s, x], argTypes := #[t, t] }) (v u : Value) {v' : Value} (hs : a.eval s = v) (hx : a.eval x = u)
    (hr : (Builtin.append_ #[t, t] o.type #[v, u]).run P w = .ok v' w') (h : wpList P ops Q rest (a.put o.dst v') w') : wpList P ops Q (o :: rest) a w := by
  refine wpList_plain hg fun K' hK' => ?_
  unfold Oper.wp
  simp [execOp, ho, resolve, invoke, builtin, hs, hx, hr, Result.andThen]
  exact hK' _ _ h

end

end Go.Proofs.YtjcgngfidnechaaDoor
