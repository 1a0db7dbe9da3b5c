/- Texts of the proof, one behind the other. -/
import Derived.Test.YtmokokhhheonoaaProg
import Derived.WalkKit
import Derived.WalkSpells
import Derived.WalkLawsBesides
import Derived.Deep.QuietTactic
import Derived.BigQuiet
import Derived.Laws.CopyOwn
import Derived.Laws.IdiomCopy
import Derived.Deep.RegionHeldLaw
import Derived.Maps.AppendAt
import Derived.Maps.Own
import Derived.Maps.OwnOps
import Derived.Maps.OwnSet
import Derived.Deep.Upon
import Derived.Deep.Quiet
import Derived.WalkSmall
import Derived.Laws.RangeString
import Derived.Laws.RangeAny
import Derived.Ground.NamesProg
import Derived.Ground.SlgfProg
import Derived.Shelf.Lay
import Derived.Shelf.SlGeneric
import Derived.Shelf.Strings.Prefix
import Derived.Shelf.Unicode.ValidAny
import Derived.Shelf.SlicesQ.IndexFunc
/- Rows of numbers in memory, as they are read and as a call owns them: for the seats of terms. -/
namespace Go.Proofs.Ytmokokhhheonoaa
open Go.RowKit Go.Maps

/-- Every cell that could be read reads as it did. -/
structure Kp (w w' : World) : Prop where
  size : w.heap.size ≤ w'.heap.size
  cell : ∀ (a : Addr) (v : Value), w.cell? a = some v → w'.cell? a = some v

theorem Kp.trans {a b c : World} (h : Kp a b) (k : Kp b c) : Kp a c := ⟨Nat.le_trans h.size k.size, fun x v hx => k.cell x v (h.cell x v hx)⟩

theorem Kp.of_below {w w' : World} (h : Below w.heap.size w w') : Kp w w' :=
  ⟨h.size, fun a _ hv => (h.cell (World.block_lt_of_cell? w a hv)).trans hv⟩

/-- A slice that is read, element by element: E says what stands at an address. -/
def Row {α : Type} (E : World → Nat → Nat → α → Prop) (sz : Nat) (w : World) (v : Value) (xs : List α) : Prop :=
  ∃ ao cap, v = .slice ao xs.length cap ∧ xs.length ≤ cap ∧ cap ≤ maxLen ∧
    (0 < xs.length → ∃ g off, ao = some ⟨g, off, none⟩ ∧ g < w.heap.size ∧ ∀ (k : Nat) (x : α), xs[k]? = some x → E w g (off + k * sz) x)

theorem Row.imp {α : Type} {E : World → Nat → Nat → α → Prop} {sz : Nat} {w w' : World} {v : Value} {xs : List α} (h : Row E sz w v xs) (hs : w.heap.size ≤ w'.heap.size) (hE : ∀ g o x, E w g o x → E w' g o x) : Row E sz w' v xs := by
  obtain ⟨ao, cap, rfl, hc, hm, hx⟩ := h
  refine ⟨ao, cap, rfl, hc, hm, fun h0 => ?_⟩
  obtain ⟨g, off, rfl, hg, hx⟩ := hx h0
  exact ⟨g, off, rfl, Nat.lt_of_lt_of_le hg hs, fun k x he => hE _ _ _ (hx k x he)⟩

theorem Row.flat {α : Type} {E : World → Nat → Nat → α → Prop} {sz : Nat} {w : World} {v : Value} {xs : List α} (h : Row E sz w v xs) : ∃ ao cap, v = .slice ao xs.length cap ∧ xs.length ≤ cap ∧ cap ≤ maxLen ∧
    ∀ k : Nat, k < xs.length → ∃ g off x, ao = some ⟨g, off, none⟩ ∧ xs[k]? = some x ∧ E w g (off + k * sz) x := by
  obtain ⟨ao, cap, rfl, hc, hm, hx⟩ := h
  refine ⟨ao, cap, rfl, hc, hm, fun k hk => ?_⟩
  obtain ⟨g, off, rfl, hg, hx⟩ := hx (by omega)
  exact ⟨g, off, xs[k], rfl, List.getElem?_eq_getElem hk, hx k _ (List.getElem?_eq_getElem hk)⟩

/-- A number at an address. -/
def EI (w : World) (g o : Nat) (x : Int) : Prop := -9223372036854775808 ≤ x ∧ x ≤ 9223372036854775807 ∧ w.cell? ⟨g, o, none⟩ = some (.int .i64 x)

theorem EI.kp {w w' : World} (hk : Kp w w') (g o : Nat) (x : Int) (h : EI w g o x) : EI w' g o x := ⟨h.1, h.2.1, hk.cell _ _ h.2.2⟩

/-- A row of numbers. -/
def Is (w : World) (v : Value) (xs : List Int) : Prop := Row EI 1 w v xs

theorem Is.kp {w w' : World} {v : Value} {xs : List Int} (h : Is w v xs) (hk : Kp w w') : Is w' v xs := Row.imp h hk.size (EI.kp hk)

theorem below_alloc {w : World} (o : Obj) : Below w.heap.size w (w.alloc o) := (Below.refl _ _).alloc (Nat.le_refl _) o

theorem below_step {a b c : World} (h : Below a.heap.size a b) (k : Below b.heap.size b c) : Below a.heap.size a c := h.trans (k.mono h.size)

theorem Row.len {α : Type} {E : World → Nat → Nat → α → Prop} {sz : Nat} {w : World} {ao : Option Addr} {n cap : Nat} {xs : List α} (h : Row E sz w (.slice ao n cap) xs) : n = xs.length := by
  obtain ⟨ao', cap', hv, _⟩ := h
  simp only [Value.slice.injEq] at hv
  exact hv.2.1

theorem Row.nil {α : Type} {E : World → Nat → Nat → α → Prop} {sz : Nat} {w : World} {ao : Option Addr} {cap : Nat} (hc : cap ≤ maxLen) : Row E sz w (.slice ao 0 cap) ([] : List α) :=
  ⟨ao, cap, rfl, Nat.zero_le _, hc, fun h => absurd h (by simp)⟩

theorem Is.at {w : World} {ao : Option Addr} {n cap : Nat} {es : List Int} (h : Is w (.slice ao n cap) es) {k : Nat} (hk : k < es.length) :
    ∃ g off x, ao = some ⟨g, off, none⟩ ∧ es[k]? = some x ∧ w.cell? ⟨g, off + k, none⟩ = some (.int .i64 x) ∧ -9223372036854775808 ≤ x ∧ x ≤ 9223372036854775807 := by
  obtain ⟨ao', cap', hv, _, _, hx⟩ := Row.flat h
  simp only [Value.slice.injEq] at hv
  obtain ⟨rfl, rfl, rfl⟩ := hv
  obtain ⟨g, off, x, rfl, hm, h1, h2, h3⟩ := hx k hk
  rw [Nat.mul_one] at h3
  exact ⟨g, off, x, rfl, hm, h3, h1, h2⟩

theorem take_get {α : Type} {xs : List α} {k : Nat} {x : α} (h : xs[k]? = some x) : xs.take (k + 1) = xs.take k ++ [x] := by
  rw [List.take_add_one, h]; rfl

def I64 (x : Int) : Value := .int .i64 x

def ZI (xs : List Int) : Prop := ∀ (k : Nat) (x : Int), xs[k]? = some x → -9223372036854775808 ≤ x ∧ x ≤ 9223372036854775807

/-- The slice value v is the call's own (blocks from base on), at the head of its row, and holds the numbers xs. -/
def OwI (w : World) (base : Nat) (v : Value) (xs : List Int) : Prop := ZI xs ∧ w.ownsRow base 3 1 v xs.length (xs.map I64)

theorem OwI.is {w : World} {base : Nat} {v : Value} {xs : List Int} (h : OwI w base v xs) : Is w v xs := by
  have h2 := h.2
  rcases h2.2 with ⟨rfl, hn⟩ | ⟨g, cap, cur, rfl, hb, hg, hc, hm, hs, ht⟩
  · exact ⟨none, 0, by rw [hn], by omega, by simp [maxLen], by omega⟩
  · refine ⟨_, cap, rfl, hc, hm, fun _ => ⟨g, 0, rfl, (Array.getElem?_eq_some_iff.1 hg).1, ?_⟩⟩
    intro k x hk
    have hlt : k < xs.length := (List.getElem?_eq_some_iff.1 hk).1
    refine ⟨(h.1 k x hk).1, (h.1 k x hk).2, ?_⟩
    rw [Nat.zero_add, Nat.mul_one, World.ownsRow.cellAt h2 k (by omega)]
    simp [hk, I64]

theorem OwI.kept {w w' : World} {base : Nat} {v : Value} {xs : List Int} {row : Option Nat} (h : OwI w base v xs) (hg : w.grownBy w' row) (hr : v.ownBlock = none ∨ v.ownBlock ≠ row) : OwI w' base v xs := by
  refine ⟨h.1, h.2.1, ?_⟩
  rcases h.2.2 with h | ⟨g, cap, cur, rfl, hb, hgg, r⟩
  · exact .inl h
  · refine .inr ⟨g, cap, cur, rfl, hb, (hg.block g (Array.getElem?_eq_some_iff.1 hgg).1 ?_).trans hgg, r⟩
    rcases hr with hr | hr
    · cases hr
    · exact hr

theorem OwI.later {w w' : World} {base : Nat} {v : Value} {xs : List Int} (h : OwI w base v xs) (hb : Below w.heap.size w w') : OwI w' base v xs :=
  h.kept (row := none) ⟨hb.os, hb.tape, hb.output, hb.size, fun k hk _ => hb.block k hk⟩ (by cases hv : v.ownBlock <;> simp)

theorem OwI.mono {w : World} {base b' : Nat} {v : Value} {xs : List Int} (h : OwI w base v xs) (hb : b' ≤ base) : OwI w b' v xs := by
  refine ⟨h.1, h.2.1, ?_⟩
  rcases h.2.2 with h | ⟨g, cap, cur, rfl, hg, r⟩
  · exact .inl h
  · exact .inr ⟨g, cap, cur, rfl, Nat.le_trans hb hg, r⟩

theorem made_zero64 (n : Nat) : (madeCells (Value.int .i64 0).cells (n * 1)).toList = (List.replicate n (0 : Int)).map I64 := by
  have : (Value.int .i64 0).cells = #[Value.int .i64 0] := rfl
  rw [this, toList_madeCells_one]
  simp [I64]

theorem OwI.made {w : World} {base n : Nat} {v : Value} (h : w.ownsRow base 3 1 v n (madeCells (Value.int .i64 0).cells (n * 1)).toList) : OwI w base v (List.replicate n 0) := by
  rw [made_zero64] at h
  refine ⟨?_, by simpa using h⟩
  intro k x hk
  rw [List.getElem?_replicate] at hk
  split at hk
  · cases hk; omega
  · cases hk

theorem OwI.at {w : World} {base g n cap : Nat} {xs : List Int} (h : OwI w base (.slice (some ⟨g, 0, none⟩) n cap) xs) {k : Nat} {x : Int} (hk : xs[k]? = some x) :
    w.cell? ⟨g, k, none⟩ = some (.int .i64 x) ∧ w.frozen? ⟨g, k, none⟩ = false := by
  have h2 := h.2
  rcases h2.2 with ⟨hv, hn⟩ | ⟨g', cap', cur, hv, hb, hg, hc, hm, hs, ht⟩
  · cases hv
  · simp only [Value.slice.injEq, Option.some.injEq, Addr.mk.injEq, and_true] at hv
    obtain ⟨rfl, rfl, rfl⟩ := hv
    have hlt : k < xs.length := (List.getElem?_eq_some_iff.1 hk).1
    have h3 := h2
    refine ⟨?_, World.ownsRow.frozenAt h3 k⟩
    rw [World.ownsRow.cellAt h3 k (by omega)]
    simp [hk, I64]

theorem OwI.put {w w0 : World} {base g n cap B : Nat} {xs : List Int} (h : OwI w base (.slice (some ⟨g, 0, none⟩) n cap) xs) (hb : Below B w0 w) (hB : B ≤ g) (hn : n = xs.length) {k : Nat} {z : Int} (hz : -9223372036854775808 ≤ z ∧ z ≤ 9223372036854775807) {ys : List Int} (hys : xs.set k z = ys) :
    OwI (w.setCell ⟨g, k, none⟩ (.int .i64 z)) base (.slice (some ⟨g, 0, none⟩) n cap) ys ∧ Below B w0 (w.setCell ⟨g, k, none⟩ (.int .i64 z)) := by
  subst hys
  subst hn
  have hs := World.ownsRow.stored h.2 k (.int .i64 z)
  refine ⟨⟨?_, ?_⟩, hb.setCell (p := ⟨g, k, none⟩) hB _⟩
  · intro j y hy
    rw [List.getElem?_set] at hy
    split at hy
    · split at hy
      · cases hy; exact hz
      · cases hy
    · exact h.1 j y hy
  · have h1 := hs.1
    rw [List.length_set, List.map_set]
    exact h1

theorem OwI.shape {w : World} {base : Nat} {v : Value} {xs : List Int} (h : OwI w base v xs) : ∃ ao cap, v = .slice ao xs.length cap ∧ xs.length ≤ cap ∧ cap ≤ maxLen := by
  rcases h.2.2 with ⟨rfl, hn⟩ | ⟨g, cap, cur, rfl, hb, hg, hc, hm, hs, ht⟩
  · exact ⟨none, 0, by rw [hn], by omega, by simp [maxLen]⟩
  · exact ⟨_, cap, rfl, hc, hm⟩

theorem info_int : (Try.prog.info? 3).map (fun i => (i.zero, i.size, i.bytes)) = some (some (.int .i64 0), 1, 8) := by kernel_rfl

theorem under_ints : Try.prog.underlying 26 = some (.slice 3) := by kernel_rfl

theorem ownsRow_later {w w' : World} {base : Nat} {e : TypeId} {size : Nat} {v : Value} {n : Nat} {xs : List Value} (h : w.ownsRow base e size v n xs) (hb : Below w.heap.size w w') : w'.ownsRow base e size v n xs :=
  h.kept (row := none) ⟨hb.os, hb.tape, hb.output, hb.size, fun k hk _ => hb.block k hk⟩ (by cases hv : v.ownBlock <;> simp)

/-- Rows of other elements lie in other blocks. -/
theorem ownsRow_apart {w : World} {b1 b2 : Nat} {e1 e2 : TypeId} {s1 s2 : Nat} {v u : Value} {n m : Nat} {xs ys : List Value} (h : w.ownsRow b1 e1 s1 v n xs) (k : w.ownsRow b2 e2 s2 u m ys) (hne : e1 ≠ e2) : v.ownBlock = none ∨ v.ownBlock ≠ u.ownBlock := by
  rcases h.2 with ⟨rfl, _⟩ | ⟨g, cap, cur, rfl, _, hg, _⟩
  · exact .inl rfl
  · refine .inr ?_
    rcases k.2 with ⟨rfl, _⟩ | ⟨g', cap', cur', rfl, _, hg', _⟩
    · simp [Value.ownBlock]
    · simp only [Value.ownBlock]
      intro e
      cases e
      rw [hg] at hg'
      simp only [Option.some.injEq, Obj.cells.injEq] at hg'
      exact hne hg'.2.1

theorem step_append_run {P : Program} {ops : Array Oper} {o : Oper} {a : Act} {w w' : World} {v' : Value} {K : Act → World → Prop} {Q : Exit → Act → World → Prop} {E : Prop} (hgd : o.guard = none) (s x : Operand) (t : TypeId)
    (ho : o.op = .call { callee := .builtin .append, args := #[s, x], argTypes := #[t, t] }) (v u : Value) (hs : a.eval s = v) (hx : a.eval x = u)
    (hr : (Builtin.append_ #[t, t] o.type #[v, u]).run P w = .ok v' w') (hK : K (a.put o.dst v') w') :
    if Region.wanted o (yielded ops a.tmps) = true then Oper.wp P o a w K Q else E := by
  have hw : Region.wanted o (yielded ops a.tmps) = true := by simp [Region.wanted, hgd]
  rw [if_pos hw]
  unfold Oper.wp execOp
  simp only [ho, resolve, invoke, builtin, Sem.run_bind, Sem.run_pure, Result.andThen_ok, List.map_toArray, List.map_cons, List.map_nil, hs, hx, hr]
  exact hK

theorem grown_below {w0 w w' : World} {g : Nat} (hB : Below w0.heap.size w0 w) (hg : w.grownBy w' (some g)) (h : w0.heap.size ≤ g) : Below w0.heap.size w0 w' := hB.grown hg hB.size (fun k hk => by cases hk; exact h)

theorem own_blk {w : World} {base : Nat} {e : TypeId} {s m j : Nat} {v : Value} {xs : List Value} (h : w.ownsRow base e s v m xs) (hj : v.ownBlock = some j) : base ≤ j := by
  rcases h.2 with ⟨rfl, _⟩ | ⟨g', cap, cur, rfl, hb, _⟩
  · cases hj
  · cases hj
    exact hb

theorem own_form {w : World} {base : Nat} {e : TypeId} {s n : Nat} {v : Value} {xs : List Value} (h : w.ownsRow base e s v n xs) (hn : 0 < n) : ∃ g cap, v = .slice (some ⟨g, 0, none⟩) n cap := by
  rcases h.2 with ⟨_, h0⟩ | ⟨g, cap, cur, hv, _⟩
  · omega
  · exact ⟨g, cap, hv⟩

theorem grown_of_below {w w' : World} (h : Below w.heap.size w w') (row : Option Nat) : w.grownBy w' row := ⟨h.os, h.tape, h.output, h.size, fun k hk _ => h.block k hk⟩

theorem laidOut : laidOutB Try.prog = true := by kernel_rfl

section
variable {P : Program} {w w' : World} {ops : Array Oper} {rest : List Oper} {o : Oper} {a : Act} {Q : Exit → Act → World → Prop}

end

theorem ret1i {k : IntKind} {a b : Int} (h : a = b) : Ending.returned (.int k a) = .returned (.int k b) := by rw [h]

theorem ret1b {a b : Bool} (h : a = b) : Ending.returned (.bool a) = .returned (.bool b) := by rw [h]

end Go.Proofs.Ytmokokhhheonoaa

/- Strongly connected parts, plainly: ways, parts by definition, and what a walk through a graph keeps. -/
namespace Go.Proofs.Ytmokokhhheonoaa

/-- An edge of a graph, told by its rows. -/
def Ed (G : List (List Int)) (i k : Nat) : Prop := ∃ es, G[i]? = some es ∧ (k : Int) ∈ es ∧ k < G.length

/-- A way: one edge at least. -/
inductive Wy (E : Nat → Nat → Prop) : Nat → Nat → Prop
  | one {i k : Nat} : E i k → Wy E i k
  | more {i j k : Nat} : E i j → Wy E j k → Wy E i k

theorem Wy.trans {E : Nat → Nat → Prop} {i j k : Nat} (h : Wy E i j) : Wy E j k → Wy E i k := by
  induction h with
  | one e => exact fun h => .more e h
  | more e _ ih => exact fun h => .more e (ih h)

theorem Wy.mono {E F : Nat → Nat → Prop} (hE : ∀ i k, E i k → F i k) {i k : Nat} (h : Wy E i k) : Wy F i k := by
  induction h with
  | one e => exact .one (hE _ _ e)
  | more e _ ih => exact .more (hE _ _ e) ih

/-- What is closed under edges is closed under ways. -/
theorem Wy.stay {E : Nat → Nat → Prop} {S : Nat → Prop} (hS : ∀ i k, S i → E i k → S k) {i k : Nat} (h : Wy E i k) : S i → S k := by
  induction h with
  | one e => exact fun s => hS _ _ s e
  | more e _ ih => exact fun s => ih (hS _ _ s e)

theorem Ed.lt {G : List (List Int)} {i k : Nat} (h : Ed G i k) : i < G.length ∧ k < G.length := by
  obtain ⟨es, h1, _, h3⟩ := h
  exact ⟨(List.getElem?_eq_some_iff.1 h1).1, h3⟩

theorem wy_lt {G : List (List Int)} {i k : Nat} (h : Wy (Ed G) i k) : i < G.length ∧ k < G.length := by
  induction h with
  | one e => exact e.lt
  | more e _ ih => exact ⟨e.lt.1, ih.2⟩

/-- The parts by definition: each is all that a node on a circle goes round with; each once, rising. -/
structure IsParts (E : Nat → Nat → Prop) (Ps : List (List Nat)) : Prop where
  part : ∀ P, P ∈ Ps → ∃ i, Wy E i i ∧ (∀ k, k ∈ P ↔ Wy E i k ∧ Wy E k i) ∧ P.Pairwise (· < ·)
  all : ∀ i, Wy E i i → ∃ P, P ∈ Ps ∧ i ∈ P
  rise : Ps.Pairwise (fun P Q => ∀ p q, P.head? = some p → Q.head? = some q → p < q)

theorem pair_ext {α : Type} {r : α → α → Prop} (hr : ∀ a b, r a b → ¬ r b a) : ∀ {xs ys : List α}, xs.Pairwise r → ys.Pairwise r → (∀ x, x ∈ xs ↔ x ∈ ys) → xs = ys
  | [], [], _, _, _ => rfl
  | [], y :: ys, _, _, h => absurd ((h y).2 (by simp)) (by simp)
  | x :: xs, [], _, _, h => absurd ((h x).1 (by simp)) (by simp)
  | x :: xs, y :: ys, hx, hy, h => by
    rw [List.pairwise_cons] at hx hy
    have e : x = y := by
      rcases List.mem_cons.1 ((h x).1 (by simp)) with e | hm
      · exact e
      · rcases List.mem_cons.1 ((h y).2 (by simp)) with e | hn
        · exact e.symm
        · exact absurd (hy.1 x hm) (hr _ _ (hx.1 y hn))
    subst e
    have hxx : x ∉ xs := fun hm => absurd (hx.1 x hm) (hr _ _ (hx.1 x hm))
    have hyy : x ∉ ys := fun hm => absurd (hy.1 x hm) (hr _ _ (hy.1 x hm))
    rw [pair_ext hr hx.2 hy.2 (fun z => by
      constructor
      · intro hz
        rcases List.mem_cons.1 ((h z).1 (List.mem_cons_of_mem _ hz)) with e | hm
        · exact absurd (e ▸ hz) hxx
        · exact hm
      · intro hz
        rcases List.mem_cons.1 ((h z).2 (List.mem_cons_of_mem _ hz)) with e | hm
        · exact absurd (e ▸ hz) hyy
        · exact hm)]

theorem rise_ext {xs ys : List Nat} (hx : xs.Pairwise (· < ·)) (hy : ys.Pairwise (· < ·)) (h : ∀ x, x ∈ xs ↔ x ∈ ys) : xs = ys :=
  pair_ext (fun a b h1 h2 => by omega) hx hy h

/-- Where an element is in two parts they are the same nodes. -/
theorem part_same {E : Nat → Nat → Prop} {i j k : Nat} (h1 : Wy E i k) (h2 : Wy E k i) (h3 : Wy E j k) (h4 : Wy E k j) (x : Nat) : (Wy E i x ∧ Wy E x i) ↔ (Wy E j x ∧ Wy E x j) :=
  ⟨fun h => ⟨(h3.trans h2).trans h.1, (h.2.trans h1).trans h4⟩, fun h => ⟨(h1.trans h4).trans h.1, (h.2.trans h3).trans h2⟩⟩

theorem IsParts.ne {E : Nat → Nat → Prop} {Ps : List (List Nat)} (h : IsParts E Ps) {P : List Nat} (hP : P ∈ Ps) : P ≠ [] := by
  obtain ⟨i, hi, hk, _⟩ := h.part P hP
  exact List.ne_nil_of_mem ((hk i).2 ⟨hi, hi⟩)

/-- There is one such row of parts. -/
theorem IsParts.one {E : Nat → Nat → Prop} {Ps Qs : List (List Nat)} (h : IsParts E Ps) (k : IsParts E Qs) : Ps = Qs := by
  have mem : ∀ {Ps Qs : List (List Nat)}, IsParts E Ps → IsParts E Qs → ∀ P, P ∈ Ps → P ∈ Qs := by
    intro Ps Qs h k P hP
    obtain ⟨i, hi, hm, hr⟩ := h.part P hP
    obtain ⟨Q, hQ, hiQ⟩ := k.all i hi
    obtain ⟨j, hj, hn, hs⟩ := k.part Q hQ
    have := (hn i).1 hiQ
    have e : P = Q := rise_ext hr hs fun x => by rw [hm, hn]; exact part_same hi hi this.1 this.2 x
    rw [e]; exact hQ
  -- the nodes' heads tell them apart
  have tie : ∀ {Ps : List (List Nat)}, IsParts E Ps → Ps.Pairwise (fun P Q => (P.head?.getD 0) < (Q.head?.getD 0)) := by
    intro Ps h
    refine List.Pairwise.imp_of_mem (fun {P Q} hP hQ hr => ?_) h.rise
    have h1 := h.ne hP
    have h2 := h.ne hQ
    cases P with
    | nil => exact absurd rfl h1
    | cons p ps =>
      cases Q with
      | nil => exact absurd rfl h2
      | cons q qs => exact hr p q rfl rfl
  exact pair_ext (fun a b h1 h2 => by omega) (tie h) (tie k) fun P => ⟨mem h k P, mem k h P⟩

theorem IsParts.congr {E F : Nat → Nat → Prop} {Ps : List (List Nat)} (h : IsParts E Ps) (e : ∀ i k, (Wy E i k ∧ Wy E k i) ↔ (Wy F i k ∧ Wy F k i)) : IsParts F Ps := by
  have ec : ∀ i, Wy E i i ↔ Wy F i i := fun i => ⟨fun h => ((e i i).1 ⟨h, h⟩).1, fun h => ((e i i).2 ⟨h, h⟩).1⟩
  refine ⟨fun P hP => ?_, fun i hi => h.all i ((ec i).2 hi), h.rise⟩
  obtain ⟨i, hi, hm, hr⟩ := h.part P hP
  exact ⟨i, (ec i).1 hi, fun k => by rw [hm, e], hr⟩

/-! The walk. -/

def closedN : Int := 9223372036854775807

structure Sr where
  op : List Nat
  pa : List Nat
  A : Nat → Int
  L : Nat → Int
  g : Nat → Nat
  ps : List (List Nat)

def updI (f : Nat → Int) (k : Nat) (v : Int) : Nat → Int := fun i => if i = k then v else f i

def updN (f : Nat → Nat) (k : Nat) (v : Nat) : Nat → Nat := fun i => if i = k then v else f i

/-- The node at a place of the open ones. -/
def Sr.Open (s : Sr) (x : Nat) : Prop := ∃ j : Nat, s.op[j]? = some x ∧ s.A x = (j : Int)

/-- p is the path's last node that is not behind y. -/
def Sr.Last (s : Sr) (p y : Nat) : Prop := p ∈ s.pa ∧ s.A p ≤ s.A y ∧ ∀ q, q ∈ s.pa → s.A q ≤ s.A y → s.A q ≤ s.A p

structure SInv (G : List (List Int)) (s : Sr) : Prop where
  big : (G.length : Int) < closedN
  opn : ∀ (j x : Nat), s.op[j]? = some x → x < G.length ∧ s.A x = (j : Int)
  val : ∀ x, x < G.length → s.A x = -1 ∨ s.A x = closedN ∨ s.Open x
  pth : ∀ x, x ∈ s.pa → s.Open x
  ris : s.pa.Pairwise (fun x y => s.A x < s.A y ∧ Wy (Ed G) x y)
  anc : ∀ y, s.Open y → ∃ p, s.Last p y ∧ (p = y ∨ Wy (Ed G) p y)
  low : ∀ y, s.Open y → s.L y ≤ s.A y ∧ ∃ z, s.Open z ∧ s.A z = s.L y ∧ (z = y ∨ Wy (Ed G) y z)
  met : ∀ y, s.Open y → ∀ (j x : Nat) (es : List Int), G[y]? = some es → j < s.g y → es[j]? = some (x : Int) → x < G.length → s.A x ≠ -1
  cov : ∀ y p, s.Open y → s.Last p y → ∀ (j x : Nat) (es : List Int), G[y]? = some es → j < s.g y → es[j]? = some (x : Int) → x < G.length → s.Open x → s.L p ≤ s.A x
  cls : ∀ y x, s.A y = closedN → Ed G y x → s.A x = closedN
  fin : ∀ y, s.Open y → y ∉ s.pa → s.L y < s.A y ∧ ∀ es, G[y]? = some es → s.g y = es.length
  gb : ∀ y es, G[y]? = some es → s.g y ≤ es.length
  unm : ∀ y, y < G.length → s.A y = -1 → s.g y = 0
  prt : ∀ P, P ∈ s.ps → ∃ i, Wy (Ed G) i i ∧ (∀ k, k ∈ P ↔ Wy (Ed G) i k ∧ Wy (Ed G) k i) ∧ P.Pairwise (· < ·) ∧ ∀ k, k ∈ P → s.A k = closedN
  prc : ∀ y, s.A y = closedN → Wy (Ed G) y y → ∃ P, P ∈ s.ps ∧ y ∈ P
  prd : s.ps.Pairwise (fun P Q => ∀ k, k ∈ P → k ∉ Q)

theorem nodup_few : ∀ {n : Nat} {xs : List Nat}, xs.Nodup → (∀ x, x ∈ xs → x < n) → xs.length ≤ n
  | 0, xs, _, h => by cases xs with | nil => simp | cons x _ => exact absurd (h x (by simp)) (by omega)
  | n + 1, xs, hd, h => by
    have := nodup_few (n := n) (xs := xs.erase n) (hd.erase n) (fun x hx => by
      have h1 := h x (List.mem_of_mem_erase hx)
      have h2 : x ≠ n := fun e => by subst e; exact absurd hx (hd.not_mem_erase)
      omega)
    rw [List.length_erase] at this
    split at this <;> omega

theorem SInv.opLen {G : List (List Int)} {s : Sr} (h : SInv G s) : s.op.length ≤ G.length := by
  refine nodup_few (List.pairwise_iff_getElem.2 fun i j hi hj hij e => ?_) fun x hx => ?_
  · have h1 := (h.opn i _ (List.getElem?_eq_getElem hi)).2
    have h2 := (h.opn j _ (List.getElem?_eq_getElem hj)).2
    rw [e] at h1
    omega
  · obtain ⟨i, hi, rfl⟩ := List.mem_iff_getElem.1 hx
    exact (h.opn i _ (List.getElem?_eq_getElem hi)).1

theorem SInv.open_at {G : List (List Int)} {s : Sr} (h : SInv G s) {j x : Nat} (e : s.op[j]? = some x) : s.Open x := ⟨j, e, (h.opn j x e).2⟩

theorem SInv.open_lt {G : List (List Int)} {s : Sr} (h : SInv G s) {x : Nat} (o : s.Open x) : x < G.length ∧ 0 ≤ s.A x ∧ s.A x < s.op.length ∧ s.A x < closedN := by
  obtain ⟨j, h1, h2⟩ := o
  have h3 := (List.getElem?_eq_some_iff.1 h1).1
  have := h.opLen
  have := h.big
  exact ⟨(h.opn j x h1).1, by omega, by omega, by omega⟩

theorem SInv.open_inj {G : List (List Int)} {s : Sr} (_h : SInv G s) {x y : Nat} (o : s.Open x) (o2 : s.Open y) (e : s.A x = s.A y) : x = y := by
  obtain ⟨j, h1, h2⟩ := o
  obtain ⟨k, h3, h4⟩ := o2
  obtain rfl : j = k := by omega
  rw [h1] at h3
  cases h3; rfl


theorem updI_self (f : Nat → Int) (k : Nat) : updI f k (f k) = f := by
  funext i
  unfold updI
  split
  · rename_i e; rw [e]
  · rfl

theorem updI_same (f : Nat → Int) (k : Nat) (v : Int) : updI f k v k = v := by simp [updI]

theorem updI_ne (f : Nat → Int) {k i : Nat} (v : Int) (h : i ≠ k) : updI f k v i = f i := by simp [updI, h]

theorem updN_same (f : Nat → Nat) (k : Nat) (v : Nat) : updN f k v k = v := by simp [updN]

theorem updN_ne (f : Nat → Nat) {k i : Nat} (v : Nat) (h : i ≠ k) : updN f k v i = f i := by simp [updN, h]

theorem SInv.last_self {G : List (List Int)} {s : Sr} (h : SInv G s) {p y : Nat} (hy : y ∈ s.pa) (hl : s.Last p y) : p = y :=
  h.open_inj (h.pth _ hl.1) (h.pth _ hy) (by have := hl.2.2 y hy (Int.le_refl _); have := hl.2.1; omega)

/-- An edge more of a node of the path is gone along. -/
theorem SInv.adv {G : List (List Int)} {s : Sr} (h : SInv G s) {node : Nat} (hn : node ∈ s.pa) {es : List Int} (hes : G[node]? = some es) (hlt : s.g node < es.length) {v : Int} (hv : v ≤ s.L node)
    (hv2 : v = s.L node ∨ ∃ z, s.Open z ∧ s.A z = v ∧ Ed G node z)
    (hto : ∀ x : Nat, es[s.g node]? = some (x : Int) → x < G.length → s.A x ≠ -1 ∧ (s.Open x → v ≤ s.A x)) :
    SInv G { s with g := updN s.g node (s.g node + 1), L := updI s.L node v } := by
  have eL : ∀ p, updI s.L node v p ≤ s.L p := fun p => by
    unfold updI; split
    · rename_i e; rw [e]; exact hv
    · exact Int.le_refl _
  refine ⟨h.big, h.opn, h.val, h.pth, h.ris, h.anc, ?_, ?_, ?_, h.cls, ?_, ?_, ?_, h.prt, h.prc, h.prd⟩
  · intro y hy
    obtain ⟨h1, z, h2, h3, h4⟩ := h.low y hy
    refine ⟨Int.le_trans (eL y) h1, ?_⟩
    by_cases e : y = node
    · subst e
      show ∃ z, s.Open z ∧ s.A z = updI s.L y v y ∧ _
      rw [updI_same]
      rcases hv2 with e | ⟨z, a, b, c⟩
      · exact ⟨z, h2, by rw [h3, e], h4⟩
      · exact ⟨z, a, b, .inr (.one c)⟩
    · exact ⟨z, h2, by show s.A z = updI s.L node v y; rw [updI_ne _ _ e, h3], h4⟩
  · intro y hy j x fs hf hj hx hxn
    have hj : j < updN s.g node (s.g node + 1) y := hj
    by_cases e : y = node
    · subst e
      rw [hes] at hf; cases hf
      rw [updN_same] at hj
      by_cases e2 : j = s.g y
      · subst e2; exact (hto x hx hxn).1
      · exact h.met y hy j x es hes (by omega) hx hxn
    · rw [updN_ne _ _ e] at hj
      exact h.met y hy j x fs hf hj hx hxn
  · intro y p hy hl j x fs hf hj hx hxn hox
    have hj : j < updN s.g node (s.g node + 1) y := hj
    show updI s.L node v p ≤ s.A x
    by_cases e : y = node
    · subst e
      obtain rfl := h.last_self hn hl
      rw [hes] at hf; cases hf
      rw [updN_same] at hj
      rw [updI_same]
      by_cases e2 : j = s.g p
      · subst e2; exact (hto x hx hxn).2 hox
      · exact Int.le_trans hv (h.cov p p hy hl j x es hes (by omega) hx hxn hox)
    · rw [updN_ne _ _ e] at hj
      exact Int.le_trans (eL p) (h.cov y p hy hl j x fs hf hj hx hxn hox)
  · intro y hy hp
    have e : y ≠ node := fun e => hp (e ▸ hn)
    obtain ⟨h1, h2⟩ := h.fin y hy hp
    refine ⟨by show updI s.L node v y < _; rw [updI_ne _ _ e]; exact h1, fun fs hf => by show updN s.g node _ y = _; rw [updN_ne _ _ e]; exact h2 fs hf⟩
  · intro y fs hf
    show updN s.g node (s.g node + 1) y ≤ _
    by_cases e : y = node
    · subst e; rw [updN_same]; rw [hes] at hf; cases hf; exact hlt
    · rw [updN_ne _ _ e]; exact h.gb y fs hf
  · intro y hy ha
    show updN s.g node (s.g node + 1) y = 0
    have e : y ≠ node := fun e => by
      subst e
      have := h.open_lt (h.pth y hn)
      have ha : s.A y = -1 := ha
      omega
    rw [updN_ne _ _ e]
    exact h.unm y hy ha

def Sr.enter (s : Sr) (tn : Nat) : Sr := { s with A := updI s.A tn s.op.length, L := updI s.L tn s.op.length, op := s.op ++ [tn], pa := s.pa ++ [tn] }

theorem enter_open {s : Sr} {tn x : Nat} (hto : s.A tn = -1) (hx : s.Open x) : (s.enter tn).Open x ∧ x ≠ tn := by
  obtain ⟨j, h1, h2⟩ := hx
  have e : x ≠ tn := fun e => by subst e; omega
  exact ⟨⟨j, by show (s.op ++ [tn])[j]? = _; rw [List.getElem?_append_left (List.getElem?_eq_some_iff.1 h1).1, h1], by show updI _ _ _ _ = _; rw [updI_ne _ _ e, h2]⟩, e⟩

theorem enter_open_iff {G : List (List Int)} {s : Sr} (h : SInv G s) {tn : Nat} (hto : s.A tn = -1) (x : Nat) : (s.enter tn).Open x ↔ s.Open x ∨ x = tn := by
  constructor
  · rintro ⟨j, h1, h2⟩
    have h1 : (s.op ++ [tn])[j]? = some x := h1
    by_cases hj : j < s.op.length
    · rw [List.getElem?_append_left hj] at h1
      exact .inl (h.open_at h1)
    · rw [List.getElem?_append_right (by omega)] at h1
      rcases e : j - s.op.length with _ | k
      · rw [e] at h1; simp at h1; exact .inr h1.symm
      · rw [e] at h1; simp at h1
  · rintro (hx | rfl)
    · exact (enter_open hto hx).1
    · exact ⟨s.op.length, by show (s.op ++ [x])[_]? = _; simp, by show updI _ _ _ _ = _; rw [updI_same]⟩

/-- A node is met. -/
theorem SInv.ent {G : List (List Int)} {s : Sr} (h : SInv G s) {tn : Nat} (hto : s.A tn = -1) (hn : tn < G.length) (hp : ∀ p, p ∈ s.pa → Wy (Ed G) p tn) : SInv G (s.enter tn) := by
  have iff := enter_open_iff h hto
  have eA : ∀ x, x ≠ tn → (s.enter tn).A x = s.A x := fun x e => updI_ne _ _ e
  have eL : ∀ x, x ≠ tn → (s.enter tn).L x = s.L x := fun x e => updI_ne _ _ e
  have tA : (s.enter tn).A tn = s.op.length := updI_same _ _ _
  have tL : (s.enter tn).L tn = s.op.length := updI_same _ _ _
  have hb := h.big
  have hol := h.opLen
  have ne : ∀ x, s.Open x → x ≠ tn := fun x hx => (enter_open hto hx).2
  have mem : ∀ x, x ∈ (s.enter tn).pa ↔ x ∈ s.pa ∨ x = tn := fun x => by show x ∈ s.pa ++ [tn] ↔ _; simp
  have last : ∀ p y, s.Open y → (s.enter tn).Last p y → s.Last p y := by
    rintro p y hy ⟨h1, h2, h3⟩
    rw [eA y (ne y hy)] at h2
    have hy' := h.open_lt hy
    have hpa : p ∈ s.pa := by
      rcases (mem p).1 h1 with h1 | rfl
      · exact h1
      · rw [tA] at h2; omega
    have ep := ne p (h.pth p hpa)
    rw [eA p ep] at h2
    refine ⟨hpa, h2, fun q hq hle => ?_⟩
    have eq := ne q (h.pth q hq)
    have := h3 q ((mem q).2 (.inl hq)) (by rw [eA q eq, eA y (ne y hy)]; exact hle)
    rwa [eA q eq, eA p ep] at this
  refine ⟨hb, ?_, ?_, ?_, ?_, ?_, ?_, ?_, ?_, ?_, ?_, h.gb, ?_, ?_, ?_, h.prd⟩
  · intro j x hx
    have ho : (s.enter tn).Open x ∨ True := .inr trivial
    have hx1 : (s.op ++ [tn])[j]? = some x := hx
    by_cases hj : j < s.op.length
    · rw [List.getElem?_append_left hj] at hx1
      have h1 := h.opn j x hx1
      exact ⟨h1.1, by rw [eA x (ne x (h.open_at hx1))]; exact h1.2⟩
    · rw [List.getElem?_append_right (by omega)] at hx1
      rcases e : j - s.op.length with _ | k
      · rw [e] at hx1; simp at hx1; subst hx1
        exact ⟨hn, by rw [tA]; omega⟩
      · rw [e] at hx1; simp at hx1
  · intro x hx
    by_cases e : x = tn
    · exact .inr (.inr ((iff x).2 (.inr e)))
    · rw [eA x e]
      rcases h.val x hx with h1 | h1 | h1
      · exact .inl h1
      · exact .inr (.inl h1)
      · exact .inr (.inr ((iff x).2 (.inl h1)))
  · intro x hx
    rcases (mem x).1 hx with hx | rfl
    · exact (iff x).2 (.inl (h.pth x hx))
    · exact (iff x).2 (.inr rfl)
  · show (s.pa ++ [tn]).Pairwise _
    rw [List.pairwise_append]
    refine ⟨List.Pairwise.imp_of_mem (fun {a b} ha hb hr => ?_) h.ris, by simp, fun a ha b hb => ?_⟩
    · rw [eA a (ne a (h.pth a ha)), eA b (ne b (h.pth b hb))]; exact hr
    · simp at hb; subst hb
      have := h.open_lt (h.pth a ha)
      rw [tA, eA a (ne a (h.pth a ha))]
      exact ⟨by omega, hp a ha⟩
  · intro y hy
    rcases (iff y).1 hy with hyo | rfl
    · clear hy
      have hy := hyo
      obtain ⟨p, ⟨h1, h2, h3⟩, h4⟩ := h.anc y hy
      have ep := ne p (h.pth p h1)
      refine ⟨p, ⟨(mem p).2 (.inl h1), by rw [eA p ep, eA y (ne y hy)]; exact h2, fun q hq hle => ?_⟩, h4⟩
      rw [eA y (ne y hy)] at hle
      rcases (mem q).1 hq with hq | rfl
      · have eq := ne q (h.pth q hq)
        rw [eA q eq] at hle ⊢
        rw [eA p ep]
        exact h3 q hq hle
      · rw [tA] at hle
        have := h.open_lt hyo
        omega
    · refine ⟨y, ⟨(mem y).2 (.inr rfl), Int.le_refl _, fun q _ h => h⟩, .inl rfl⟩
  · intro y hy
    rcases (iff y).1 hy with hy | rfl
    · obtain ⟨h1, z, h2, h3, h4⟩ := h.low y hy
      rw [eL y (ne y hy), eA y (ne y hy)]
      exact ⟨h1, z, (iff z).2 (.inl h2), by rw [eA z (ne z h2)]; exact h3, h4⟩
    · rw [tL, tA]
      exact ⟨Int.le_refl _, y, (iff y).2 (.inr rfl), tA, .inl rfl⟩
  · intro y hy j x es he hj hx hxn
    rcases (iff y).1 hy with hy | rfl
    · by_cases e : x = tn
      · subst e; rw [tA]; omega
      · rw [eA x e]; exact h.met y hy j x es he hj hx hxn
    · have hj : j < s.g y := hj
      rw [h.unm y hn hto] at hj
      omega
  · intro y p hy hl j x es he hj hx hxn ho
    rcases (iff y).1 hy with hyo | rfl
    · clear hy
      have hy := hyo
      have hl2 := last p y hy hl
      have ex : x ≠ tn := fun e => by subst e; exact h.met y hyo j x es he hj hx hxn hto
      rw [eL p (ne p (h.pth p hl2.1)), eA x ex]
      refine h.cov y p hy hl2 j x es he hj hx hxn ?_
      rcases (iff x).1 ho with ho | e
      · exact ho
      · exact absurd e ex
    · have hj : j < s.g y := hj
      rw [h.unm y hn hto] at hj
      omega
  · intro y x hy he
    have e : y ≠ tn := fun e => by subst e; rw [tA] at hy; omega
    rw [eA y e] at hy
    have h2 := h.cls y x hy he
    have e2 : x ≠ tn := fun e => by subst e; rw [hto] at h2; unfold closedN at h2; omega
    rw [eA x e2]; exact h2
  · intro y hy hpa
    rcases (iff y).1 hy with hy | rfl
    · have := h.fin y hy (fun hm => hpa ((mem y).2 (.inl hm)))
      rw [eL y (ne y hy), eA y (ne y hy)]
      exact this
    · exact absurd ((mem y).2 (.inr rfl)) hpa
  · intro y hy ha
    have e : y ≠ tn := fun e => by subst e; rw [tA] at ha; omega
    rw [eA y e] at ha
    exact h.unm y hy ha
  · intro P hP
    obtain ⟨i, h1, h2, h3, h4⟩ := h.prt P hP
    refine ⟨i, h1, h2, h3, fun k hk => ?_⟩
    have := h4 k hk
    have e : k ≠ tn := fun e => by subst e; rw [hto] at this; unfold closedN at this; omega
    rw [eA k e]; exact this
  · intro y hy hw
    have e : y ≠ tn := fun e => by subst e; rw [tA] at hy; omega
    rw [eA y e] at hy
    exact h.prc y hy hw

/-- With nothing gone back to, the path has a node ahead. -/
theorem SInv.above {G : List (List Int)} {s : Sr} (h : SInv G s) {pre : List Nat} {node : Nat} (hp : s.pa = pre ++ [node]) (hL : s.L node ≠ s.A node) : ∃ pre' ab, pre = pre' ++ [ab] := by
  have hn : node ∈ s.pa := by rw [hp]; simp
  obtain ⟨h1, z, h2, h3, _⟩ := h.low node (h.pth node hn)
  obtain ⟨p, ⟨h4, h5, _⟩, _⟩ := h.anc z h2
  have hpn : p ≠ node := fun e => by subst e; omega
  rw [hp] at h4
  simp [hpn] at h4
  rcases List.eq_nil_or_concat pre with rfl | ⟨q, x, rfl⟩
  · simp at h4
  · exact ⟨q, x, by simp⟩

theorem SInv.leave {G : List (List Int)} {s : Sr} (h : SInv G s) {pre : List Nat} {ab node : Nat} (hp : s.pa = pre ++ [ab] ++ [node]) (hL : s.L node ≠ s.A node) (hg : ∀ es, G[node]? = some es → s.g node = es.length) :
    SInv G { s with pa := pre ++ [ab], L := updI s.L ab (min (s.L ab) (s.L node)) } := by
  have hnp : node ∈ s.pa := by rw [hp]; simp
  have hap : ab ∈ s.pa := by rw [hp]; simp
  have hln := h.low node (h.pth node hnp)
  have hlt : s.L node < s.A node := by have := hln.1; omega
  have hris := h.ris
  rw [hp, List.pairwise_append] at hris
  obtain ⟨r1, _, r3⟩ := hris
  have aN : ∀ q, q ∈ pre ++ [ab] → s.A q < s.A node ∧ Wy (Ed G) q node := fun q hq => r3 q hq node (by simp)
  have hab := aN ab (by simp)
  have nin : node ∉ pre ++ [ab] := fun hm => by have := (aN node hm).1; omega
  have mem : ∀ x, x ∈ s.pa ↔ x ∈ pre ++ [ab] ∨ x = node := fun x => by rw [hp]; simp [or_assoc]
  rw [List.pairwise_append] at r1
  have aA : ∀ q, q ∈ pre ++ [ab] → s.A q ≤ s.A ab := fun q hq => by
    rcases List.mem_append.1 hq with hq | hq
    · exact Int.le_of_lt (r1.2.2 q hq ab (by simp)).1
    · simp at hq; subst hq; exact Int.le_refl _
  obtain ⟨s', hs'⟩ : ∃ s', s' = ({ s with pa := pre ++ [ab], L := updI s.L ab (min (s.L ab) (s.L node)) } : Sr) := ⟨_, rfl⟩
  rw [← hs']
  have eo : ∀ x, s'.Open x ↔ s.Open x := fun x => by rw [hs']; exact Iff.rfl
  have eA : s'.A = s.A := by rw [hs']
  have eg : s'.g = s.g := by rw [hs']
  have ep : s'.pa = pre ++ [ab] := by rw [hs']
  have eL : s'.L = updI s.L ab (min (s.L ab) (s.L node)) := by rw [hs']
  -- the path's last node ahead of y, then and now
  have lastTo : ∀ p y, s'.Last p y → (s.A node ≤ s.A y ∧ p = ab ∧ s.Last node y) ∨ (s.Last p y ∧ p ≠ node) := by
    rintro p y ⟨h1, h2, h3⟩
    rw [ep] at h1
    rw [eA] at h2 h3
    rw [ep] at h3
    by_cases hc : s.A node ≤ s.A y
    · refine .inl ⟨hc, ?_, hnp, hc, fun q hq _ => ?_⟩
      · refine h.open_inj (h.pth p ((mem p).2 (.inl h1))) (h.pth ab hap) ?_
        have := h3 ab (by simp) (by omega)
        have := aA p h1
        omega
      · rcases (mem q).1 hq with hq | rfl
        · exact Int.le_of_lt (aN q hq).1
        · exact Int.le_refl _
    · refine .inr ⟨⟨(mem p).2 (.inl h1), h2, fun q hq hle => ?_⟩, fun e => nin (e ▸ h1)⟩
      rcases (mem q).1 hq with hq | rfl
      · exact h3 q hq hle
      · exact absurd hle hc
  have hmin : ∀ p, s'.L p ≤ s.L p := fun p => by
    rw [eL]; unfold updI; split
    · rename_i e; rw [e]; omega
    · exact Int.le_refl _
  refine ⟨h.big, ?_, ?_, ?_, ?_, ?_, ?_, ?_, ?_, ?_, ?_, ?_, ?_, ?_, ?_, ?_⟩
  · rw [hs']; exact h.opn
  · intro x hx; rw [eA, eo]; exact h.val x hx
  · intro x hx; rw [eo]; rw [ep] at hx; exact h.pth x ((mem x).2 (.inl hx))
  · rw [ep, eA, List.pairwise_append]; exact r1
  · intro y hy
    rw [eo] at hy
    obtain ⟨p, ⟨h1, h2, h3⟩, h4⟩ := h.anc y hy
    by_cases hc : p = node
    · subst hc
      refine ⟨ab, ⟨by rw [ep]; simp, by rw [eA]; omega, fun q hq hle => ?_⟩, .inr ?_⟩
      · rw [eA]; rw [ep] at hq; exact aA q hq
      · rcases h4 with rfl | h4
        · exact hab.2
        · exact hab.2.trans h4
    · refine ⟨p, ⟨?_, by rw [eA]; exact h2, fun q hq hle => ?_⟩, h4⟩
      · rw [ep]; rcases (mem p).1 h1 with h1 | h1
        · exact h1
        · exact absurd h1 hc
      · rw [eA] at hle ⊢; rw [ep] at hq; exact h3 q ((mem q).2 (.inl hq)) hle
  · intro y hy
    rw [eo] at hy
    obtain ⟨h1, z, h2, h3, h4⟩ := h.low y hy
    refine ⟨Int.le_trans (hmin y) (by rw [eA]; exact h1), ?_⟩
    by_cases e : y = ab
    · subst e
      rw [eL, updI_same]
      by_cases hc : s.L y ≤ s.L node
      · exact ⟨z, (eo z).2 h2, by rw [eA]; omega, h4⟩
      · obtain ⟨_, z, a, b, c⟩ := hln
        refine ⟨z, (eo z).2 a, by rw [eA]; omega, .inr ?_⟩
        rcases c with rfl | c
        · exact hab.2
        · exact hab.2.trans c
    · exact ⟨z, (eo z).2 h2, by rw [eA, eL, updI_ne _ _ e]; exact h3, h4⟩
  · intro y hy j x es he hj hx hxn
    rw [eo] at hy; rw [eg] at hj; rw [eA]
    exact h.met y hy j x es he hj hx hxn
  · intro y p hy hl j x es he hj hx hxn ho
    rw [eo] at hy ho; rw [eg] at hj; rw [eA]
    rcases lastTo p y hl with ⟨_, rfl, hl⟩ | ⟨hl, _⟩
    · have := h.cov y node hy hl j x es he hj hx hxn ho
      rw [eL, updI_same]
      omega
    · exact Int.le_trans (hmin p) (h.cov y p hy hl j x es he hj hx hxn ho)
  · rw [eA]; exact h.cls
  · intro y hy hpa
    rw [eo] at hy
    rw [ep] at hpa
    have e : y ≠ ab := fun e => hpa (by rw [e]; simp)
    rw [eL, updI_ne _ _ e, eA, eg]
    by_cases e2 : y = node
    · subst e2; exact ⟨hlt, hg⟩
    · exact h.fin y hy (fun hm => by rcases (mem y).1 hm with hm | hm; exact hpa hm; exact e2 hm)
  · rw [eg]; exact h.gb
  · rw [eg, eA]; exact h.unm
  · rw [hs']; exact h.prt
  · rw [hs']; exact h.prc
  · rw [hs']; exact h.prd

/-- What is closed with a node, and what stays open. -/
def Sr.tail (s : Sr) (node : Nat) : List Nat := s.op.drop (s.A node).toNat

def Sr.close (s : Sr) (node : Nat) (pre : List Nat) (ps : List (List Nat)) : Sr :=
  { s with op := s.op.take (s.A node).toNat, A := fun x => if x ∈ s.tail node then closedN else s.A x, pa := pre, ps := ps }

theorem SInv.tail_mem {G : List (List Int)} {s : Sr} (h : SInv G s) {node : Nat} (hn : s.Open node) (x : Nat) : x ∈ s.tail node ↔ s.Open x ∧ s.A node ≤ s.A x := by
  obtain ⟨m, _, hm⟩ := hn
  unfold Sr.tail
  rw [hm, List.mem_iff_getElem?]
  constructor
  · rintro ⟨i, hi⟩
    rw [List.getElem?_drop] at hi
    have := h.opn _ _ hi
    exact ⟨h.open_at hi, by have := this.2; simp at this ⊢; omega⟩
  · rintro ⟨⟨j, h1, h2⟩, h3⟩
    refine ⟨j - m, ?_⟩
    rw [List.getElem?_drop, show (Int.toNat (m : Int)) + (j - m) = j by simp; omega]
    exact h1

structure Tail (G : List (List Int)) (s : Sr) (node : Nat) : Prop where
  self : node ∈ s.tail node
  fro : ∀ x, x ∈ s.tail node → x = node ∨ Wy (Ed G) node x
  stay : ∀ y x, (y ∈ s.tail node ∨ s.A y = closedN) → Wy (Ed G) y x → (x ∈ s.tail node ∨ s.A x = closedN)
  edge : ∀ y x, y ∈ s.tail node → Ed G y x → (x ∈ s.tail node ∨ s.A x = closedN)
  back : ∀ x, x ∈ s.tail node → x = node ∨ Wy (Ed G) x node
  shut : ∀ x, s.A x = closedN → x ∉ s.tail node
  never : ∀ x, s.A x = closedN → ¬ Wy (Ed G) x node

theorem SInv.tail {G : List (List Int)} {s : Sr} (h : SInv G s) {pre : List Nat} {node : Nat} (hp : s.pa = pre ++ [node]) (hL : s.L node = s.A node) (hg : ∀ es, G[node]? = some es → s.g node = es.length) : Tail G s node := by
  have hnp : node ∈ s.pa := by rw [hp]; simp
  have hon := h.pth node hnp
  have mem := h.tail_mem hon
  have hris := h.ris
  rw [hp, List.pairwise_append] at hris
  have aN : ∀ q, q ∈ pre → s.A q < s.A node := fun q hq => (hris.2.2 q hq node (by simp)).1
  have pin : ∀ p, p ∈ s.pa → s.A node ≤ s.A p → p = node := fun p hm hle => by
    rw [hp] at hm
    rcases List.mem_append.1 hm with hm | hm
    · have := aN p hm; omega
    · simpa using hm
  have hlast : ∀ y, s.Open y → s.A node ≤ s.A y → s.Last node y := fun y _ hle => ⟨hnp, hle, fun q hq _ => by
    by_cases hc : s.A node ≤ s.A q
    · rw [pin q hq hc]; exact Int.le_refl _
    · omega⟩
  have shut : ∀ x, s.A x = closedN → x ∉ s.tail node := fun x hx hm => by
    have := h.open_lt ((mem x).1 hm).1
    omega
  have edge : ∀ y x, y ∈ s.tail node → Ed G y x → (x ∈ s.tail node ∨ s.A x = closedN) := by
    intro y x hy he
    obtain ⟨hy1, hy2⟩ := (mem y).1 hy
    obtain ⟨es, e1, e2, e3⟩ := he
    obtain ⟨j, hj⟩ := List.mem_iff_getElem?.1 e2
    have hjl := (List.getElem?_eq_some_iff.1 hj).1
    have hgy : s.g y = es.length := by
      by_cases e : y = node
      · subst e; exact hg es e1
      · exact (h.fin y hy1 (fun hm => e (pin y hm hy2))).2 es e1
    have hmet := h.met y hy1 j x es e1 (by omega) hj e3
    rcases h.val x e3 with hv | hv | hv
    · exact absurd hv hmet
    · exact .inr hv
    · have := h.cov y node hy1 (hlast y hy1 hy2) j x es e1 (by omega) hj e3 hv
      exact .inl ((mem x).2 ⟨hv, by omega⟩)
  have stay : ∀ y x, (y ∈ s.tail node ∨ s.A y = closedN) → Wy (Ed G) y x → (x ∈ s.tail node ∨ s.A x = closedN) := by
    intro y x hy hw
    refine Wy.stay (S := fun x => x ∈ s.tail node ∨ s.A x = closedN) (fun i k hi he => ?_) hw hy
    rcases hi with hi | hi
    · exact edge i k hi he
    · exact .inr (h.cls i k hi he)
  have self : node ∈ s.tail node := (mem node).2 ⟨hon, Int.le_refl _⟩
  have shutW : ∀ x y, s.A x = closedN → Wy (Ed G) x y → s.A y = closedN := fun x y hx hw =>
    Wy.stay (S := fun x => s.A x = closedN) (fun i k hi he => h.cls i k hi he) hw hx
  refine ⟨self, ?_, stay, edge, ?_, shut, fun x hx hw => shut node (shutW x node hx hw) self⟩
  · intro x hx
    obtain ⟨h1, h2⟩ := (mem x).1 hx
    obtain ⟨p, ⟨a, b, c⟩, d⟩ := h.anc x h1
    have : p = node := pin p a (c node hnp h2)
    subst this
    rcases d with d | d
    · exact .inl d.symm
    · exact .inr d
  · have : ∀ (n : Nat) x, s.A x ≤ n → x ∈ s.tail node → x = node ∨ Wy (Ed G) x node := by
      intro n
      induction n with
      | zero =>
        intro x hx hm
        obtain ⟨h1, h2⟩ := (mem x).1 hm
        have := h.open_lt hon
        exact .inl (h.open_inj h1 hon (by simp at hx; omega))
      | succ n ih =>
        intro x hx hm
        obtain ⟨h1, h2⟩ := (mem x).1 hm
        by_cases e : x = node
        · exact .inl e
        · right
          have hf := h.fin x h1 (fun hm => e (pin x hm h2))
          obtain ⟨_, z, a, b, c⟩ := h.low x h1
          have hxz : Wy (Ed G) x z := by
            rcases c with rfl | c
            · omega
            · exact c
          have hz : z ∈ s.tail node := by
            rcases stay x z (.inl hm) hxz with hz | hz
            · exact hz
            · have := h.open_lt a; omega
          rcases ih z (by omega) hz with rfl | hw
          · exact hxz
          · exact hxz.trans hw
    intro x hx
    obtain ⟨h1, _⟩ := (mem x).1 hx
    have h2 := h.open_lt h1
    exact this (s.A x).toNat x (by omega) hx

theorem Tail.part {G : List (List Int)} {s : Sr} {node : Nat} (t : Tail G s node) (hw : Wy (Ed G) node node) (k : Nat) : k ∈ s.tail node ↔ Wy (Ed G) node k ∧ Wy (Ed G) k node := by
  constructor
  · intro hk
    refine ⟨?_, ?_⟩
    · rcases t.fro k hk with rfl | h
      · exact hw
      · exact h
    · rcases t.back k hk with rfl | h
      · exact hw
      · exact h
  · rintro ⟨h1, h2⟩
    rcases t.stay node k (.inl t.self) h1 with h | h
    · exact h
    · exact absurd h2 (t.never k h)

theorem Tail.many {G : List (List Int)} {s : Sr} {node x : Nat} (t : Tail G s node) (hx : x ∈ s.tail node) (hw : x ≠ node ∨ Wy (Ed G) x x) : Wy (Ed G) node node := by
  rcases t.fro x hx with rfl | h
  · rcases hw with h | h
    · exact absurd rfl h
    · exact h
  · rcases t.back x hx with rfl | h2
    · exact h
    · exact h.trans h2

theorem Tail.alone {G : List (List Int)} {s : Sr} {node : Nat} (t : Tail G s node) (h1 : ∀ x, x ∈ s.tail node → x = node) : Wy (Ed G) node node ↔ Ed G node node := by
  constructor
  · intro h
    cases h with
    | one e => exact e
    | more e hw =>
      rename_i j
      rcases t.edge node j t.self e with hj | hj
      · rw [h1 j hj] at e; exact e
      · exact absurd hw (t.never j hj)
  · exact .one

theorem SInv.close {G : List (List Int)} {s : Sr} (h : SInv G s) {pre : List Nat} {node : Nat} {ps : List (List Nat)} (hp : s.pa = pre ++ [node]) (hL : s.L node = s.A node) (hg : ∀ es, G[node]? = some es → s.g node = es.length)
    (hps : (Wy (Ed G) node node ∧ ∃ P : List Nat, ps = s.ps ++ [P] ∧ P.Pairwise (· < ·) ∧ ∀ k, k ∈ P ↔ k ∈ s.tail node) ∨ (¬ Wy (Ed G) node node ∧ ps = s.ps)) :
    SInv G (s.close node pre ps) := by
  have t := h.tail hp hL hg
  have hnp : node ∈ s.pa := by rw [hp]; simp
  have hon := h.pth node hnp
  have tm := h.tail_mem hon
  have hb := h.big
  obtain ⟨hn1, hn2, hn3, hn4⟩ := h.open_lt hon
  have hris := h.ris
  rw [hp, List.pairwise_append] at hris
  have aN : ∀ q, q ∈ pre → s.A q < s.A node := fun q hq => (hris.2.2 q hq node (by simp)).1
  have mem : ∀ x, x ∈ s.pa ↔ x ∈ pre ∨ x = node := fun x => by rw [hp]; simp
  obtain ⟨s', hs'⟩ : ∃ s', s' = s.close node pre ps := ⟨_, rfl⟩
  rw [← hs']
  have eA : ∀ x, s'.A x = if x ∈ s.tail node then closedN else s.A x := fun x => by rw [hs']; rfl
  have eAn : ∀ x, s.A x < s.A node → s'.A x = s.A x := fun x hx => by
    rw [eA, if_neg]
    intro hm
    have := ((tm x).1 hm).2
    omega
  have eAc : ∀ x, s'.A x = closedN ↔ x ∈ s.tail node ∨ s.A x = closedN := fun x => by
    rw [eA]; split
    · rename_i hm; simp [hm]
    · rename_i hm; simp [hm]
  have eop : s'.op = s.op.take (s.A node).toNat := by rw [hs']; rfl
  have ep : s'.pa = pre := by rw [hs']; rfl
  have eL : s'.L = s.L := by rw [hs']; rfl
  have eg : s'.g = s.g := by rw [hs']; rfl
  have eps : s'.ps = ps := by rw [hs']; rfl
  have eo : ∀ x, s'.Open x ↔ s.Open x ∧ s.A x < s.A node := fun x => by
    constructor
    · rintro ⟨j, h1, h2⟩
      rw [eop, List.getElem?_take] at h1
      split at h1
      · have ho := h.opn j x h1
        exact ⟨h.open_at h1, by omega⟩
      · cases h1
    · rintro ⟨⟨j, h1, h2⟩, h3⟩
      refine ⟨j, ?_, by rw [eAn x h3]; exact h2⟩
      rw [eop, List.getElem?_take, if_pos (by omega)]; exact h1
  have lastTo : ∀ p y, s.Open y → s.A y < s.A node → s'.Last p y → s.Last p y := by
    rintro p y _ hy ⟨h1, h2, h3⟩
    rw [ep] at h1 h3
    rw [eAn y hy, eAn p (aN p h1)] at h2
    refine ⟨(mem p).2 (.inl h1), h2, fun q hq hle => ?_⟩
    rcases (mem q).1 hq with hq | rfl
    · have := h3 q hq (by rw [eAn q (aN q hq), eAn y hy]; exact hle)
      rwa [eAn q (aN q hq), eAn p (aN p h1)] at this
    · omega
  have many : ∀ y, y ∈ s.tail node → Wy (Ed G) y y → Wy (Ed G) node node := fun y hy hw => t.many hy (.inr hw)
  refine ⟨hb, ?_, ?_, ?_, ?_, ?_, ?_, ?_, ?_, ?_, ?_, ?_, ?_, ?_, ?_, ?_⟩
  · intro j x hx
    rw [eop, List.getElem?_take] at hx
    split at hx
    · have ho := h.opn j x hx
      exact ⟨ho.1, by rw [eAn x (by omega)]; exact ho.2⟩
    · cases hx
  · intro x hx
    by_cases hc : s'.A x = closedN
    · exact .inr (.inl hc)
    · rw [eAc] at hc
      have hm : x ∉ s.tail node := fun hm => hc (.inl hm)
      have e : s'.A x = s.A x := by rw [eA, if_neg hm]
      rw [e]
      rcases h.val x hx with hv | hv | hv
      · exact .inl hv
      · exact .inr (.inl hv)
      · refine .inr (.inr ((eo x).2 ⟨hv, ?_⟩))
        rw [tm] at hm
        by_cases hlt : s.A x < s.A node
        · exact hlt
        · exact absurd ⟨hv, by omega⟩ hm
  · intro x hx
    rw [ep] at hx
    exact (eo x).2 ⟨h.pth x ((mem x).2 (.inl hx)), aN x hx⟩
  · rw [ep]
    refine List.Pairwise.imp_of_mem (fun {a b} ha hb hr => ?_) hris.1
    rw [eAn a (aN a ha), eAn b (aN b hb)]; exact hr
  · intro y hy
    obtain ⟨hy, hy2⟩ := (eo y).1 hy
    obtain ⟨p, ⟨h1, h2, h3⟩, h4⟩ := h.anc y hy
    have hpp : p ∈ pre := by
      rcases (mem p).1 h1 with h1 | rfl
      · exact h1
      · omega
    refine ⟨p, ⟨by rw [ep]; exact hpp, by rw [eAn p (aN p hpp), eAn y hy2]; exact h2, fun q hq hle => ?_⟩, h4⟩
    rw [ep] at hq
    rw [eAn q (aN q hq), eAn y hy2] at hle
    rw [eAn q (aN q hq), eAn p (aN p hpp)]
    exact h3 q ((mem q).2 (.inl hq)) hle
  · intro y hy
    obtain ⟨hy, hy2⟩ := (eo y).1 hy
    obtain ⟨h1, z, h2, h3, h4⟩ := h.low y hy
    rw [eL, eAn y hy2]
    exact ⟨h1, z, (eo z).2 ⟨h2, by omega⟩, by rw [eAn z (by omega)]; exact h3, h4⟩
  · intro y hy j x es he hj hx hxn
    obtain ⟨hy, hy2⟩ := (eo y).1 hy
    rw [eg] at hj
    have := h.met y hy j x es he hj hx hxn
    rw [eA]; split
    · unfold closedN; omega
    · exact this
  · intro y p hy hl j x es he hj hx hxn ho
    obtain ⟨hy, hy2⟩ := (eo y).1 hy
    obtain ⟨ho, ho2⟩ := (eo x).1 ho
    rw [eg] at hj
    rw [eL, eAn x ho2]
    exact h.cov y p hy (lastTo p y hy hy2 hl) j x es he hj hx hxn ho
  · intro y x hy he
    rw [eAc] at hy ⊢
    exact t.stay y x hy (.one he)
  · intro y hy hpa
    obtain ⟨hy, hy2⟩ := (eo y).1 hy
    rw [ep] at hpa
    rw [eL, eg, eAn y hy2]
    refine h.fin y hy (fun hm => ?_)
    rcases (mem y).1 hm with hm | rfl
    · exact hpa hm
    · omega
  · rw [eg]; exact h.gb
  · intro y hy ha
    rw [eg]
    rw [eA] at ha
    split at ha
    · unfold closedN at ha; omega
    · exact h.unm y hy ha
  · intro P hP
    rw [eps] at hP
    have old : P ∈ s.ps → ∃ i, Wy (Ed G) i i ∧ (∀ k, k ∈ P ↔ Wy (Ed G) i k ∧ Wy (Ed G) k i) ∧ P.Pairwise (· < ·) ∧ ∀ k, k ∈ P → s'.A k = closedN := fun hP => by
      obtain ⟨i, h1, h2, h3, h4⟩ := h.prt P hP
      exact ⟨i, h1, h2, h3, fun k hk => (eAc k).2 (.inr (h4 k hk))⟩
    rcases hps with ⟨hw, Q, rfl, hQ, hQm⟩ | ⟨_, rfl⟩
    · rcases List.mem_append.1 hP with hP | hP
      · exact old hP
      · simp at hP; subst hP
        exact ⟨node, hw, fun k => by rw [hQm]; exact t.part hw k, hQ, fun k hk => (eAc k).2 (.inl ((hQm k).1 hk))⟩
    · exact old hP
  · intro y hy hw
    rw [eps]
    rcases (eAc y).1 hy with hm | hm
    · have hnn := many y hm hw
      rcases hps with ⟨_, Q, rfl, _, hQm⟩ | ⟨hno, _⟩
      · exact ⟨Q, by simp, (hQm y).2 hm⟩
      · exact absurd hnn hno
    · obtain ⟨P, hP, hyP⟩ := h.prc y hm hw
      rcases hps with ⟨_, Q, rfl, _, _⟩ | ⟨_, rfl⟩
      · exact ⟨P, by simp [hP], hyP⟩
      · exact ⟨P, hP, hyP⟩
  · rw [eps]
    rcases hps with ⟨_, Q, rfl, _, hQm⟩ | ⟨_, rfl⟩
    · rw [List.pairwise_append]
      refine ⟨h.prd, by simp, fun P hP Q' hQ' k hk hk2 => ?_⟩
      simp at hQ'; subst hQ'
      obtain ⟨_, _, _, _, h4⟩ := h.prt P hP
      exact t.shut k (h4 k hk) ((hQm k).1 hk2)
    · exact h.prd

/-- At the end. -/
theorem SInv.done {G : List (List Int)} {s : Sr} (h : SInv G s) (hp : s.pa = []) (hm : ∀ x, x < G.length → s.A x ≠ -1) {Ps : List (List Nat)} (hperm : ∀ P, P ∈ Ps ↔ P ∈ s.ps)
    (hr : Ps.Pairwise (fun P Q => ∀ p q, P.head? = some p → Q.head? = some q → p < q)) : IsParts (Ed G) Ps := by
  refine ⟨fun P hP => ?_, fun i hi => ?_, hr⟩
  · obtain ⟨i, h1, h2, h3, _⟩ := h.prt P ((hperm P).1 hP)
    exact ⟨i, h1, h2, h3⟩
  · have hn := (wy_lt hi).1
    have hc : s.A i = closedN := by
      rcases h.val i hn with hv | hv | hv
      · exact absurd hv (hm i hn)
      · exact hv
      · obtain ⟨p, ⟨h1, _⟩, _⟩ := h.anc i hv
        rw [hp] at h1
        simp at h1
    obtain ⟨P, hP, hiP⟩ := h.prc i hc hi
    exact ⟨P, (hperm P).2 hP, hiP⟩

def Sr.start : Sr := ⟨[], [], fun _ => -1, fun _ => 0, fun _ => 0, []⟩

theorem SInv.start {G : List (List Int)} (h : (G.length : Int) < closedN) : SInv G Sr.start := by
  have no : ∀ x, ¬ Sr.start.Open x := fun x ⟨j, hj, _⟩ => by simp [Sr.start] at hj
  refine ⟨h, fun j x hj => by simp [Sr.start] at hj, fun x _ => .inl rfl, fun x hx => by simp [Sr.start] at hx, by simp [Sr.start], fun y hy => absurd hy (no y), fun y hy => absurd hy (no y), fun y hy => absurd hy (no y), fun y _ hy => absurd hy (no y),
    fun y x hy => ?_, fun y hy => absurd hy (no y), fun y es _ => Nat.zero_le _, fun y _ _ => rfl, fun P hP => by simp [Sr.start] at hP, fun y hy => ?_, by simp [Sr.start]⟩
  · have : (-1 : Int) = closedN := hy
    unfold closedN at this; omega
  · have : (-1 : Int) = closedN := hy
    unfold closedN at this; omega

theorem SInv.opDup {G : List (List Int)} {s : Sr} (h : SInv G s) : s.op.Nodup := List.pairwise_iff_getElem.2 fun i j hi hj hij e => by
  have h1 := (h.opn i _ (List.getElem?_eq_getElem hi)).2
  have h2 := (h.opn j _ (List.getElem?_eq_getElem hj)).2
  rw [e] at h1
  omega

theorem SInv.paLen {G : List (List Int)} {s : Sr} (h : SInv G s) : s.pa.length ≤ G.length :=
  nodup_few (h.ris.imp fun {a b} hab e => by have := hab.1; rw [e] at this; omega) fun x hx => (h.open_lt (h.pth x hx)).1

theorem SInv.psLen {G : List (List Int)} {s : Sr} (h : SInv G s) : s.ps.length ≤ G.length := by
  have hm : ∀ P, P ∈ s.ps → P.head?.getD 0 ∈ P := fun P hP => by
    obtain ⟨i, hi, hk, _⟩ := h.prt P hP
    cases P with
    | nil => exact absurd ((hk i).2 ⟨hi, hi⟩) (by simp)
    | cons p ps => simp
  have := nodup_few (n := G.length) (xs := s.ps.map fun P => P.head?.getD 0) (by
    rw [List.Nodup, List.pairwise_map]
    exact List.Pairwise.imp_of_mem (fun {P Q} hP hQ hr e => hr _ (hm P hP) (by rw [e]; exact hm Q hQ)) h.prd) (fun x hx => by
    obtain ⟨P, hP, rfl⟩ := List.mem_map.1 hx
    obtain ⟨i, _, hk, _⟩ := h.prt P hP
    exact (wy_lt ((hk _).1 (hm P hP)).1).2)
  rwa [List.length_map] at this

end Go.Proofs.Ytmokokhhheonoaa

/- What hasName, CheckSig and Check answer. -/
namespace Go.Proofs.Ytmokokhhheonoaa
open Go.RowKit Go.Maps Go.BigFrame

theorem hid {p : Prop} (h : p) : Hid p := h

end Go.Proofs.Ytmokokhhheonoaa

/- What Vars, and the law file's same, answer. -/
namespace Go.Proofs.Ytmokokhhheonoaa
open Go.RowKit Go.Maps

theorem Is.range {w : World} {v : Value} {xs : List Int} (h : Is w v xs) : ZI xs := fun k x hk => by
  obtain ⟨ao, cap, rfl, _, _, hx⟩ := Row.flat h
  obtain ⟨_, _, y, _, hy, h1, h2, _⟩ := hx k (List.getElem?_eq_some_iff.1 hk).1
  rw [hk] at hy
  cases hy
  exact ⟨h1, h2⟩

end Go.Proofs.Ytmokokhhheonoaa

/- What Shift answers. -/
namespace Go.Proofs.Ytmokokhhheonoaa
open Go.RowKit Go.Maps

theorem set_grown (w : World) (g k : Nat) (u : Value) : w.grownBy (w.setCell ⟨g, k, none⟩ u) (some g) :=
  ⟨rfl, rfl, rfl, by simp [World.setCell], fun j _ hne => heap_setCell_other _ _ _ _ (fun e => hne (by rw [e]))⟩

end Go.Proofs.Ytmokokhhheonoaa

/- What Check answers, of a row and of binds. -/
namespace Go.Proofs.Ytmokokhhheonoaa
open Go.RowKit Go.Maps Go.BigFrame

/-- A bind: a variable's number, and a row. -/
abbrev Bd := Int × List Int

/-- The number of the bind ahead of a place. -/
def ahead (s : List Bd) : Nat → Option Int
  | 0 => none
  | k + 1 => (s[k]?).map (·.1)

end Go.Proofs.Ytmokokhhheonoaa

/- A map from numbers to values in memory; a row joined to one's own. -/
namespace Go.Proofs.Ytmokokhhheonoaa
open Go.RowKit Go.Maps

theorem join_ints (ty : TypeId) {w : World} {base : Nat} {x u : Value} {xs es : List Int} (ho : OwI w base x xs) (hs : Is w u es) (hb : base ≤ w.heap.size) (hl : (xs.length + es.length) * 8 ≤ 140737488355328) :
    ∃ v' w', (Builtin.append_ #[26, 26] ty #[x, u]).run Try.prog w = .ok v' w' ∧ OwI w' base v' (xs ++ es) ∧ w.grownBy w' x.ownBlock := by
  obtain ⟨i0, hi, hz0, hz1, hz2⟩ := info_parts info_int
  have hZ : ZI es := fun k x hk => by
    obtain ⟨ao, cap, rfl, _, _, hx⟩ := Row.flat hs
    obtain ⟨_, _, y, _, hy, h1, h2, _⟩ := hx k (List.getElem?_eq_some_iff.1 hk).1
    rw [hk] at hy
    cases hy
    exact ⟨h1, h2⟩
  have hZ2 : ZI (xs ++ es) := fun k y hk => by
    by_cases hkl : k < xs.length
    · rw [List.getElem?_append_left hkl] at hk
      exact ho.1 k y hk
    · rw [List.getElem?_append_right (by omega)] at hk
      exact hZ _ y hk
  obtain ⟨ao, cap, rfl, hc, hm, hx⟩ := hs
  by_cases h0 : es.length = 0
  · obtain rfl : es = [] := List.eq_nil_of_length_eq_zero h0
    obtain ⟨bo, bc, rfl, hbc, _⟩ := ho.shape
    refine ⟨_, w, run_append_nothing w 26 26 ty 3 i0 under_ints hi _ xs.length bc hbc _ ?_, by rw [List.append_nil]; exact ho, World.grownBy.refl _ _⟩
    cases ao with
    | none => exact Src.ofNil w under_ints _
    | some a => exact Src.ofSlice w under_ints a 0 _ [] (by simp) (fun j u hj => (by simp at hj)) (fun u hu => (by simp at hu))
  · obtain ⟨g', off, rfl, hg, hcell⟩ := hx (by omega)
    obtain ⟨v', w', hr, h2, h3, _, _⟩ := run_append_own_at (P := Try.prog) w base 26 ty 3 i0 _ 1 8 under_ints hi hz0 hz1 hz2 rfl (by decide) _ xs.length (xs.map I64) ho.2 ⟨g', off, none⟩ es.length cap (es.map I64) (by simp) (fun j u hj => by
      rw [List.getElem?_map] at hj
      cases hk : es[j]? with
      | none => rw [hk] at hj; simp at hj
      | some x =>
        rw [hk] at hj
        simp at hj
        subst hj
        rw [Addr.add_lit]
        have := (hcell j x hk).2.2
        rw [Nat.mul_one] at this
        exact this) (fun u hu => by obtain ⟨x, _, rfl⟩ := List.mem_map.1 hu; rfl) (by unfold maxLen; omega) (by omega) hb
    refine ⟨v', w', hr, ⟨hZ2, ?_⟩, h3⟩
    rw [List.length_append, List.map_append]
    exact h2

end Go.Proofs.Ytmokokhhheonoaa

/- What lay and Apply answer. -/
namespace Go.Proofs.Ytmokokhhheonoaa
open Go.RowKit Go.Maps

section
variable {P : Program} {w w' : World} {ops : Array Oper} {rest : List Oper} {o : Oper} {a : Act} {Q : Exit → Act → World → Prop}

theorem wpList_append_run (hg : o.guard = none) (s x : Operand) (t : TypeId) (ho : o.op = .call { callee := .builtin .append, args := #[s, x], argTypes := #[t, t] }) (v u : Value) {v' : Value} (hs : a.eval s = v) (hx : a.eval x = u)
    (hr : (Builtin.append_ #[t, t] o.type #[v, u]).run P w = .ok v' w') (h : wpList P ops Q rest (a.put o.dst v') w') : wpList P ops Q (o :: rest) a w := by
  refine wpList_plain hg fun K' hK' => ?_
  unfold Oper.wp
  simp [execOp, ho, resolve, invoke, builtin, hs, hx, hr, Result.andThen]
  exact hK' _ _ h

end

end Go.Proofs.Ytmokokhhheonoaa
