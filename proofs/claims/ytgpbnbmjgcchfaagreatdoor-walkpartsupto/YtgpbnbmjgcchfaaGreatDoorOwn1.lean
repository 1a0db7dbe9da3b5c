/- Texts of the proof, one behind the other. -/
import Derived.Test.YtgpbnbmjgcchfaaGreatDoorProg
import Derived.WalkKit
import Derived.WalkSpells
import Derived.WalkLawsBesides
import Derived.Deep.QuietTactic
import Derived.BigQuiet
import Derived.Laws.CopyOwn
import Derived.Laws.IdiomCopy
import Derived.Deep.RegionHeldLaw
import Derived.Maps.AppendAt
import Derived.Maps.Own
import Derived.Maps.OwnOps
import Derived.Maps.OwnSet
import Derived.Deep.Upon
import Derived.Deep.Quiet
import Derived.WalkSmall
import Derived.Laws.RangeString
import Derived.Laws.RangeAny
/- Rows of numbers in memory, as they are read and as a call owns them: for the seats of terms. -/
namespace Go.Proofs.YtgpbnbmjgcchfaaGreatDoor
open Go.RowKit Go.Maps

/-- Every cell that could be read reads as it did. -/
structure Kp (w w' : World) : Prop where
  size : w.heap.size ≤ w'.heap.size
  cell : ∀ (a : Addr) (v : Value), w.cell? a = some v → w'.cell? a = some v

theorem Kp.refl (w : World) : Kp w w := ⟨Nat.le_refl _, fun _ _ h => h⟩

theorem Kp.trans {a b c : World} (h : Kp a b) (k : Kp b c) : Kp a c := ⟨Nat.le_trans h.size k.size, fun x v hx => k.cell x v (h.cell x v hx)⟩

theorem Kp.of_below {w w' : World} (h : Below w.heap.size w w') : Kp w w' :=
  ⟨h.size, fun a _ hv => (h.cell (World.block_lt_of_cell? w a hv)).trans hv⟩

theorem Kp.drewN (w : World) (n : Nat) : Kp w (w.drewN n) := ⟨Nat.le_refl _, fun _ _ h => h⟩

/-- A slice that is read, element by element: E says what stands at an address. -/
def Row {α : Type} (E : World → Nat → Nat → α → Prop) (sz : Nat) (w : World) (v : Value) (xs : List α) : Prop :=
  ∃ ao cap, v = .slice ao xs.length cap ∧ xs.length ≤ cap ∧ cap ≤ maxLen ∧
    (0 < xs.length → ∃ g off, ao = some ⟨g, off, none⟩ ∧ g < w.heap.size ∧ ∀ (k : Nat) (x : α), xs[k]? = some x → E w g (off + k * sz) x)

theorem Row.imp {α : Type} {E : World → Nat → Nat → α → Prop} {sz : Nat} {w w' : World} {v : Value} {xs : List α} (h : Row E sz w v xs) (hs : w.heap.size ≤ w'.heap.size) (hE : ∀ g o x, E w g o x → E w' g o x) : Row E sz w' v xs := by
  obtain ⟨ao, cap, rfl, hc, hm, hx⟩ := h
  refine ⟨ao, cap, rfl, hc, hm, fun h0 => ?_⟩
  obtain ⟨g, off, rfl, hg, hx⟩ := hx h0
  exact ⟨g, off, rfl, Nat.lt_of_lt_of_le hg hs, fun k x he => hE _ _ _ (hx k x he)⟩

theorem Row.flat {α : Type} {E : World → Nat → Nat → α → Prop} {sz : Nat} {w : World} {v : Value} {xs : List α} (h : Row E sz w v xs) : ∃ ao cap, v = .slice ao xs.length cap ∧ xs.length ≤ cap ∧ cap ≤ maxLen ∧
    ∀ k : Nat, k < xs.length → ∃ g off x, ao = some ⟨g, off, none⟩ ∧ xs[k]? = some x ∧ E w g (off + k * sz) x := by
  obtain ⟨ao, cap, rfl, hc, hm, hx⟩ := h
  refine ⟨ao, cap, rfl, hc, hm, fun k hk => ?_⟩
  obtain ⟨g, off, rfl, hg, hx⟩ := hx (by omega)
  exact ⟨g, off, xs[k], rfl, List.getElem?_eq_getElem hk, hx k _ (List.getElem?_eq_getElem hk)⟩

/-- A number at an address. -/
def EI (w : World) (g o : Nat) (x : Int) : Prop := -9223372036854775808 ≤ x ∧ x ≤ 9223372036854775807 ∧ w.cell? ⟨g, o, none⟩ = some (.int .i64 x)

theorem EI.kp {w w' : World} (hk : Kp w w') (g o : Nat) (x : Int) (h : EI w g o x) : EI w' g o x := ⟨h.1, h.2.1, hk.cell _ _ h.2.2⟩

/-- A row of numbers. -/
def Is (w : World) (v : Value) (xs : List Int) : Prop := Row EI 1 w v xs

theorem Is.kp {w w' : World} {v : Value} {xs : List Int} (h : Is w v xs) (hk : Kp w w') : Is w' v xs := Row.imp h hk.size (EI.kp hk)

theorem below_alloc {w : World} (o : Obj) : Below w.heap.size w (w.alloc o) := (Below.refl _ _).alloc (Nat.le_refl _) o

theorem below_step {a b c : World} (h : Below a.heap.size a b) (k : Below b.heap.size b c) : Below a.heap.size a c := h.trans (k.mono h.size)

theorem Row.len {α : Type} {E : World → Nat → Nat → α → Prop} {sz : Nat} {w : World} {ao : Option Addr} {n cap : Nat} {xs : List α} (h : Row E sz w (.slice ao n cap) xs) : n = xs.length := by
  obtain ⟨ao', cap', hv, _⟩ := h
  simp only [Value.slice.injEq] at hv
  exact hv.2.1

theorem Row.nil {α : Type} {E : World → Nat → Nat → α → Prop} {sz : Nat} {w : World} {ao : Option Addr} {cap : Nat} (hc : cap ≤ maxLen) : Row E sz w (.slice ao 0 cap) ([] : List α) :=
  ⟨ao, cap, rfl, Nat.zero_le _, hc, fun h => absurd h (by simp)⟩

theorem Is.at {w : World} {ao : Option Addr} {n cap : Nat} {es : List Int} (h : Is w (.slice ao n cap) es) {k : Nat} (hk : k < es.length) :
    ∃ g off x, ao = some ⟨g, off, none⟩ ∧ es[k]? = some x ∧ w.cell? ⟨g, off + k, none⟩ = some (.int .i64 x) ∧ -9223372036854775808 ≤ x ∧ x ≤ 9223372036854775807 := by
  obtain ⟨ao', cap', hv, _, _, hx⟩ := Row.flat h
  simp only [Value.slice.injEq] at hv
  obtain ⟨rfl, rfl, rfl⟩ := hv
  obtain ⟨g, off, x, rfl, hm, h1, h2, h3⟩ := hx k hk
  rw [Nat.mul_one] at h3
  exact ⟨g, off, x, rfl, hm, h3, h1, h2⟩

theorem drop_get {α : Type} {xs : List α} {k : Nat} {x : α} (h : xs[k]? = some x) : xs.drop k = x :: xs.drop (k + 1) := by
  have hk := (List.getElem?_eq_some_iff.1 h)
  obtain ⟨hk, rfl⟩ := hk
  exact List.drop_eq_getElem_cons hk

theorem take_get {α : Type} {xs : List α} {k : Nat} {x : α} (h : xs[k]? = some x) : xs.take (k + 1) = xs.take k ++ [x] := by
  rw [List.take_add_one, h]; rfl

def I64 (x : Int) : Value := .int .i64 x

def ZI (xs : List Int) : Prop := ∀ (k : Nat) (x : Int), xs[k]? = some x → -9223372036854775808 ≤ x ∧ x ≤ 9223372036854775807

/-- The slice value v is the call's own (blocks from base on), at the head of its row, and holds the numbers xs. -/
def OwI (w : World) (base : Nat) (v : Value) (xs : List Int) : Prop := ZI xs ∧ w.ownsRow base 3 1 v xs.length (xs.map I64)

theorem OwI.is {w : World} {base : Nat} {v : Value} {xs : List Int} (h : OwI w base v xs) : Is w v xs := by
  have h2 := h.2
  rcases h2.2 with ⟨rfl, hn⟩ | ⟨g, cap, cur, rfl, hb, hg, hc, hm, hs, ht⟩
  · exact ⟨none, 0, by rw [hn], by omega, by simp [maxLen], by omega⟩
  · refine ⟨_, cap, rfl, hc, hm, fun _ => ⟨g, 0, rfl, (Array.getElem?_eq_some_iff.1 hg).1, ?_⟩⟩
    intro k x hk
    have hlt : k < xs.length := (List.getElem?_eq_some_iff.1 hk).1
    refine ⟨(h.1 k x hk).1, (h.1 k x hk).2, ?_⟩
    rw [Nat.zero_add, Nat.mul_one, World.ownsRow.cellAt h2 k (by omega)]
    simp [hk, I64]

theorem OwI.kept {w w' : World} {base : Nat} {v : Value} {xs : List Int} {row : Option Nat} (h : OwI w base v xs) (hg : w.grownBy w' row) (hr : v.ownBlock = none ∨ v.ownBlock ≠ row) : OwI w' base v xs := by
  refine ⟨h.1, h.2.1, ?_⟩
  rcases h.2.2 with h | ⟨g, cap, cur, rfl, hb, hgg, r⟩
  · exact .inl h
  · refine .inr ⟨g, cap, cur, rfl, hb, (hg.block g (Array.getElem?_eq_some_iff.1 hgg).1 ?_).trans hgg, r⟩
    rcases hr with hr | hr
    · cases hr
    · exact hr

theorem OwI.later {w w' : World} {base : Nat} {v : Value} {xs : List Int} (h : OwI w base v xs) (hb : Below w.heap.size w w') : OwI w' base v xs :=
  h.kept (row := none) ⟨hb.os, hb.tape, hb.output, hb.size, fun k hk _ => hb.block k hk⟩ (by cases hv : v.ownBlock <;> simp)

theorem OwI.mono {w : World} {base b' : Nat} {v : Value} {xs : List Int} (h : OwI w base v xs) (hb : b' ≤ base) : OwI w b' v xs := by
  refine ⟨h.1, h.2.1, ?_⟩
  rcases h.2.2 with h | ⟨g, cap, cur, rfl, hg, r⟩
  · exact .inl h
  · exact .inr ⟨g, cap, cur, rfl, Nat.le_trans hb hg, r⟩

theorem made_zero64 (n : Nat) : (madeCells (Value.int .i64 0).cells (n * 1)).toList = (List.replicate n (0 : Int)).map I64 := by
  have : (Value.int .i64 0).cells = #[Value.int .i64 0] := rfl
  rw [this, toList_madeCells_one]
  simp [I64]

theorem OwI.made {w : World} {base n : Nat} {v : Value} (h : w.ownsRow base 3 1 v n (madeCells (Value.int .i64 0).cells (n * 1)).toList) : OwI w base v (List.replicate n 0) := by
  rw [made_zero64] at h
  refine ⟨?_, by simpa using h⟩
  intro k x hk
  rw [List.getElem?_replicate] at hk
  split at hk
  · cases hk; omega
  · cases hk

theorem OwI.at {w : World} {base g n cap : Nat} {xs : List Int} (h : OwI w base (.slice (some ⟨g, 0, none⟩) n cap) xs) {k : Nat} {x : Int} (hk : xs[k]? = some x) :
    w.cell? ⟨g, k, none⟩ = some (.int .i64 x) ∧ w.frozen? ⟨g, k, none⟩ = false := by
  have h2 := h.2
  rcases h2.2 with ⟨hv, hn⟩ | ⟨g', cap', cur, hv, hb, hg, hc, hm, hs, ht⟩
  · cases hv
  · simp only [Value.slice.injEq, Option.some.injEq, Addr.mk.injEq, and_true] at hv
    obtain ⟨rfl, rfl, rfl⟩ := hv
    have hlt : k < xs.length := (List.getElem?_eq_some_iff.1 hk).1
    have h3 := h2
    refine ⟨?_, World.ownsRow.frozenAt h3 k⟩
    rw [World.ownsRow.cellAt h3 k (by omega)]
    simp [hk, I64]

theorem OwI.put {w w0 : World} {base g n cap B : Nat} {xs : List Int} (h : OwI w base (.slice (some ⟨g, 0, none⟩) n cap) xs) (hb : Below B w0 w) (hB : B ≤ g) (hn : n = xs.length) {k : Nat} {z : Int} (hz : -9223372036854775808 ≤ z ∧ z ≤ 9223372036854775807) {ys : List Int} (hys : xs.set k z = ys) :
    OwI (w.setCell ⟨g, k, none⟩ (.int .i64 z)) base (.slice (some ⟨g, 0, none⟩) n cap) ys ∧ Below B w0 (w.setCell ⟨g, k, none⟩ (.int .i64 z)) := by
  subst hys
  subst hn
  have hs := World.ownsRow.stored h.2 k (.int .i64 z)
  refine ⟨⟨?_, ?_⟩, hb.setCell (p := ⟨g, k, none⟩) hB _⟩
  · intro j y hy
    rw [List.getElem?_set] at hy
    split at hy
    · split at hy
      · cases hy; exact hz
      · cases hy
    · exact h.1 j y hy
  · have h1 := hs.1
    rw [List.length_set, List.map_set]
    exact h1

theorem OwI.shape {w : World} {base : Nat} {v : Value} {xs : List Int} (h : OwI w base v xs) : ∃ ao cap, v = .slice ao xs.length cap ∧ xs.length ≤ cap ∧ cap ≤ maxLen := by
  rcases h.2.2 with ⟨rfl, hn⟩ | ⟨g, cap, cur, rfl, hb, hg, hc, hm, hs, ht⟩
  · exact ⟨none, 0, by rw [hn], by omega, by simp [maxLen]⟩
  · exact ⟨_, cap, rfl, hc, hm⟩

theorem info_int : (Tryz.prog.info? 3).map (fun i => (i.zero, i.size, i.bytes)) = some (some (.int .i64 0), 1, 8) := by kernel_rfl

theorem under_ints : Tryz.prog.underlying 26 = some (.slice 3) := by kernel_rfl

theorem step_append_own {P : Program} {ops : Array Oper} {o : Oper} {a : Act} {w : World} {K : Act → World → Prop} {Q : Exit → Act → World → Prop} {E : Prop} (hgd : o.guard = none) (s x : Operand) (t : TypeId)
    (ho : o.op = .call { callee := .builtin .append, args := #[s, x], argTypes := #[t, t] })
    (base : Nat) (e : TypeId) (i : TypeInfo) (z : Value) (size bytes : Nat) (ht : P.underlying t = some (.slice e)) (hi : P.info? e = some i) (hz : i.zero = some z)
    (hsize : i.size = size) (hby : i.bytes = bytes) (hzs : z.cells.size = size) (hsz : 0 < size)
    (v : Value) (n : Nat) (xs : List Value) (hs : a.eval s = v) (hown : w.ownsRow base e size v n xs)
    (ad : Addr) (m c : Nat) (news : List Value) (hx : a.eval x = .slice (some ad) m c) (hl : news.length = m * size) (hnews : ∀ j u, news[j]? = some u → w.cell? (ad.add j) = some u) (h1 : ∀ u ∈ news, u.oneCell' = true)
    (h63 : n + m ≤ maxLen) (hbytes : (n + m) * bytes ≤ 140737488355328) (hbase : base ≤ w.heap.size)
    (hK : ∀ v' w', w'.ownsRow base e size v' (n + m) (xs ++ news) → w.grownBy w' v.ownBlock → (v'.ownBlock = v.ownBlock ∨ v'.ownBlock = some w.heap.size) → K (a.put o.dst v') w') :
    if Region.wanted o (yielded ops a.tmps) = true then Oper.wp P o a w K Q else E := by
  have hw : Region.wanted o (yielded ops a.tmps) = true := by simp [Region.wanted, hgd]
  rw [if_pos hw]
  obtain ⟨v', w', hr, h2, h3, h4, h5⟩ := run_append_own_at (P := P) w base t o.type e i z size bytes ht hi hz hsize hby hzs hsz v n xs hown ad m c news hl hnews h1 h63 hbytes hbase
  unfold Oper.wp execOp
  simp only [ho, resolve, invoke, builtin, Sem.run_bind, Sem.run_pure, Result.andThen_ok, List.map_toArray, List.map_cons, List.map_nil, hs, hx, hr]
  exact hK v' w' h2 h3 h5

theorem ownsRow_later {w w' : World} {base : Nat} {e : TypeId} {size : Nat} {v : Value} {n : Nat} {xs : List Value} (h : w.ownsRow base e size v n xs) (hb : Below w.heap.size w w') : w'.ownsRow base e size v n xs :=
  h.kept (row := none) ⟨hb.os, hb.tape, hb.output, hb.size, fun k hk _ => hb.block k hk⟩ (by cases hv : v.ownBlock <;> simp)

/-- Rows of other elements lie in other blocks. -/
theorem ownsRow_apart {w : World} {b1 b2 : Nat} {e1 e2 : TypeId} {s1 s2 : Nat} {v u : Value} {n m : Nat} {xs ys : List Value} (h : w.ownsRow b1 e1 s1 v n xs) (k : w.ownsRow b2 e2 s2 u m ys) (hne : e1 ≠ e2) : v.ownBlock = none ∨ v.ownBlock ≠ u.ownBlock := by
  rcases h.2 with ⟨rfl, _⟩ | ⟨g, cap, cur, rfl, _, hg, _⟩
  · exact .inl rfl
  · refine .inr ?_
    rcases k.2 with ⟨rfl, _⟩ | ⟨g', cap', cur', rfl, _, hg', _⟩
    · simp [Value.ownBlock]
    · simp only [Value.ownBlock]
      intro e
      cases e
      rw [hg] at hg'
      simp only [Option.some.injEq, Obj.cells.injEq] at hg'
      exact hne hg'.2.1

theorem step_append_run {P : Program} {ops : Array Oper} {o : Oper} {a : Act} {w w' : World} {v' : Value} {K : Act → World → Prop} {Q : Exit → Act → World → Prop} {E : Prop} (hgd : o.guard = none) (s x : Operand) (t : TypeId)
    (ho : o.op = .call { callee := .builtin .append, args := #[s, x], argTypes := #[t, t] }) (v u : Value) (hs : a.eval s = v) (hx : a.eval x = u)
    (hr : (Builtin.append_ #[t, t] o.type #[v, u]).run P w = .ok v' w') (hK : K (a.put o.dst v') w') :
    if Region.wanted o (yielded ops a.tmps) = true then Oper.wp P o a w K Q else E := by
  have hw : Region.wanted o (yielded ops a.tmps) = true := by simp [Region.wanted, hgd]
  rw [if_pos hw]
  unfold Oper.wp execOp
  simp only [ho, resolve, invoke, builtin, Sem.run_bind, Sem.run_pure, Result.andThen_ok, List.map_toArray, List.map_cons, List.map_nil, hs, hx, hr]
  exact hK

theorem copy_ints (ty : TypeId) {w : World} {base g : Nat} {u : Value} {es : List Int} (ho : w.ownsRow base 3 1 (.slice (some ⟨g, 0, none⟩) 0 0) 0 []) (hs : Is w u es) (hb : base ≤ w.heap.size) (hl : es.length * 8 ≤ 140737488355328) :
    ∃ v' w', (Builtin.append_ #[26, 26] ty #[.slice (some ⟨g, 0, none⟩) 0 0, u]).run Tryz.prog w = .ok v' w' ∧ OwI w' base v' es ∧ w.grownBy w' (some g) := by
  obtain ⟨i0, hi, hz0, hz1, hz2⟩ := info_parts info_int
  have hZ : ZI es := fun k x hk => by
    obtain ⟨ao, cap, rfl, _, _, hx⟩ := Row.flat hs
    obtain ⟨_, _, y, _, hy, h1, h2, _⟩ := hx k (List.getElem?_eq_some_iff.1 hk).1
    rw [hk] at hy
    cases hy
    exact ⟨h1, h2⟩
  obtain ⟨ao, cap, rfl, hc, hm, hx⟩ := hs
  by_cases h0 : es.length = 0
  · obtain rfl : es = [] := List.eq_nil_of_length_eq_zero h0
    refine ⟨_, w, run_append_nothing w 26 26 ty 3 i0 under_ints hi _ 0 0 (Nat.le_refl _) _ ?_, ⟨hZ, ho⟩, World.grownBy.refl _ _⟩
    cases ao with
    | none => exact Src.ofNil w under_ints _
    | some a => exact Src.ofSlice w under_ints a 0 _ [] (by simp) (fun j u hj => (by simp at hj)) (fun u hu => (by simp at hu))
  · obtain ⟨g', off, rfl, hg, hcell⟩ := hx (by omega)
    obtain ⟨v', w', hr, h2, h3, _, _⟩ := run_append_own_at (P := Tryz.prog) w base 26 ty 3 i0 _ 1 8 under_ints hi hz0 hz1 hz2 rfl (by decide) _ 0 [] ho ⟨g', off, none⟩ es.length cap (es.map I64) (by simp) (fun j u hj => by
      rw [List.getElem?_map] at hj
      cases hk : es[j]? with
      | none => rw [hk] at hj; simp at hj
      | some x =>
        rw [hk] at hj
        simp at hj
        subst hj
        rw [Addr.add_lit]
        have := (hcell j x hk).2.2
        rw [Nat.mul_one] at this
        exact this) (fun u hu => by obtain ⟨x, _, rfl⟩ := List.mem_map.1 hu; rfl) (by unfold maxLen at hm ⊢; omega) (by omega) hb
    refine ⟨v', w', hr, ⟨hZ, ?_⟩, h3⟩
    rw [Nat.zero_add, List.nil_append] at h2
    exact h2

/-- A row without elements, just laid. -/
theorem empty_row {w : World} {base : Nat} (t : TypeId) (hb : base ≤ w.heap.size) : (w.alloc (.cells #[] t)).ownsRow base t 1 (.slice (some ⟨w.heap.size, 0, none⟩) 0 0) 0 [] := by
  refine ⟨rfl, .inr ⟨w.heap.size, 0, #[], rfl, hb, heap_alloc_new _ _, Nat.le_refl _, Nat.zero_le _, rfl, rfl⟩⟩

theorem grown_below {w0 w w' : World} {g : Nat} (hB : Below w0.heap.size w0 w) (hg : w.grownBy w' (some g)) (h : w0.heap.size ≤ g) : Below w0.heap.size w0 w' := hB.grown hg hB.size (fun k hk => by cases hk; exact h)

theorem own_ge {w : World} {base : Nat} {e : TypeId} {s g n c m : Nat} {xs : List Value} (h : w.ownsRow base e s (.slice (some ⟨g, 0, none⟩) n c) m xs) : base ≤ g := by
  rcases h.2 with ⟨hv, _⟩ | ⟨g', cap, cur, hv, hb, _⟩
  · cases hv
  · cases hv
    exact hb

theorem own_blk {w : World} {base : Nat} {e : TypeId} {s m j : Nat} {v : Value} {xs : List Value} (h : w.ownsRow base e s v m xs) (hj : v.ownBlock = some j) : base ≤ j := by
  rcases h.2 with ⟨rfl, _⟩ | ⟨g', cap, cur, rfl, hb, _⟩
  · cases hj
  · cases hj
    exact hb

theorem own_form {w : World} {base : Nat} {e : TypeId} {s n : Nat} {v : Value} {xs : List Value} (h : w.ownsRow base e s v n xs) (hn : 0 < n) : ∃ g cap, v = .slice (some ⟨g, 0, none⟩) n cap := by
  rcases h.2 with ⟨_, h0⟩ | ⟨g, cap, cur, hv, _⟩
  · omega
  · exact ⟨g, cap, hv⟩

/-- A block of n cells for elements of a type. -/
def Shp (w : World) (g : Nat) (e : TypeId) (n : Nat) : Prop := ∃ cur : Array Value, w.heap[g]? = some (.cells cur e (0, 0)) ∧ cur.size = n

theorem Shp.lt {w : World} {g n : Nat} {e : TypeId} (h : Shp w g e n) : g < w.heap.size := by
  obtain ⟨cur, hg, _⟩ := h
  exact (Array.getElem?_eq_some_iff.1 hg).1

theorem Shp.cell {w : World} {g n k : Nat} {e : TypeId} (h : Shp w g e n) (hk : k < n) : (∃ u, w.cell? ⟨g, k, none⟩ = some u) ∧ w.frozen? ⟨g, k, none⟩ = false := by
  obtain ⟨cur, hg, hs⟩ := h
  refine ⟨⟨cur[k], ?_⟩, frozen_of_row _ _ _ _ _ hg⟩
  unfold World.cell?
  simp only [hg]
  rw [if_neg (by simp)]
  exact Array.getElem?_eq_getElem (by omega)

theorem Shp.ne {w : World} {g g' n n' : Nat} {e e' : TypeId} (h : Shp w g e n) (h' : Shp w g' e' n') (hne : e ≠ e') : g ≠ g' := by
  rintro rfl
  obtain ⟨cur, hg, _⟩ := h
  obtain ⟨cur', hg', _⟩ := h'
  rw [hg] at hg'
  simp only [Option.some.injEq, Obj.cells.injEq] at hg'
  exact hne hg'.2.1

theorem Shp.setCell {w : World} {g n : Nat} {e : TypeId} (h : Shp w g e n) (g' k : Nat) (u : Value) : Shp (w.setCell ⟨g', k, none⟩ u) g e n := by
  obtain ⟨cur, hg, hs⟩ := h
  by_cases hne : g = g'
  · subst hne
    exact ⟨_, heap_setCell_same w g k cur e u hg, by simp [hs]⟩
  · exact ⟨cur, by rw [heap_setCell_other _ _ _ _ hne]; exact hg, hs⟩

/-- All blocks but those from b on and below t are as they were, and the blocks' shapes are. -/
structure Spl (b t : Nat) (w w' : World) : Prop where
  os : w'.os = w.os
  tape : w'.tape = w.tape
  output : w'.output = w.output
  size : w.heap.size ≤ w'.heap.size
  block : ∀ g, g < w.heap.size → (g < b ∨ t ≤ g) → w'.heap[g]? = w.heap[g]?
  shape : ∀ (g : Nat) (e : TypeId) (n : Nat), Shp w g e n → Shp w' g e n

theorem Spl.refl (b t : Nat) (w : World) : Spl b t w w := ⟨rfl, rfl, rfl, Nat.le_refl _, fun _ _ _ => rfl, fun _ _ _ h => h⟩

theorem Spl.trans {b t : Nat} {w w' w'' : World} (h : Spl b t w w') (k : Spl b t w' w'') : Spl b t w w'' :=
  ⟨k.os.trans h.os, k.tape.trans h.tape, k.output.trans h.output, Nat.le_trans h.size k.size, fun g hg hb => (k.block g (Nat.lt_of_lt_of_le hg h.size) hb).trans (h.block g hg hb), fun g e n hs => k.shape g e n (h.shape g e n hs)⟩

theorem Spl.below {b t : Nat} {w w' : World} (h : Below w.heap.size w w') : Spl b t w w' :=
  ⟨h.os, h.tape, h.output, h.size, fun g hg _ => h.block g hg, fun g e n hs => by
    have hlt := hs.lt
    obtain ⟨cur, hg, hn⟩ := hs
    exact ⟨cur, by rw [h.block g hlt]; exact hg, hn⟩⟩

theorem Spl.setCell {b t : Nat} {w w' : World} (h : Spl b t w w') {g : Nat} (hg : (b ≤ g ∧ g < t) ∨ w.heap.size ≤ g) (k : Nat) (u : Value) : Spl b t w (w'.setCell ⟨g, k, none⟩ u) :=
  ⟨h.os, h.tape, h.output, by simpa [World.setCell] using h.size, fun g' hg' hb => by
    rw [heap_setCell_other _ _ _ _ (show g' ≠ g by omega)]
    exact h.block g' hg' hb, fun g' e n hs => (h.shape g' e n hs).setCell _ _ _⟩

/-- A slice of one's own, at the head of its row, with anything in it. -/
def RowS (w : World) (b t : Nat) (e : TypeId) (v : Value) (n : Nat) : Prop :=
  (v = .slice none 0 0 ∧ n = 0) ∨ ∃ g cap, v = .slice (some ⟨g, 0, none⟩) n cap ∧ b ≤ g ∧ g < t ∧ Shp w g e cap ∧ n ≤ cap ∧ cap ≤ maxLen

theorem RowS.of {w w' : World} {b : Nat} {e : TypeId} {v : Value} {n : Nat} {xs : List Value} (h : w.ownsRow b e 1 v n xs) (hb : Below w.heap.size w w') : RowS w' b w.heap.size e v n := by
  rcases h.2 with h | ⟨g, cap, cur, hv, hg1, hg, hc, hm, hs, _⟩
  · exact .inl h
  · have hlt := (Array.getElem?_eq_some_iff.1 hg).1
    exact .inr ⟨g, cap, hv, hg1, hlt, ⟨cur, by rw [hb.block g hlt]; exact hg, by omega⟩, hc, hm⟩

theorem RowS.spl {w w' : World} {b t b' t' : Nat} {e : TypeId} {v : Value} {n : Nat} (h : RowS w b t e v n) (hs : Spl b' t' w w') : RowS w' b t e v n := by
  rcases h with h | ⟨g, cap, hv, h1, h2, h3, h4⟩
  · exact .inl h
  · exact .inr ⟨g, cap, hv, h1, h2, hs.shape _ _ _ h3, h4⟩

theorem RowS.form {w : World} {b t : Nat} {e : TypeId} {v : Value} {n : Nat} (h : RowS w b t e v n) : ∃ ao cap, v = .slice ao n cap ∧ n ≤ cap ∧ cap ≤ maxLen := by
  rcases h with ⟨rfl, rfl⟩ | ⟨g, cap, rfl, _, _, _, h4, h5⟩
  · exact ⟨_, _, rfl, Nat.le_refl _, Nat.zero_le _⟩
  · exact ⟨_, _, rfl, h4, h5⟩

theorem RowS.at {w : World} {b t : Nat} {e : TypeId} {ao : Option Addr} {n cap : Nat} (h : RowS w b t e (.slice ao n cap) n) {k : Nat} (hk : k < n) :
    ∃ g, ao = some ⟨g, 0, none⟩ ∧ b ≤ g ∧ g < t ∧ Shp w g e cap := by
  rcases h with ⟨_, rfl⟩ | ⟨g, cap', hv, h1, h2, h3, _⟩
  · omega
  · simp only [Value.slice.injEq, true_and] at hv
    obtain ⟨rfl, rfl⟩ := hv
    exact ⟨g, rfl, h1, h2, h3⟩

theorem own_far {w : World} {base gr n k : Nat} {e e' : TypeId} {v : Value} {xs : List Value} (h : w.ownsRow base e 1 v n xs) (hs : Shp w gr e' k) (hne : e ≠ e') : v.ownBlock = none ∨ v.ownBlock ≠ some gr := by
  rcases h.2 with ⟨rfl, _⟩ | ⟨g, cap, cur, rfl, _, hg, _⟩
  · exact .inl rfl
  · refine .inr (fun e => ?_)
    simp only [Value.ownBlock, Option.some.injEq] at e
    subst e
    obtain ⟨cur2, hg2, _⟩ := hs
    rw [hg] at hg2
    simp only [Option.some.injEq, Obj.cells.injEq] at hg2
    exact absurd hg2.2.1 hne

theorem grown_of_below {w w' : World} (h : Below w.heap.size w w') (row : Option Nat) : w.grownBy w' row := ⟨h.os, h.tape, h.output, h.size, fun k hk _ => h.block k hk⟩

theorem Kp.of_map {w w' : World} {b : Nat} {es : Array MapEntry} {clock : Nat} (hg : w.grownBy w' (some b)) (hb : w.heap[b]? = some (.map es clock)) : Kp w w' := by
  refine ⟨hg.size, fun a v hv => ?_⟩
  have hlt := World.block_lt_of_cell? w a hv
  have hne : a.block ≠ b := by
    intro e
    simp [World.cell?, e, hb] at hv
  rw [World.cell?_of_block (hg.block a.block hlt (by simpa using hne))]
  exact hv

theorem grown_trans {a b c : World} {row : Option Nat} (h : a.grownBy b row) (k : b.grownBy c row) : a.grownBy c row :=
  ⟨k.os.trans h.os, k.tape.trans h.tape, k.output.trans h.output, Nat.le_trans h.size k.size, fun i hi hne => (k.block i (Nat.lt_of_lt_of_le hi h.size) hne).trans (h.block i hi hne)⟩

theorem laidOut : laidOutB Tryz.prog = true := by kernel_rfl

section
variable {P : Program} {w w' : World} {ops : Array Oper} {rest : List Oper} {o : Oper} {a : Act} {Q : Exit → Act → World → Prop}

theorem wpList_lookup_run (hg : o.guard = none) (m x : Operand) (t : TypeId) (c : Bool) (hop : o.op = Op.lookup t m x c) (mv kv r : Value) (hm : a.eval m = mv) (hx : a.eval x = kv) (hrun : (Instr.lookup t mv kv c).run P w = .ok r w)
    (h : wpList P ops Q rest (a.put o.dst r) w) : wpList P ops Q (o :: rest) a w := by
  refine wpList_plain hg fun K' hK' => ?_
  unfold Oper.wp
  simp [execOp, hop, hm, hx, hrun, Result.andThen]
  exact hK' _ _ h

theorem wpList_mapUpdate_run (hg : o.guard = none) (m x v : Operand) (t : TypeId) (hop : o.op = Op.mapUpdate t m x v) (mv kv vv : Value) (hm : a.eval m = mv) (hx : a.eval x = kv) (hv : a.eval v = vv) (hrun : (Instr.mapUpdate t mv kv vv).run P w = .ok () w')
    (h : wpList P ops Q rest (a.put o.dst undef) w') : wpList P ops Q (o :: rest) a w := by
  refine wpList_plain hg fun K' hK' => ?_
  unfold Oper.wp
  simp [execOp, hop, hm, hx, hv, hrun, Result.andThen]
  exact hK' _ _ h

end

theorem ret2i {k : IntKind} {v : Value} {a b : Int} (h : a = b) : Ending.returned (.tuple #[v, .int k a]) = .returned (.tuple #[v, .int k b]) := by rw [h]

theorem ret1i {k : IntKind} {a b : Int} (h : a = b) : Ending.returned (.int k a) = .returned (.int k b) := by rw [h]

theorem ret1b {a b : Bool} (h : a = b) : Ending.returned (.bool a) = .returned (.bool b) := by rw [h]

end Go.Proofs.YtgpbnbmjgcchfaaGreatDoor

/- A stable sort by the first of two numbers, plainly. -/
namespace Go.Proofs.YtgpbnbmjgcchfaaGreatDoor
open Go.RowKit Go.Maps

/-- A redex: its place and its rule. -/
abbrev Rx := Int × Int

/-- Those of one key, in their order. -/
def fk (k : Int) (l : List Rx) : List Rx := l.filter fun x => decide (x.1 = k)

/-- Of each key the same, in the same order. -/
def Fil (a b : List Rx) : Prop := ∀ k, fk k a = fk k b

theorem fk_app (k : Int) (a b : List Rx) : fk k (a ++ b) = fk k a ++ fk k b := by unfold fk; rw [List.filter_append]

theorem Fil.refl (a : List Rx) : Fil a a := fun _ => rfl
theorem Fil.symm {a b : List Rx} (h : Fil a b) : Fil b a := fun k => (h k).symm
theorem Fil.trans {a b c : List Rx} (h : Fil a b) (h' : Fil b c) : Fil a c := fun k => (h k).trans (h' k)
theorem Fil.app {a b c d : List Rx} (h : Fil a b) (h' : Fil c d) : Fil (a ++ c) (b ++ d) := fun k => by rw [fk_app, fk_app, h k, h' k]

theorem fk_mem {x : Rx} {l : List Rx} : x ∈ l ↔ x ∈ fk x.1 l := by unfold fk; rw [List.mem_filter]; simp

theorem Fil.mem {a b : List Rx} (h : Fil a b) {x : Rx} : x ∈ a ↔ x ∈ b := fk_mem.trans ((by rw [h x.1] : x ∈ fk x.1 a ↔ x ∈ fk x.1 b).trans fk_mem.symm)

theorem fil_swap {a b : List Rx} (h : ∀ x ∈ a, ∀ y ∈ b, x.1 ≠ y.1) : Fil (a ++ b) (b ++ a) := fun k => by
  rw [fk_app, fk_app]
  by_cases ha : fk k a = []
  · rw [ha, List.nil_append, List.append_nil]
  · have hb : fk k b = [] := by
      obtain ⟨x, hx⟩ := List.exists_mem_of_ne_nil _ ha
      unfold fk at hx ⊢
      rw [List.mem_filter, decide_eq_true_eq] at hx
      rw [List.filter_eq_nil_iff]
      intro y hy hk
      rw [decide_eq_true_eq] at hk
      exact h x hx.1 y hy (by rw [hx.2, hk])
    rw [hb, List.nil_append, List.append_nil]

def Up (l : List Rx) : Prop := l.Pairwise fun x y => x.1 ≤ y.1

theorem up_one : ∀ {a b : List Rx}, Up a → Up b → Fil a b → a = b
  | [], b, _, _, h => by
    cases b with
    | nil => rfl
    | cons y b => exact absurd (h.mem.2 (show y ∈ y :: b by simp)) (by simp)
  | x :: a, [], _, _, h => absurd (h.mem.1 (show x ∈ x :: a by simp)) (by simp)
  | x :: a, y :: b, ha, hb, h => by
    unfold Up at ha hb
    rw [List.pairwise_cons] at ha hb
    have hk : x.1 = y.1 := by
      have h1 : y.1 ≤ x.1 := by
        rcases List.mem_cons.1 (h.mem.1 (show x ∈ x :: a by simp)) with e | e
        · rw [e]; exact Int.le_refl _
        · exact hb.1 x e
      have h2 : x.1 ≤ y.1 := by
        rcases List.mem_cons.1 (h.mem.2 (show y ∈ y :: b by simp)) with e | e
        · rw [e]; exact Int.le_refl _
        · exact ha.1 y e
      omega
    have hxy : x = y ∧ fk x.1 a = fk x.1 b := by
      have h9 := h x.1
      unfold fk at h9 ⊢
      rw [List.filter_cons_of_pos (by simp), List.filter_cons_of_pos (by simp [hk])] at h9
      exact List.cons.inj h9
    rw [← hxy.1, up_one ha.2 hb.2 fun k => ?_]
    by_cases e : k = x.1
    · rw [e]; exact hxy.2
    · have h9 := h k
      unfold fk at h9 ⊢
      rw [List.filter_cons_of_neg (by simpa using fun h => e h.symm), List.filter_cons_of_neg (by rw [← hk]; simpa using fun h => e h.symm)] at h9
      exact h9

/-- The places from a on and below b rise. -/
def UpI (d : List Rx) (a b : Nat) : Prop := ∀ i j x y, a ≤ i → i < j → j < b → d[i]? = some x → d[j]? = some y → x.1 ≤ y.1

theorem UpI.up {d : List Rx} (h : UpI d 0 d.length) : Up d := by
  unfold Up
  rw [List.pairwise_iff_getElem]
  intro i j hi hj hij
  exact h i j _ _ (Nat.zero_le _) hij hj (List.getElem?_eq_getElem hi) (List.getElem?_eq_getElem hj)

theorem UpI.sub {d : List Rx} {a b a' b' : Nat} (h : UpI d a b) (h1 : a ≤ a') (h2 : b' ≤ b) : UpI d a' b' := fun i j x y hi hij hj => h i j x y (by omega) hij (by omega)

theorem UpI.same {d d' : List Rx} {a b : Nat} (h : UpI d a b) (he : ∀ k, a ≤ k → k < b → d'[k]? = d[k]?) : UpI d' a b := fun i j x y hi hij hj hx hy =>
  h i j x y hi hij hj (by rw [← he i hi (by omega)]; exact hx) (by rw [← he j (by omega) hj]; exact hy)

/-- A change within the places from a on and below b. -/
structure Wth (d d' : List Rx) (a b : Nat) : Prop where
  len : d'.length = d.length
  fil : Fil d' d
  out : ∀ k, k < a ∨ b ≤ k → d'[k]? = d[k]?
  ins : ∀ k x, a ≤ k → k < b → d'[k]? = some x → ∃ k', a ≤ k' ∧ k' < b ∧ d[k']? = some x

theorem Wth.refl (d : List Rx) (a b : Nat) : Wth d d a b := ⟨rfl, Fil.refl _, fun _ _ => rfl, fun k _ h1 h2 h3 => ⟨k, h1, h2, h3⟩⟩

theorem Wth.trans {d d' d'' : List Rx} {a b : Nat} (h : Wth d d' a b) (h' : Wth d' d'' a b) : Wth d d'' a b :=
  ⟨h'.len.trans h.len, h'.fil.trans h.fil, fun k hk => (h'.out k hk).trans (h.out k hk), fun k x h1 h2 h3 => by
    obtain ⟨k1, a1, a2, a3⟩ := h'.ins k x h1 h2 h3
    exact h.ins k1 x a1 a2 a3⟩

theorem Wth.wide {d d' : List Rx} {a b a' b' : Nat} (h : Wth d d' a b) (h1 : a' ≤ a) (h2 : b ≤ b') : Wth d d' a' b' :=
  ⟨h.len, h.fil, fun k hk => h.out k (by omega), fun k x k1 k2 hx => by
    by_cases hk : k < a ∨ b ≤ k
    · exact ⟨k, k1, k2, by rw [← h.out k hk]; exact hx⟩
    · obtain ⟨k', a1, a2, a3⟩ := h.ins k x (by omega) (by omega) hx
      exact ⟨k', by omega, by omega, a3⟩⟩

/-- Two rows beside one another change their places. -/
theorem get_rot {X U V Y : List Rx} (k : Nat) : (X ++ V ++ U ++ Y)[k]? = if k < X.length then X[k]? else if k < X.length + V.length then (X ++ U ++ V ++ Y)[k + U.length]? else if k < X.length + V.length + U.length then (X ++ U ++ V ++ Y)[k - V.length]? else Y[k - X.length - U.length - V.length]? := by
  simp only [List.append_assoc]
  split
  · rw [List.getElem?_append_left (by omega)]
  · rw [List.getElem?_append_right (by omega)]
    split
    · rw [List.getElem?_append_left (by omega), List.getElem?_append_right (by omega), List.getElem?_append_right (by omega), List.getElem?_append_left (by omega)]
      congr 1
      omega
    · rw [List.getElem?_append_right (by omega)]
      split
      · rw [List.getElem?_append_left (by omega), List.getElem?_append_right (by omega), List.getElem?_append_left (by omega)]
        congr 1
        omega
      · rw [List.getElem?_append_right (by omega)]
        congr 1
        omega

theorem rot_wth {X U V Y : List Rx} (h : ∀ x ∈ U, ∀ y ∈ V, x.1 ≠ y.1) : Wth (X ++ U ++ V ++ Y) (X ++ V ++ U ++ Y) X.length (X.length + U.length + V.length) := by
  refine ⟨by simp; omega, ?_, fun k hk => ?_, fun k x h1 h2 hx => ?_⟩
  · have h9 := ((Fil.refl X).app (fil_swap h)).app (Fil.refl Y)
    simp only [List.append_assoc] at h9 ⊢
    exact h9.symm
  · rw [get_rot]
    rcases hk with hk | hk
    · rw [if_pos hk]
      simp only [List.append_assoc]
      rw [List.getElem?_append_left hk]
    · rw [if_neg (by omega), if_neg (by omega), if_neg (by omega)]
      simp only [List.append_assoc]
      rw [List.getElem?_append_right (by omega), List.getElem?_append_right (by omega), List.getElem?_append_right (by omega)]
  · rw [get_rot, if_neg (by omega)] at hx
    by_cases h3 : k < X.length + V.length
    · rw [if_pos h3] at hx
      exact ⟨_, by omega, by omega, hx⟩
    · rw [if_neg h3, if_pos (by omega)] at hx
      exact ⟨_, by omega, by omega, hx⟩

/-- A row in four parts by places. -/
theorem four {d : List Rx} {a m b : Nat} (h1 : a ≤ m) (h2 : m ≤ b) (h3 : b ≤ d.length) :
    ∃ X U V Y, d = X ++ U ++ V ++ Y ∧ X.length = a ∧ U.length = m - a ∧ V.length = b - m ∧ (∀ x ∈ U, ∃ k, a ≤ k ∧ k < m ∧ d[k]? = some x) ∧ (∀ x ∈ V, ∃ k, m ≤ k ∧ k < b ∧ d[k]? = some x) := by
  refine ⟨d.take a, (d.drop a).take (m - a), (d.drop m).take (b - m), d.drop b, ?_, by rw [List.length_take]; omega, by rw [List.length_take, List.length_drop]; omega, by rw [List.length_take, List.length_drop]; omega, fun x hx => ?_, fun x hx => ?_⟩
  · have e1 : (d.drop m).take (b - m) ++ d.drop b = d.drop m := by
      have := List.take_append_drop (b - m) (d.drop m)
      rw [List.drop_drop, show m + (b - m) = b by omega] at this
      exact this
    have e2 : (d.drop a).take (m - a) ++ d.drop m = d.drop a := by
      have := List.take_append_drop (m - a) (d.drop a)
      rw [List.drop_drop, show a + (m - a) = m by omega] at this
      exact this
    rw [List.append_assoc, e1, List.append_assoc, e2, List.take_append_drop]
  · obtain ⟨k, hk⟩ := List.getElem?_of_mem hx
    have hl := (List.getElem?_eq_some_iff.1 hk).1
    rw [List.length_take, List.length_drop] at hl
    rw [List.getElem?_take_of_lt (by omega), List.getElem?_drop] at hk
    exact ⟨a + k, by omega, by omega, hk⟩
  · obtain ⟨k, hk⟩ := List.getElem?_of_mem hx
    have hl := (List.getElem?_eq_some_iff.1 hk).1
    rw [List.length_take, List.length_drop] at hl
    rw [List.getElem?_take_of_lt (by omega), List.getElem?_drop] at hk
    exact ⟨m + k, by omega, by omega, hk⟩

/-- The halves of a merge. -/
theorem merge_halves {d d1 d2 d3 : List Rx} {a mid b s m e : Nat} (hs1 : a ≤ s) (hs2 : s ≤ m) (he1 : m ≤ e) (he2 : e ≤ b) (hse : e - m + s = mid) (h1 : UpI d a m) (h2 : UpI d m b)
    (hlt : ∀ i j x y, m ≤ i → i < e → s ≤ j → j < m → d[i]? = some x → d[j]? = some y → x.1 < y.1)
    (hle : ∀ i j x y, a ≤ i → i < s → e ≤ j → j < b → d[i]? = some x → d[j]? = some y → x.1 ≤ y.1)
    (hr : ∃ X U V Y, d = X ++ U ++ V ++ Y ∧ X.length = s ∧ U.length = m - s ∧ V.length = e - m ∧ d1 = X ++ V ++ U ++ Y)
    (hw2 : Wth d1 d2 a mid) (hu2 : UpI d2 a mid) (hw3 : Wth d2 d3 mid b) (hu3 : UpI d3 mid b) : Wth d d3 a b ∧ UpI d3 a b := by
  obtain ⟨X, U, V, Y, hd, hX, hU, hV, hd1⟩ := hr
  have hrot := get_rot (X := X) (U := U) (V := V) (Y := Y)
  rw [← hd, ← hd1] at hrot
  have hl1 : ∀ k x, a ≤ k → k < mid → d1[k]? = some x → (∃ i, a ≤ i ∧ i < s ∧ d[i]? = some x) ∨ (∃ i, m ≤ i ∧ i < e ∧ d[i]? = some x) := fun k x k1 k2 hx => by
    rw [hrot] at hx
    by_cases c1 : k < X.length
    · rw [if_pos c1] at hx
      refine .inl ⟨k, k1, by omega, ?_⟩
      rw [hd]
      simp only [List.append_assoc]
      rw [List.getElem?_append_left c1]
      exact hx
    · rw [if_neg c1, if_pos (by omega)] at hx
      exact .inr ⟨_, by omega, by omega, hx⟩
  have hr1 : ∀ k x, mid ≤ k → k < b → d1[k]? = some x → (∃ i, s ≤ i ∧ i < m ∧ d[i]? = some x) ∨ (∃ i, e ≤ i ∧ i < b ∧ d[i]? = some x) := fun k x k1 k2 hx => by
    rw [hrot, if_neg (by omega), if_neg (by omega)] at hx
    by_cases c1 : k < X.length + V.length + U.length
    · rw [if_pos c1] at hx
      exact .inl ⟨_, by omega, by omega, hx⟩
    · rw [if_neg c1] at hx
      refine .inr ⟨k, by omega, k2, ?_⟩
      rw [hd]
      simp only [List.append_assoc]
      rw [List.getElem?_append_right (by omega), List.getElem?_append_right (by omega), List.getElem?_append_right (by omega)]
      exact hx
  have hmem : ∀ x ∈ U, ∀ y ∈ V, x.1 ≠ y.1 := fun x hx y hy => by
    obtain ⟨i, hi⟩ := List.getElem?_of_mem hx
    obtain ⟨j, hj⟩ := List.getElem?_of_mem hy
    have li := (List.getElem?_eq_some_iff.1 hi).1
    have lj := (List.getElem?_eq_some_iff.1 hj).1
    have g1 : d[s + i]? = some x := by
      rw [hd]
      simp only [List.append_assoc]
      rw [List.getElem?_append_right (by omega), List.getElem?_append_left (by omega), ← hi]
      congr 1
      omega
    have g2 : d[m + j]? = some y := by
      rw [hd]
      simp only [List.append_assoc]
      rw [List.getElem?_append_right (by omega), List.getElem?_append_right (by omega), List.getElem?_append_left (by omega), ← hj]
      congr 1
      omega
    have := hlt (m + j) (s + i) y x (by omega) (by omega) (by omega) (by omega) g2 g1
    omega
  have hw1 : Wth d d1 a b := by
    have h9 := rot_wth (X := X) (Y := Y) hmem
    rw [← hd, ← hd1] at h9
    exact h9.wide (by omega) (by omega)
  have hw : Wth d d3 a b := (hw1.trans (hw2.wide (Nat.le_refl _) (by omega))).trans (hw3.wide (by omega) (Nat.le_refl _))
  refine ⟨hw, fun i j x y hi hij hj hx hy => ?_⟩
  by_cases c1 : j < mid
  · exact hu2 i j x y hi hij c1 (by rw [← hw3.out i (.inl (by omega))]; exact hx) (by rw [← hw3.out j (.inl c1)]; exact hy)
  · by_cases c2 : mid ≤ i
    · exact hu3 i j x y c2 hij hj hx hy
    · have hx2 : d2[i]? = some x := by rw [← hw3.out i (.inl (by omega))]; exact hx
      obtain ⟨i1, a1, a2, hx1⟩ := hw2.ins i x hi (by omega) hx2
      obtain ⟨j2, b1, b2, hy2⟩ := hw3.ins j y (by omega) hj hy
      rw [hw2.out j2 (.inr b1)] at hy2
      rcases hl1 i1 x a1 a2 hx1 with ⟨p, p1, p2, p3⟩ | ⟨p, p1, p2, p3⟩ <;> rcases hr1 j2 y b1 b2 hy2 with ⟨q, q1, q2, q3⟩ | ⟨q, q1, q2, q3⟩
      · exact h1 p q x y p1 (by omega) q2 p3 q3
      · exact hle p q x y p1 p2 q1 q2 p3 q3
      · exact Int.le_of_lt (hlt p q x y p1 p2 q1 q2 p3 q3)
      · exact h2 p q x y p1 (by omega) q2 p3 q3

end Go.Proofs.YtgpbnbmjgcchfaaGreatDoor

/- What firstTerm and checkRow answer. -/
namespace Go.Proofs.YtgpbnbmjgcchfaaGreatDoor
open Go.RowKit Go.Maps

/-- A symbol: its name and its arity. -/
abbrev Sy := ByteArray × Int

/-- A symbol at an address. -/
def ES (w : World) (g o : Nat) (s : Sy) : Prop := -9223372036854775808 ≤ s.2 ∧ s.2 ≤ 9223372036854775807 ∧ s.1.size ≤ maxLen ∧ w.cell? ⟨g, o, none⟩ = some (.string s.1) ∧ w.cell? ⟨g, o + 1, none⟩ = some (.int .i64 s.2)

theorem ES.kp {w w' : World} (hk : Kp w w') (g o : Nat) (s : Sy) (h : ES w g o s) : ES w' g o s := ⟨h.1, h.2.1, h.2.2.1, hk.cell _ _ h.2.2.2.1, hk.cell _ _ h.2.2.2.2⟩

/-- A signature. -/
def Sg (w : World) (v : Value) (sig : List Sy) : Prop := Row ES 2 w v sig
theorem Sg.kp {w w' : World} {v : Value} {sig : List Sy} (h : Sg w v sig) (hk : Kp w w') : Sg w' v sig := Row.imp h hk.size (ES.kp hk)

theorem Sg.at {w : World} {ao : Option Addr} {n cap : Nat} {sig : List Sy} (h : Sg w (.slice ao n cap) sig) {k : Nat} (hk : k < sig.length) :
    ∃ g off s a, ao = some ⟨g, off, none⟩ ∧ sig[k]? = some (s, a) ∧ w.cell? ⟨g, off + k * 2, none⟩ = some (.string s) ∧ w.cell? ⟨g, off + k * 2 + 1, none⟩ = some (.int .i64 a) ∧ -9223372036854775808 ≤ a ∧ a ≤ 9223372036854775807 ∧ s.size ≤ 9223372036854775807 := by
  obtain ⟨ao', cap', hv, _, _, hx⟩ := Row.flat h
  simp only [Value.slice.injEq] at hv
  obtain ⟨rfl, rfl, rfl⟩ := hv
  obtain ⟨g, off, ⟨s, a⟩, rfl, hm, h1, h2, h3, h4, h5⟩ := hx k hk
  unfold maxLen at h3
  exact ⟨g, off, s, a, rfl, hm, h4, h5, h1, h2, by simp only at h3; omega⟩

def ArOk (sig : List Sy) : Prop := ∀ s ∈ sig, 0 ≤ s.2 ∧ s.2 ≤ 1000

/-- How much a code changes what is missing; none: the code is wrong. -/
def codeD (sig : List Sy) (c : Int) : Option Int := if c < -1048576 then none else if c < 0 then some (-1) else match sig[c.toNat]? with | none => none | some s => some (s.2 - 1)

/-- The nodes of the term with which a row begins, and the error. -/
def firstT (sig : List Sy) : Int → Nat → List Int → Int × Int
  | _, _, [] => (0, 31)
  | m, i, c :: r => match codeD sig c with | none => (0, 30) | some e => if m + e = 0 then ((i : Int) + 1, 0) else firstT sig (m + e) (i + 1) r

theorem codeD_none {sig : List Sy} {c : Int} (h : (sig.length : Int) ≤ c ∨ c < -1048576) : codeD sig c = none := by
  unfold codeD
  rcases h with h | h
  · rw [if_neg (by omega), if_neg (by omega), List.getElem?_eq_none (by omega)]
  · rw [if_pos h]

theorem codeD_var {sig : List Sy} {c : Int} (h1 : -1048576 ≤ c) (h2 : c < 0) : codeD sig c = some (-1) := by
  unfold codeD
  rw [if_neg (by omega), if_pos h2]

theorem codeD_sym {sig : List Sy} {c : Nat} {s : Sy} (h : sig[c]? = some s) : codeD sig (c : Int) = some (s.2 - 1) := by
  unfold codeD
  rw [if_neg (by omega), if_neg (by omega), Int.toNat_natCast, h]

set_option maxRecDepth 100000 in
set_option maxHeartbeats 1600000 in
theorem firstTerm_any (sv v : Value) (sig : List Sy) (t : List Int) (w : World) (hs : Sg w sv sig) (h : Is w v t) (ha : ArOk sig) (hb : t.length * 8 ≤ 140737488351232) :
    Calls Tryz.prog 63 #[sv, v] w fun e w' => e = .returned (.tuple #[.int .i64 (firstT sig 1 0 t).1, .int .i64 (firstT sig 1 0 t).2]) ∧ w' = w := by
  obtain ⟨so, sc, rfl, hso, hsc, _⟩ := Row.flat hs
  obtain ⟨ao, cap, rfl, hao, hca, q0⟩ := Row.flat h
  unfold maxLen at hca hsc
  have HS : Hid (Sg w (.slice so sig.length sc) sig) := hs
  have HT : Hid (Is w (.slice ao t.length cap) t) := h
  have HA : Hid (ArOk sig) := ha
  clear hs h q0 ha
  go_enter Tryz.func63, Tryz.ntmps63
  go_wp2
  go_loopw [6, 11] (fun x i wr => ∃ (k : Nat) (m : Int), k ≤ t.length ∧ x = .int .i64 m ∧ i = .int .i64 k ∧ firstT sig 1 0 t = firstT sig m k (t.drop k) ∧ -(k : Int) ≤ m ∧ m ≤ 1 + 1000 * (k : Int) ∧ wr = w) (fun _ i _ => t.length - (intOf i).toNat)
  case atStart => exact ⟨0, 1, Nat.zero_le _, rfl, rfl, rfl, by omega, by omega, rfl⟩
  case round =>
    obtain ⟨k, m, hk, rfl, rfl, hft, hm1, hm2, hw⟩ := hrel
    have hw8 := hw.symm
    subst hw8
    have HF : Hid (firstT sig 1 0 t = firstT sig m k (t.drop k)) := hft
    clear hft hw
    by_cases hlt : k < t.length
    · obtain ⟨g, off, c, rfl, hx1, hx2, hx3, hx4⟩ := HT.out.at hlt
      have HD : Hid (t.drop k = c :: t.drop (k + 1)) := drop_get hx1
      clear hx1
      by_cases hbad : (sig.length : Int) ≤ c ∨ c < -1048576
      · have HR : Hid (firstT sig 1 0 t = (0, 30)) := by show _ = _; rw [HF.out, HD.out, firstT, codeD_none hbad]
        rcases hbad with hbad | hbad
        · go_wp2
          go_ret2
          exact ⟨by rw [HR.out]; rfl, rfl⟩
        · by_cases hbad2 : (sig.length : Int) ≤ c
          · omega
          · go_wp2
            go_ret2
            exact ⟨by rw [HR.out]; rfl, rfl⟩
      · have hb1 : ¬ (sig.length : Int) ≤ c := fun h => hbad (.inl h)
        have hb2 : ¬ c < -1048576 := fun h => hbad (.inr h)
        clear hbad
        by_cases hc0 : c < 0
        · have hcd : codeD sig c = some (-1) := codeD_var (by omega) hc0
          have hwm : IntKind.i64.wrap (m - 1) = m - 1 := IntWalk.i64_in _ ⟨by omega, by omega⟩
          by_cases hz : m - 1 = 0
          · have HR : Hid (firstT sig 1 0 t = ((k : Int) + 1, 0)) := by show _ = _; rw [HF.out, HD.out, firstT, hcd]; simp only; rw [if_pos (by omega)]
            have hzb : (m - 1 == 0) = true := by rw [beq_iff_eq]; exact hz
            clear hcd
            go_wp2
            go_ret2
            exact ⟨by rw [HR.out]; rfl, rfl⟩
          · have HN : Hid (firstT sig 1 0 t = firstT sig (m - 1) (k + 1) (t.drop (k + 1))) := by show _ = _; rw [HF.out, HD.out, firstT, hcd]; simp only; rw [if_neg (by omega)]; rfl
            have hzb : (m - 1 == 0) = false := by rw [beq_eq_false_iff_ne]; exact hz
            clear hcd
            go_wp2
            go_roundw
            case rel => exact ⟨k + 1, m - 1, by omega, rfl, by go_num, HN.out, by omega, by omega, trivial⟩
            case measure => simp [intOf]; omega
        · obtain ⟨cn, rfl⟩ : ∃ cn : Nat, c = cn := ⟨c.toNat, by omega⟩
          obtain ⟨g2, off2, nm, ar, rfl, hs1, hs2, hs3, hs4, hs5, hs6⟩ := HS.out.at (k := cn) (by omega)
          have har := HA.out _ (List.mem_of_getElem? hs1)
          simp only at har
          have hcd : codeD sig (cn : Int) = some (ar - 1) := codeD_sym hs1
          have hwa : IntKind.i64.wrap (ar - 1) = ar - 1 := IntWalk.i64_in _ ⟨by omega, by omega⟩
          have hwm : IntKind.i64.wrap (m + (ar - 1)) = m + (ar - 1) := IntWalk.i64_in _ ⟨by omega, by omega⟩
          have hcl : cn < sig.length := by omega
          clear hs1
          by_cases hz : m + (ar - 1) = 0
          · have HR : Hid (firstT sig 1 0 t = ((k : Int) + 1, 0)) := by show _ = _; rw [HF.out, HD.out, firstT, hcd]; simp only; rw [if_pos (by omega)]
            have hzb : (m + (ar - 1) == 0) = true := by rw [beq_iff_eq]; exact hz
            clear hcd
            go_wp2
            go_ret2
            exact ⟨by rw [HR.out]; rfl, rfl⟩
          · have HN : Hid (firstT sig 1 0 t = firstT sig (m + (ar - 1)) (k + 1) (t.drop (k + 1))) := by show _ = _; rw [HF.out, HD.out, firstT, hcd]; simp only; rw [if_neg (by omega)]
            have hzb : (m + (ar - 1) == 0) = false := by rw [beq_eq_false_iff_ne]; exact hz
            clear hcd
            go_wp2
            go_roundw
            case rel => exact ⟨k + 1, m + (ar - 1), by omega, rfl, by go_num, HN.out, by omega, by omega, trivial⟩
            case measure => simp [intOf]; omega
    · have HR : Hid (firstT sig 1 0 t = (0, 31)) := by show _ = _; rw [HF.out, List.drop_of_length_le (by omega)]; rfl
      go_wp2
      go_ret2
      exact ⟨by rw [HR.out]; rfl, rfl⟩

/-- Check, of a signature that may be. -/
def rowE (sig : List Sy) (t : List Int) : Int := if (firstT sig 1 0 t).2 = 0 ∧ (firstT sig 1 0 t).1 < (t.length : Int) then 32 else (firstT sig 1 0 t).2

set_option maxRecDepth 100000 in
set_option maxHeartbeats 800000 in
theorem checkRow_any (sv v : Value) (sig : List Sy) (t : List Int) (w : World) (hs : Sg w sv sig) (h : Is w v t) (ha : ArOk sig) (hb : t.length * 8 ≤ 140737488351232) :
    Calls Tryz.prog 41 #[sv, v] w fun e w' => e = .returned (.int .i64 (rowE sig t)) ∧ w' = w := by
  obtain ⟨ao, cap, rfl, hao, hca, q0⟩ := Row.flat h
  unfold maxLen at hca
  have HS : Hid (Sg w sv sig) := hs
  have HT : Hid (Is w (.slice ao t.length cap) t) := h
  clear hs h q0
  go_enter Tryz.func41, Tryz.ntmps41
  go_wp2_with fail
  refine (firstTerm_any sv _ sig t _ HS.out HT.out ha hb).mono ?_
  rintro e w1 ⟨rfl, hw⟩
  have hw8 := hw.symm
  subst hw8
  obtain ⟨N, hN⟩ : ∃ N, N = (firstT sig 1 0 t).1 := ⟨_, rfl⟩
  obtain ⟨E, hE⟩ : ∃ E, E = (firstT sig 1 0 t).2 := ⟨_, rfl⟩
  have HR : Hid (rowE sig t = if E = 0 ∧ N < (t.length : Int) then 32 else E) := by show _ = _; unfold rowE; rw [← hN, ← hE]
  rw [← hN, ← hE]
  clear hN hE hw
  by_cases h0 : E = 0
  · subst h0
    by_cases h1 : N < (t.length : Int)
    · have HF : Hid (rowE sig t = 32) := by show _ = _; rw [HR.out, if_pos ⟨rfl, h1⟩]
      go_wp2
      go_ret
      exact ⟨ret1i HF.out.symm, rfl⟩
    · have HF : Hid (rowE sig t = 0) := by show _ = _; rw [HR.out, if_neg (fun hh => h1 hh.2)]
      go_wp2
      go_ret
      exact ⟨ret1i HF.out.symm, rfl⟩
  · have hb0 : (E == 0) = false := by rw [beq_eq_false_iff_ne]; exact h0
    have HF : Hid (rowE sig t = E) := by show _ = _; rw [HR.out, if_neg (fun hh => h0 hh.1)]
    go_wp2
    go_ret
    exact ⟨ret1i HF.out.symm, rfl⟩

end Go.Proofs.YtgpbnbmjgcchfaaGreatDoor

/- What isName answers. -/
namespace Go.Proofs.YtgpbnbmjgcchfaaGreatDoor
open Go.RowKit Go.Maps

def letB (r : Int) : Bool := (decide (97 ≤ r) && decide (r ≤ 122)) || (decide (65 ≤ r) && decide (r ≤ 90)) || decide (128 ≤ r)
def folB (r : Int) : Bool := (decide (48 ≤ r) && decide (r ≤ 57)) || decide (r = 95) || decide (r = 39)

set_option maxRecDepth 100000 in
theorem isLetter_any (r : Int) (w : World) : Calls Tryz.prog 114 #[.int .i32 r] w fun e w' => e = .returned (.bool (letB r)) ∧ w' = w := by
  obtain ⟨B, hB⟩ : ∃ B, B = letB r := ⟨_, rfl⟩
  rw [← hB]
  have HB : Hid (B = letB r) := hB
  clear hB
  go_enter Tryz.func114, Tryz.ntmps114
  by_cases h1 : 97 ≤ r
  · by_cases h2 : r ≤ 122
    · have HF : Hid (B = true) := by show _ = _; rw [HB.out]; unfold letB; simp [h1, h2]
      clear HB
      go_wp2
      go_ret
      exact ⟨ret1b HF.out.symm, rfl⟩
    · have HF : Hid (B = decide (128 ≤ r)) := by show _ = _; rw [HB.out]; unfold letB; rw [decide_eq_false h2, decide_eq_false (show ¬ r ≤ 90 by omega)]; simp
      clear HB
      have h3 : 65 ≤ r := by omega
      have h4 : ¬ r ≤ 90 := by omega
      go_wp2
      go_ret
      exact ⟨ret1b HF.out.symm, rfl⟩
  · by_cases h3 : 65 ≤ r
    · by_cases h4 : r ≤ 90
      · have HF : Hid (B = true) := by show _ = _; rw [HB.out]; unfold letB; simp [h3, h4]
        clear HB
        go_wp2
        go_ret
        exact ⟨ret1b HF.out.symm, rfl⟩
      · have HF : Hid (B = decide (128 ≤ r)) := by show _ = _; rw [HB.out]; unfold letB; rw [decide_eq_false h1, decide_eq_false h4]; simp
        clear HB
        go_wp2
        go_ret
        exact ⟨ret1b HF.out.symm, rfl⟩
    · have HF : Hid (B = decide (128 ≤ r)) := by show _ = _; rw [HB.out]; unfold letB; rw [decide_eq_false h1, decide_eq_false h3]; simp
      clear HB
      go_wp2
      go_ret
      exact ⟨ret1b HF.out.symm, rfl⟩

set_option maxRecDepth 100000 in
theorem followsLetter_any (r : Int) (w : World) : Calls Tryz.prog 115 #[.int .i32 r] w fun e w' => e = .returned (.bool (folB r)) ∧ w' = w := by
  obtain ⟨B, hB⟩ : ∃ B, B = folB r := ⟨_, rfl⟩
  rw [← hB]
  have HB : Hid (B = folB r) := hB
  clear hB
  go_enter Tryz.func115, Tryz.ntmps115
  by_cases h1 : 48 ≤ r
  · by_cases h2 : r ≤ 57
    · have HF : Hid (B = true) := by show _ = _; rw [HB.out]; unfold folB; simp [h1, h2]
      clear HB
      go_wp2
      go_ret
      exact ⟨ret1b HF.out.symm, rfl⟩
    · by_cases h3 : r = 95
      · have HF : Hid (B = true) := by show _ = _; rw [HB.out]; unfold folB; simp [h3]
        have h3b : (r == 95) = true := by rw [beq_iff_eq]; exact h3
        clear HB
        go_wp2
        go_ret
        exact ⟨ret1b HF.out.symm, rfl⟩
      · have HF : Hid (B = decide (r = 39)) := by show _ = _; rw [HB.out]; unfold folB; rw [decide_eq_false h2, decide_eq_false h3]; simp
        have h3b : (r == 95) = false := by rw [beq_eq_false_iff_ne]; exact h3
        clear HB
        go_wp2
        go_ret
        exact ⟨ret1b (by rw [HF.out]; rfl), rfl⟩
  · by_cases h3 : r = 95
    · omega
    · have HF : Hid (B = decide (r = 39)) := by show _ = _; rw [HB.out]; unfold folB; rw [decide_eq_false h1, decide_eq_false h3]; simp
      have h3b : (r == 95) = false := by rw [beq_eq_false_iff_ne]; exact h3
      clear HB
      go_wp2
      go_ret
      exact ⟨ret1b (by rw [HF.out]; rfl), rfl⟩

theorem width_pos (s : ByteArray) (pos : Nat) (h : pos < s.size) : 1 ≤ (Utf8.decode s pos).2 := by
  by_cases ha : (s[pos]'h).toNat < 128
  · rw [decode_ascii s pos h ha]
    exact Nat.le_refl _
  · exact (decode_high s pos h (by omega)).2

/-- Whether the runes from a place on may stand in a name. -/
def nmGo (s : ByteArray) : Nat → Nat → Bool
  | 0, _ => true
  | b + 1, pos => if pos < s.size then (letB (Utf8.decode s pos).1 || (!decide (pos = 0) && folB (Utf8.decode s pos).1)) && nmGo s b (pos + (Utf8.decode s pos).2) else true

theorem nmGo_end (s : ByteArray) (b pos : Nat) (h : ¬ pos < s.size) : nmGo s b pos = true := by
  cases b with
  | zero => rfl
  | succ b => simp [nmGo, h]

def nameB (B : Bool) (s : ByteArray) : Bool := !decide (s.size = 0) && (!decide (32 < s.size) && (B && nmGo s s.size 0))

theorem below_iter (w : World) (s : ByteArray) (pos : Nat) : Below w.heap.size w (w.iter s pos) := below_alloc _

set_option maxRecDepth 1000000 in
set_option maxHeartbeats 1600000 in
theorem isName_any (B : Bool) (s : ByteArray) (w : World) (hs : s.size ≤ 9223372036854775807) (hV : Calls Tryz.prog 113 #[.string s] w fun e w' => e = .returned (.bool B) ∧ Below w.heap.size w w') :
    Calls Tryz.prog 101 #[.string s] w fun e w' => e = .returned (.bool (nameB B s)) ∧ Below w.heap.size w w' := by
  have HV : Hid (Calls Tryz.prog 113 #[.string s] w fun e w' => e = .returned (.bool B) ∧ Below w.heap.size w w') := hV
  clear hV
  go_enter Tryz.func101, Tryz.ntmps101
  by_cases h0 : s.size = 0
  · have he : s.toList.isEmpty = true := by
      have hl : s.toList.length = 0 := by rw [← h0]; simp [ByteArray.toList_eq]
      rw [List.length_eq_zero_iff.mp hl]; rfl
    have HF : Hid (nameB B s = false) := by show _ = _; unfold nameB; rw [decide_eq_true h0]; rfl
    go_wp2
    go_ret
    exact ⟨ret1b HF.out.symm, Below.refl _ _⟩
  · have he : s.toList.isEmpty = false := by
      cases hl : s.toList with
      | nil => exact absurd (by have := congrArg List.length hl; simpa [ByteArray.toList_eq] using this) h0
      | cons a l => rfl
    by_cases h32 : 32 < s.size
    · have HF : Hid (nameB B s = false) := by show _ = _; unfold nameB; rw [decide_eq_true h32]; simp
      go_wp2
      go_ret
      exact ⟨ret1b HF.out.symm, Below.refl _ _⟩
    · go_wp2_with fail
      refine HV.out.mono ?_
      rintro e w1 ⟨rfl, hb1⟩
      have HB1 : Hid (Below w.heap.size w w1) := hb1
      clear hb1
      cases B
      · have HF : Hid (nameB false s = false) := by show _ = _; unfold nameB; simp
        go_wp2
        go_ret
        exact ⟨ret1b HF.out.symm, HB1.out⟩
      · have HF : Hid (nameB true s = nmGo s s.size 0) := by show _ = _; unfold nameB; rw [decide_eq_false h0, decide_eq_false h32]; rfl
        go_wp2
        go_loopw [] (fun w' => ∃ (pos b : Nat), w' = w1.iter s pos ∧ nmGo s s.size 0 = nmGo s b pos ∧ s.size ≤ pos + b) (fun w' => s.size - w'.iterPos w1.heap.size)
        case atStart => exact ⟨0, s.size, rfl, rfl, by omega⟩
        case round =>
          obtain ⟨pos, b, rfl, hc, hb⟩ := hrel
          have HC : Hid (nmGo s s.size 0 = nmGo s b pos) := hc
          clear hc
          by_cases hp : pos < s.size
          · have hnx : ∀ ty, (Instr.next (.pointer (some ⟨w1.heap.size, 0, none⟩)) true ty).run Tryz.prog (w1.iter s pos) = _ := fun ty => run_next_any w1 s pos ty hp
            have hwd := width_pos s pos hp
            obtain ⟨b', rfl⟩ : ∃ b', b = b' + 1 := ⟨b - 1, by omega⟩
            obtain ⟨r, hr⟩ : ∃ r : Nat, r = (Utf8.decode s pos).1 := ⟨_, rfl⟩
            obtain ⟨wd, hwd2⟩ : ∃ wd : Nat, wd = (Utf8.decode s pos).2 := ⟨_, rfl⟩
            have HS : Hid (nmGo s s.size 0 = ((letB (r : Int) || (!decide (pos = 0) && folB (r : Int))) && nmGo s b' (pos + wd))) := by
              show _ = _
              rw [HC.out, nmGo, if_pos hp, ← hr, ← hwd2]
            rw [← hwd2] at hwd
            have HFi : Hid (s.size ≤ pos + wd + b') := by show _ ≤ _; omega
            rw [← hr, ← hwd2] at hnx
            clear hr hwd2 HC
            go_wp2_with fail
            refine (isLetter_any (r : Int) _).mono ?_
            rintro e w9 ⟨rfl, hw9⟩
            have hw8 := hw9.symm
            subst hw8
            clear hw9 hnx
            cases hL : letB (r : Int)
            · by_cases hp0 : pos = 0
              · have HFF : Hid (nameB true s = false) := by show _ = _; rw [HF.out, HS.out, hL, decide_eq_true hp0]; rfl
                subst hp0
                go_wp2
                go_ret
                exact ⟨ret1b HFF.out.symm, below_step HB1.out (below_iter _ _ _)⟩
              · have hp0b : ((pos : Int) == 0) = false := by rw [beq_eq_false_iff_ne]; omega
                go_wp2_with fail
                refine (followsLetter_any (r : Int) _).mono ?_
                rintro e w9 ⟨rfl, hw9⟩
                have hw8 := hw9.symm
                subst hw8
                clear hw9
                cases hFo : folB (r : Int)
                · have HFF : Hid (nameB true s = false) := by show _ = _; rw [HF.out, HS.out, hL, hFo]; simp
                  go_wp2
                  go_ret
                  exact ⟨ret1b HFF.out.symm, below_step HB1.out (below_iter _ _ _)⟩
                · have HN : Hid (nmGo s s.size 0 = nmGo s b' (pos + wd)) := by show _ = _; rw [HS.out, hL, hFo, decide_eq_false hp0]; rfl
                  go_wp2
                  go_roundw
                  case rel => exact ⟨pos + wd, b', rfl, HN.out, HFi.out⟩
                  case measure => simp; omega
            · have HN : Hid (nmGo s s.size 0 = nmGo s b' (pos + wd)) := by show _ = _; rw [HS.out, hL]; rfl
              go_wp2
              go_roundw
              case rel => exact ⟨pos + wd, b', rfl, HN.out, HFi.out⟩
              case measure => simp; omega
          · have HFF : Hid (nameB true s = true) := by show _ = _; rw [HF.out, HC.out, nmGo_end s b pos hp]
            have hnx : ∀ ty, (Instr.next (.pointer (some ⟨w1.heap.size, 0, none⟩)) true ty).run Tryz.prog (w1.iter s pos) = _ := fun ty => run_next_end w1 s pos ty hp
            go_wp2
            go_ret
            exact ⟨ret1b HFF.out.symm, below_step HB1.out (below_iter _ _ _)⟩

end Go.Proofs.YtgpbnbmjgcchfaaGreatDoor
