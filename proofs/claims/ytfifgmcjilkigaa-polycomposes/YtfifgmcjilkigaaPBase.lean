/- Rows of monomials and rows of rows in memory, as they are read. -/
import Derived.Test.YtfifgmcjilkigaaBase
import Derived.Test.YtfifgmcjilkigaaPNum
namespace Go.Proofs.Ytfifgmcjilkigaa
open Go.RowKit

/-- Every cell that could be read reads as it did. -/
structure Kp (w w' : World) : Prop where
  size : w.heap.size ≤ w'.heap.size
  cell : ∀ (a : Addr) (v : Value), w.cell? a = some v → w'.cell? a = some v

theorem Kp.refl (w : World) : Kp w w := ⟨Nat.le_refl _, fun _ _ h => h⟩
theorem Kp.trans {a b c : World} (h : Kp a b) (k : Kp b c) : Kp a c := ⟨Nat.le_trans h.size k.size, fun x v hx => k.cell x v (h.cell x v hx)⟩
theorem Kp.of_below {w w' : World} (h : Below w.heap.size w w') : Kp w w' :=
  ⟨h.size, fun a _ hv => (h.cell (World.block_lt_of_cell? w a hv)).trans hv⟩
theorem Kp.drewN (w : World) (n : Nat) : Kp w (w.drewN n) := ⟨Nat.le_refl _, fun _ _ h => h⟩

theorem Sl.kp {w w' : World} {v : Value} {xs : List Nat} (h : Sl w v xs) (hk : Kp w w') : Sl w' v xs := by
  obtain ⟨hl, ao, cap, rfl, hc, hm, hx⟩ := h
  refine ⟨hl, ao, cap, rfl, hc, hm, fun h0 => ?_⟩
  obtain ⟨g, off, rfl, hg, hx⟩ := hx h0
  exact ⟨g, off, rfl, Nat.lt_of_lt_of_le hg hk.size, fun k x he => hk.cell _ _ (hx k x he)⟩

/-- A slice that is read, element by element: E says what stands at an address. -/
def Row {α : Type} (E : World → Nat → Nat → α → Prop) (sz : Nat) (w : World) (v : Value) (xs : List α) : Prop :=
  ∃ ao cap, v = .slice ao xs.length cap ∧ xs.length ≤ cap ∧ cap ≤ maxLen ∧
    (0 < xs.length → ∃ g off, ao = some ⟨g, off, none⟩ ∧ g < w.heap.size ∧ ∀ (k : Nat) (x : α), xs[k]? = some x → E w g (off + k * sz) x)

theorem Row.imp {α : Type} {E : World → Nat → Nat → α → Prop} {sz : Nat} {w w' : World} {v : Value} {xs : List α} (h : Row E sz w v xs) (hs : w.heap.size ≤ w'.heap.size) (hE : ∀ g o x, E w g o x → E w' g o x) : Row E sz w' v xs := by
  obtain ⟨ao, cap, rfl, hc, hm, hx⟩ := h
  refine ⟨ao, cap, rfl, hc, hm, fun h0 => ?_⟩
  obtain ⟨g, off, rfl, hg, hx⟩ := hx h0
  exact ⟨g, off, rfl, Nat.lt_of_lt_of_le hg hs, fun k x he => hE _ _ _ (hx k x he)⟩

theorem Row.flat {α : Type} {E : World → Nat → Nat → α → Prop} {sz : Nat} {w : World} {v : Value} {xs : List α} (h : Row E sz w v xs) : ∃ ao cap, v = .slice ao xs.length cap ∧ xs.length ≤ cap ∧ cap ≤ maxLen ∧
    ∀ k : Nat, k < xs.length → ∃ g off x, ao = some ⟨g, off, none⟩ ∧ xs[k]? = some x ∧ E w g (off + k * sz) x := by
  obtain ⟨ao, cap, rfl, hc, hm, hx⟩ := h
  refine ⟨ao, cap, rfl, hc, hm, fun k hk => ?_⟩
  obtain ⟨g, off, rfl, hg, hx⟩ := hx (by omega)
  exact ⟨g, off, xs[k], rfl, List.getElem?_eq_getElem hk, hx k _ (List.getElem?_eq_getElem hk)⟩

/-- A number at an address. -/
def EI (w : World) (g o : Nat) (x : Int) : Prop := -9223372036854775808 ≤ x ∧ x ≤ 9223372036854775807 ∧ w.cell? ⟨g, o, none⟩ = some (.int .i64 x)

theorem EI.kp {w w' : World} (hk : Kp w w') (g o : Nat) (x : Int) (h : EI w g o x) : EI w' g o x := ⟨h.1, h.2.1, hk.cell _ _ h.2.2⟩

/-- A row of numbers. -/
def Is (w : World) (v : Value) (xs : List Int) : Prop := Row EI 1 w v xs
theorem Is.kp {w w' : World} {v : Value} {xs : List Int} (h : Is w v xs) (hk : Kp w w') : Is w' v xs := Row.imp h hk.size (EI.kp hk)

/-- A monomial's two rows. -/
def Mo (w : World) (cv ev : Value) (m : Mn) : Prop := Sl w cv m.1 ∧ Is w ev m.2
theorem Mo.kp {w w' : World} {cv ev : Value} {m : Mn} (h : Mo w cv ev m) (hk : Kp w w') : Mo w' cv ev m := ⟨h.1.kp hk, h.2.kp hk⟩

/-- A monomial at an address. -/
def EM (w : World) (g o : Nat) (m : Mn) : Prop := ∃ cv ev, w.cell? ⟨g, o, none⟩ = some cv ∧ w.cell? ⟨g, o + 1, none⟩ = some ev ∧ Mo w cv ev m
theorem EM.kp {w w' : World} (hk : Kp w w') (g o : Nat) (m : Mn) (h : EM w g o m) : EM w' g o m := by
  obtain ⟨cv, ev, h1, h2, h3⟩ := h
  exact ⟨cv, ev, hk.cell _ _ h1, hk.cell _ _ h2, h3.kp hk⟩

/-- A row of monomials. -/
def Ms (w : World) (v : Value) (p : List Mn) : Prop := Row EM 2 w v p
theorem Ms.kp {w w' : World} {v : Value} {p : List Mn} (h : Ms w v p) (hk : Kp w w') : Ms w' v p := Row.imp h hk.size (EM.kp hk)

/-- A row at an address. -/
def EV {β : Type} (R : World → Value → β → Prop) (w : World) (g o : Nat) (x : β) : Prop := ∃ u, w.cell? ⟨g, o, none⟩ = some u ∧ R w u x

/-- Rows of limbs; rows of monomials. -/
def Rs (w : World) (v : Value) (xs : List (List Nat)) : Prop := Row (EV Sl) 1 w v xs
theorem Rs.kp {w w' : World} {v : Value} {xs : List (List Nat)} (h : Rs w v xs) (hk : Kp w w') : Rs w' v xs :=
  Row.imp h hk.size (fun _ _ _ ⟨u, h1, h2⟩ => ⟨u, hk.cell _ _ h1, h2.kp hk⟩)

def Ps (w : World) (v : Value) (xs : List (List Mn)) : Prop := Row (EV Ms) 1 w v xs
theorem Ps.kp {w w' : World} {v : Value} {xs : List (List Mn)} (h : Ps w v xs) (hk : Kp w w') : Ps w' v xs :=
  Row.imp h hk.size (fun _ _ _ ⟨u, h1, h2⟩ => ⟨u, hk.cell _ _ h1, h2.kp hk⟩)

theorem below_alloc {w : World} (o : Obj) : Below w.heap.size w (w.alloc o) := (Below.refl _ _).alloc (Nat.le_refl _) o

theorem below_step {a b c : World} (h : Below a.heap.size a b) (k : Below b.heap.size b c) : Below a.heap.size a c := h.trans (k.mono h.size)

theorem Row.len {α : Type} {E : World → Nat → Nat → α → Prop} {sz : Nat} {w : World} {ao : Option Addr} {n cap : Nat} {xs : List α} (h : Row E sz w (.slice ao n cap) xs) : n = xs.length := by
  obtain ⟨ao', cap', hv, _⟩ := h
  simp only [Value.slice.injEq] at hv
  exact hv.2.1

theorem Row.nil {α : Type} {E : World → Nat → Nat → α → Prop} {sz : Nat} {w : World} {ao : Option Addr} {cap : Nat} (hc : cap ≤ maxLen) : Row E sz w (.slice ao 0 cap) ([] : List α) :=
  ⟨ao, cap, rfl, Nat.zero_le _, hc, fun h => absurd h (by simp)⟩

theorem Ms.at {w : World} {ao : Option Addr} {n cap : Nat} {p : List Mn} (h : Ms w (.slice ao n cap) p) {k : Nat} (hk : k < p.length) :
    ∃ g off c es a1 c1 a2 c2, ao = some ⟨g, off, none⟩ ∧ p[k]? = some (c, es) ∧ w.cell? ⟨g, off + k * 2, none⟩ = some (.slice a1 c.length c1) ∧ w.cell? ⟨g, off + k * 2 + 1, none⟩ = some (.slice a2 es.length c2) ∧
      Mo w (.slice a1 c.length c1) (.slice a2 es.length c2) (c, es) ∧ c.length ≤ c1 ∧ c1 ≤ 9223372036854775807 ∧ es.length ≤ c2 ∧ c2 ≤ 9223372036854775807 := by
  obtain ⟨ao', cap', hv, _, _, hx⟩ := Row.flat h
  simp only [Value.slice.injEq] at hv
  obtain ⟨rfl, rfl, rfl⟩ := hv
  obtain ⟨g, off, ⟨c, es⟩, rfl, hm, cv, ev, h0, h1, hmo⟩ := hx k hk
  obtain ⟨a1, c1, hcv, hc1, hc2, _⟩ := hmo.1.flat
  obtain ⟨a2, c2, hev, he1, he2, _⟩ := Row.flat hmo.2
  simp only at hcv hev hc1 he1
  subst hcv; subst hev
  unfold maxLen at hc2 he2
  exact ⟨g, off, c, es, a1, c1, a2, c2, rfl, hm, h0, h1, hmo, hc1, by omega, he1, by omega⟩

theorem Ps.at {w : World} {ao : Option Addr} {n cap : Nat} {ps : List (List Mn)} (h : Ps w (.slice ao n cap) ps) {k : Nat} (hk : k < ps.length) :
    ∃ g off p a1 c1, ao = some ⟨g, off, none⟩ ∧ ps[k]? = some p ∧ w.cell? ⟨g, off + k, none⟩ = some (.slice a1 p.length c1) ∧ Ms w (.slice a1 p.length c1) p ∧ p.length ≤ c1 ∧ c1 ≤ 9223372036854775807 := by
  obtain ⟨ao', cap', hv, _, _, hx⟩ := Row.flat h
  simp only [Value.slice.injEq] at hv
  obtain ⟨rfl, rfl, rfl⟩ := hv
  obtain ⟨g, off, p, rfl, hm, u, h0, hmo⟩ := hx k hk
  obtain ⟨a1, c1, rfl, hc1, hc2, _⟩ := Row.flat hmo
  unfold maxLen at hc2
  rw [Nat.mul_one] at h0
  exact ⟨g, off, p, a1, c1, rfl, hm, h0, hmo, hc1, by omega⟩

theorem Rs.at {w : World} {ao : Option Addr} {n cap : Nat} {ps : List (List Nat)} (h : Rs w (.slice ao n cap) ps) {k : Nat} (hk : k < ps.length) :
    ∃ g off p a1 c1, ao = some ⟨g, off, none⟩ ∧ ps[k]? = some p ∧ w.cell? ⟨g, off + k, none⟩ = some (.slice a1 p.length c1) ∧ Sl w (.slice a1 p.length c1) p ∧ p.length ≤ c1 ∧ c1 ≤ 9223372036854775807 := by
  obtain ⟨ao', cap', hv, _, _, hx⟩ := Row.flat h
  simp only [Value.slice.injEq] at hv
  obtain ⟨rfl, rfl, rfl⟩ := hv
  obtain ⟨g, off, p, rfl, hm, u, h0, hmo⟩ := hx k hk
  obtain ⟨a1, c1, rfl, hc1, hc2, _⟩ := hmo.flat
  unfold maxLen at hc2
  rw [Nat.mul_one] at h0
  exact ⟨g, off, p, a1, c1, rfl, hm, h0, hmo, hc1, by omega⟩

theorem Is.at {w : World} {ao : Option Addr} {n cap : Nat} {es : List Int} (h : Is w (.slice ao n cap) es) {k : Nat} (hk : k < es.length) :
    ∃ g off x, ao = some ⟨g, off, none⟩ ∧ es[k]? = some x ∧ w.cell? ⟨g, off + k, none⟩ = some (.int .i64 x) ∧ -9223372036854775808 ≤ x ∧ x ≤ 9223372036854775807 := by
  obtain ⟨ao', cap', hv, _, _, hx⟩ := Row.flat h
  simp only [Value.slice.injEq] at hv
  obtain ⟨rfl, rfl, rfl⟩ := hv
  obtain ⟨g, off, x, rfl, hm, h1, h2, h3⟩ := hx k hk
  rw [Nat.mul_one] at h3
  exact ⟨g, off, x, rfl, hm, h3, h1, h2⟩

/-- A variable of two cells, just laid, behind a call. -/
theorem box2 {w w1 : World} {c e : Value} {t : TypeId} (hb : Below (w.alloc (.cells #[c, e] t)).heap.size (w.alloc (.cells #[c, e] t)) w1) :
    w1.cell? ⟨w.heap.size, 0, none⟩ = some c ∧ w1.cell? ⟨w.heap.size, 1, none⟩ = some e ∧ Below w.heap.size w w1 := by
  refine ⟨?_, ?_, below_step (below_alloc _) hb⟩
  · rw [hb.cell (by simp)]; simp
  · rw [hb.cell (by simp)]; simp

theorem Ms.len {w : World} {ao : Option Addr} {n cap : Nat} {p : List Mn} (h : Ms w (.slice ao n cap) p) : n = p.length := Row.len h

end Go.Proofs.Ytfifgmcjilkigaa
