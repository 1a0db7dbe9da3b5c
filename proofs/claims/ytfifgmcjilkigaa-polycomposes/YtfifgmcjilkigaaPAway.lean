/- What lies away from some blocks; rows of monomials that alias older ones. -/
import Derived.Test.YtfifgmcjilkigaaPCopyW
namespace Go.Proofs.Ytfifgmcjilkigaa
open Go.RowKit Go.Maps

/-- The world with nothing in the blocks outside of A. -/
def only (A : Nat → Bool) (w : World) : World := { w with heap := w.heap.mapIdx fun g o => if A g then o else .cells #[] 0 }

theorem only_size (A : Nat → Bool) (w : World) : (only A w).heap.size = w.heap.size := by simp [only]

theorem only_block {A : Nat → Bool} {w : World} {g : Nat} (h : A g = true) : (only A w).heap[g]? = w.heap[g]? := by
  simp only [only, Array.getElem?_mapIdx, h, if_true]
  cases w.heap[g]? <;> rfl

theorem only_not {A : Nat → Bool} {w : World} {a : Addr} (h : ¬ A a.block = true) : (only A w).cell? a = none := by
  have hf : A a.block = false := by simpa using h
  unfold World.cell?
  simp only [only, Array.getElem?_mapIdx]
  cases w.heap[a.block]? with
  | none => rfl
  | some o => simp [hf]

theorem only_cell {A : Nat → Bool} {w : World} {a : Addr} (h : A a.block = true) : (only A w).cell? a = w.cell? a := by
  unfold World.cell?
  rw [only_block h]

theorem only_kp (A : Nat → Bool) (w : World) : Kp (only A w) w := by
  refine ⟨by rw [only_size]; exact Nat.le_refl _, fun a v hv => ?_⟩
  by_cases h : A a.block = true
  · rw [only_cell h] at hv
    exact hv
  · rw [only_not h] at hv
    cases hv

/-- All blocks of A are as they were. -/
theorem only_step {A : Nat → Bool} {w w' : World} (hs : w.heap.size ≤ w'.heap.size) (h : ∀ g, g < w.heap.size → A g = true → w'.heap[g]? = w.heap[g]?) : Kp (only A w) (only A w') := by
  refine ⟨by rw [only_size, only_size]; exact hs, fun a v hv => ?_⟩
  by_cases hA : A a.block = true
  · have hlt := World.block_lt_of_cell? _ _ hv
    rw [only_size] at hlt
    rw [only_cell hA] at hv ⊢
    rw [World.cell?_of_block (h _ hlt hA)]
    exact hv
  · rw [only_not hA] at hv
    cases hv

theorem only_below {A : Nat → Bool} {w w' : World} (h : Below w.heap.size w w') : Kp (only A w) (only A w') := only_step h.size fun g hg _ => h.block g hg

/-- What is older than all that A leaves out. -/
theorem only_old {A : Nat → Bool} {w : World} (h : ∀ g, g < w.heap.size → A g = true) : Kp w (only A w) := by
  refine ⟨by rw [only_size]; exact Nat.le_refl _, fun a v hv => ?_⟩
  rw [only_cell (h _ (World.block_lt_of_cell? _ _ hv))]
  exact hv

theorem only_owns {A : Nat → Bool} {w : World} {base : Nat} {e : TypeId} {s n : Nat} {v : Value} {xs : List Value} (h : w.ownsRow base e s v n xs) (hA : ∀ g, base ≤ g → A g = true) : (only A w).ownsRow base e s v n xs := by
  refine ⟨h.1, ?_⟩
  rcases h.2 with h | ⟨g, cap, cur, hv, hb, hg, r⟩
  · exact .inl h
  · exact .inr ⟨g, cap, cur, hv, hb, by rw [only_block (hA g hb)]; exact hg, r⟩

/-- Monomials in a row of the call's own, whose rows are older ones (as the world w0 holds them) or, of limbs, the call's own. -/
def OL (w0 w : World) (base : Nat) (v : Value) (p : List Mn) : Prop :=
  ∃ cs : List (Value × Value), cs.length = p.length ∧ (∀ (i : Nat) (c : Value × Value) (m : Mn), cs[i]? = some c → p[i]? = some m → (Sl w0 c.1 m.1 ∨ Ow w base c.1 m.1) ∧ Is w0 c.2 m.2) ∧
    w.ownsRow base 46 2 v p.length (cs.flatMap fun c => [c.1, c.2])

theorem OL.empty {w0 w : World} {base : Nat} (hb : base ≤ w.heap.size) : OL w0 (w.alloc (.cells #[] 46)) base (.slice (some ⟨w.heap.size, 0, none⟩) 0 0) [] :=
  ⟨[], rfl, fun i c m h => (by simp at h), rfl, .inr ⟨w.heap.size, 0, #[], rfl, hb, heap_alloc_new _ _, Nat.le_refl _, Nat.zero_le _, rfl, rfl⟩⟩

theorem OL.later {w0 w w' : World} {base : Nat} {v : Value} {p : List Mn} (h : OL w0 w base v p) (hb : Below w.heap.size w w') : OL w0 w' base v p := by
  obtain ⟨cs, hl, hc, ho⟩ := h
  refine ⟨cs, hl, fun i c m h1 h2 => ⟨?_, (hc i c m h1 h2).2⟩, ownsRow_later ho hb⟩
  rcases (hc i c m h1 h2).1 with h | h
  · exact .inl h
  · exact .inr (h.since hb)

theorem OL.slice {w0 w : World} {base : Nat} {v : Value} {p : List Mn} (h : OL w0 w base v p) : ∃ ao cap, v = .slice ao p.length cap ∧ p.length ≤ cap ∧ cap ≤ maxLen := by
  obtain ⟨cs, hl, hc, ho⟩ := h
  rcases ho.2 with ⟨rfl, hn⟩ | ⟨g, cap, cur, rfl, _, _, hc, hm, _⟩
  · exact ⟨_, 0, by rw [hn], by omega, Nat.zero_le _⟩
  · exact ⟨_, cap, rfl, hc, hm⟩

theorem OL.snoc {w0 w w' : World} {base : Nat} {v v' : Value} {p : List Mn} {cs : List (Value × Value)} {cv ev : Value} {m : Mn} {row : Option Nat}
    (hl : cs.length = p.length) (hc : ∀ (i : Nat) (c : Value × Value) (m : Mn), cs[i]? = some c → p[i]? = some m → (Sl w0 c.1 m.1 ∨ Ow w base c.1 m.1) ∧ Is w0 c.2 m.2) (ho : w.ownsRow base 46 2 v p.length (cs.flatMap fun c => [c.1, c.2]))
    (h1 : Sl w0 cv m.1 ∨ Ow w base cv m.1) (h2 : Is w0 ev m.2) (ho' : w'.ownsRow base 46 2 v' (p.length + 1) ((cs.flatMap fun c => [c.1, c.2]) ++ [cv, ev])) (hg : w.grownBy w' row) (hr : row = v.ownBlock) :
    OL w0 w' base v' (p ++ [m]) := by
  subst hr
  refine ⟨cs ++ [(cv, ev)], by simp [hl], fun i c q hi hq => ?_, by simpa using ho'⟩
  have k1 : ∀ {u : Value} {xs : List Nat}, Sl w0 u xs ∨ Ow w base u xs → Sl w0 u xs ∨ Ow w' base u xs := fun h => by
    rcases h with h | h
    · exact .inl h
    · exact .inr (h.held hg (ownsRow_apart h.2 ho (by decide)))
  by_cases hi2 : i < cs.length
  · rw [List.getElem?_append_left hi2] at hi
    rw [List.getElem?_append_left (by omega)] at hq
    exact ⟨k1 (hc i c q hi hq).1, (hc i c q hi hq).2⟩
  · rw [List.getElem?_append_right (by omega)] at hi
    rw [List.getElem?_append_right (by omega)] at hq
    have e0 : i - cs.length = 0 := by
      have := (List.getElem?_eq_some_iff.1 hi).1
      simp at this
      omega
    rw [e0] at hi
    rw [← hl, e0] at hq
    simp only [List.getElem?_cons_zero, Option.some.injEq] at hi hq
    subst hi
    subst hq
    exact ⟨k1 h1, h2⟩

/-- What such a row reads. -/
theorem OL.ms {A : Nat → Bool} {w0 w : World} {base : Nat} {v : Value} {p : List Mn} (h : OL w0 w base v p) (hk : Kp w0 (only A w)) (hA : ∀ g, base ≤ g → A g = true) : Ms (only A w) v p := by
  obtain ⟨cs, hl, hc, ho⟩ := h
  have ho2 := only_owns ho hA
  rcases ho2.2 with ⟨rfl, hn⟩ | ⟨g, cap, cur, rfl, hb, hg, hcap, hm, hs, ht⟩
  · exact ⟨none, 0, by rw [hn], by omega, by simp [maxLen], by omega⟩
  · refine ⟨_, cap, rfl, hcap, hm, fun _ => ⟨g, 0, rfl, (Array.getElem?_eq_some_iff.1 hg).1, ?_⟩⟩
    intro k m hk'
    have hlt : k < p.length := (List.getElem?_eq_some_iff.1 hk').1
    have hck : cs[k]? = some cs[k] := List.getElem?_eq_getElem (by omega)
    obtain ⟨h1, h2⟩ := flat2_get hck
    obtain ⟨o1, o2⟩ := hc k _ m hck hk'
    have o1' : Sl (only A w) cs[k].1 m.1 := by
      rcases o1 with h | h
      · exact h.kp hk
      · exact Ow.sl (⟨h.1, only_owns h.2 hA⟩ : Ow (only A w) base cs[k].1 m.1)
    refine ⟨cs[k].1, cs[k].2, ?_, ?_, o1', o2.kp hk⟩
    · rw [Nat.zero_add, World.ownsRow.cellAt ho2 (k * 2) (by omega)]
      obtain ⟨ha, hb'⟩ := List.getElem?_eq_some_iff.1 h1
      simp [← hb']
    · rw [Nat.zero_add, World.ownsRow.cellAt ho2 (k * 2 + 1) (by omega)]
      obtain ⟨ha, hb'⟩ := List.getElem?_eq_some_iff.1 h2
      simp [← hb']

end Go.Proofs.Ytfifgmcjilkigaa
