/- Rows of numbers that a call owns. -/
import Derived.Test.YtfifgmcjilkigaaPBase
import Derived.Test.YtfifgmcjilkigaaSum
namespace Go.Proofs.Ytfifgmcjilkigaa
open Go.RowKit

def I64 (x : Int) : Value := .int .i64 x

def ZI (xs : List Int) : Prop := ∀ (k : Nat) (x : Int), xs[k]? = some x → -9223372036854775808 ≤ x ∧ x ≤ 9223372036854775807

/-- The slice value v is the call's own (blocks from base on), at the head of its row, and holds the numbers xs. -/
def OwI (w : World) (base : Nat) (v : Value) (xs : List Int) : Prop := ZI xs ∧ w.ownsRow base 3 1 v xs.length (xs.map I64)

theorem OwI.is {w : World} {base : Nat} {v : Value} {xs : List Int} (h : OwI w base v xs) : Is w v xs := by
  have h2 := h.2
  rcases h2.2 with ⟨rfl, hn⟩ | ⟨g, cap, cur, rfl, hb, hg, hc, hm, hs, ht⟩
  · exact ⟨none, 0, by rw [hn], by omega, by simp [maxLen], by omega⟩
  · refine ⟨_, cap, rfl, hc, hm, fun _ => ⟨g, 0, rfl, (Array.getElem?_eq_some_iff.1 hg).1, ?_⟩⟩
    intro k x hk
    have hlt : k < xs.length := (List.getElem?_eq_some_iff.1 hk).1
    refine ⟨(h.1 k x hk).1, (h.1 k x hk).2, ?_⟩
    rw [Nat.zero_add, Nat.mul_one, World.ownsRow.cellAt h2 k (by omega)]
    simp [hk, I64]

theorem OwI.kept {w w' : World} {base : Nat} {v : Value} {xs : List Int} {row : Option Nat} (h : OwI w base v xs) (hg : w.grownBy w' row) (hr : v.ownBlock = none ∨ v.ownBlock ≠ row) : OwI w' base v xs := by
  refine ⟨h.1, h.2.1, ?_⟩
  rcases h.2.2 with h | ⟨g, cap, cur, rfl, hb, hgg, r⟩
  · exact .inl h
  · refine .inr ⟨g, cap, cur, rfl, hb, (hg.block g (Array.getElem?_eq_some_iff.1 hgg).1 ?_).trans hgg, r⟩
    rcases hr with hr | hr
    · cases hr
    · exact hr

theorem OwI.later {w w' : World} {base : Nat} {v : Value} {xs : List Int} (h : OwI w base v xs) (hb : Below w.heap.size w w') : OwI w' base v xs :=
  h.kept (row := none) ⟨hb.os, hb.tape, hb.output, hb.size, fun k hk _ => hb.block k hk⟩ (by cases hv : v.ownBlock <;> simp)

theorem OwI.mono {w : World} {base b' : Nat} {v : Value} {xs : List Int} (h : OwI w base v xs) (hb : b' ≤ base) : OwI w b' v xs := by
  refine ⟨h.1, h.2.1, ?_⟩
  rcases h.2.2 with h | ⟨g, cap, cur, rfl, hg, r⟩
  · exact .inl h
  · exact .inr ⟨g, cap, cur, rfl, Nat.le_trans hb hg, r⟩

theorem made_zero64 (n : Nat) : (madeCells (Value.int .i64 0).cells (n * 1)).toList = (List.replicate n (0 : Int)).map I64 := by
  have : (Value.int .i64 0).cells = #[Value.int .i64 0] := rfl
  rw [this, toList_madeCells_one]
  simp [I64]

theorem OwI.made {w : World} {base n : Nat} {v : Value} (h : w.ownsRow base 3 1 v n (madeCells (Value.int .i64 0).cells (n * 1)).toList) : OwI w base v (List.replicate n 0) := by
  rw [made_zero64] at h
  refine ⟨?_, by simpa using h⟩
  intro k x hk
  rw [List.getElem?_replicate] at hk
  split at hk
  · cases hk; omega
  · cases hk

theorem Ow.held {w w' : World} {base : Nat} {v : Value} {xs : List Nat} {row : Option Nat} (h : Ow w base v xs) (hg : w.grownBy w' row) (hne : v.ownBlock = none ∨ v.ownBlock ≠ row) : Ow w' base v xs := ⟨h.1, h.2.kept hg hne⟩

theorem Ow.since {w w' : World} {base : Nat} {v : Value} {xs : List Nat} (h : Ow w base v xs) (hb : Below w.heap.size w w') : Ow w' base v xs :=
  h.held (row := none) ⟨hb.os, hb.tape, hb.output, hb.size, fun k hk _ => hb.block k hk⟩ (by cases hv : v.ownBlock <;> simp)

theorem OwI.at {w : World} {base g n cap : Nat} {xs : List Int} (h : OwI w base (.slice (some ⟨g, 0, none⟩) n cap) xs) {k : Nat} {x : Int} (hk : xs[k]? = some x) :
    w.cell? ⟨g, k, none⟩ = some (.int .i64 x) ∧ w.frozen? ⟨g, k, none⟩ = false := by
  have h2 := h.2
  rcases h2.2 with ⟨hv, hn⟩ | ⟨g', cap', cur, hv, hb, hg, hc, hm, hs, ht⟩
  · cases hv
  · simp only [Value.slice.injEq, Option.some.injEq, Addr.mk.injEq, and_true] at hv
    obtain ⟨rfl, rfl, rfl⟩ := hv
    have hlt : k < xs.length := (List.getElem?_eq_some_iff.1 hk).1
    have h3 := h2
    refine ⟨?_, World.ownsRow.frozenAt h3 k⟩
    rw [World.ownsRow.cellAt h3 k (by omega)]
    simp [hk, I64]

theorem OwI.put {w w0 : World} {base g n cap B : Nat} {xs : List Int} (h : OwI w base (.slice (some ⟨g, 0, none⟩) n cap) xs) (hb : Below B w0 w) (hB : B ≤ g) (hn : n = xs.length) {k : Nat} {z : Int} (hz : -9223372036854775808 ≤ z ∧ z ≤ 9223372036854775807) {ys : List Int} (hys : xs.set k z = ys) :
    OwI (w.setCell ⟨g, k, none⟩ (.int .i64 z)) base (.slice (some ⟨g, 0, none⟩) n cap) ys ∧ Below B w0 (w.setCell ⟨g, k, none⟩ (.int .i64 z)) := by
  subst hys
  subst hn
  have hs := World.ownsRow.stored h.2 k (.int .i64 z)
  refine ⟨⟨?_, ?_⟩, hb.setCell (p := ⟨g, k, none⟩) hB _⟩
  · intro j y hy
    rw [List.getElem?_set] at hy
    split at hy
    · split at hy
      · cases hy; exact hz
      · cases hy
    · exact h.1 j y hy
  · have h1 := hs.1
    rw [List.length_set, List.map_set]
    exact h1

theorem Ow.slice {w : World} {base : Nat} {v : Value} {xs : List Nat} (h : Ow w base v xs) : ∃ ao n cap, v = .slice ao n cap := by
  rcases h.2.2 with ⟨rfl, hn⟩ | ⟨g, cap, cur, rfl, _⟩
  · exact ⟨_, _, _, rfl⟩
  · exact ⟨_, _, _, rfl⟩

theorem OwI.shape {w : World} {base : Nat} {v : Value} {xs : List Int} (h : OwI w base v xs) : ∃ ao cap, v = .slice ao xs.length cap ∧ xs.length ≤ cap ∧ cap ≤ maxLen := by
  rcases h.2.2 with ⟨rfl, hn⟩ | ⟨g, cap, cur, rfl, hb, hg, hc, hm, hs, ht⟩
  · exact ⟨none, 0, by rw [hn], by omega, by simp [maxLen]⟩
  · exact ⟨_, cap, rfl, hc, hm⟩

/-- The slice value v is the call's own and holds the monomials p, whose rows are the call's own too. -/
def OM (w : World) (base : Nat) (v : Value) (p : List Mn) : Prop :=
  ∃ cs : List (Value × Value), cs.length = p.length ∧ (∀ (i : Nat) (c : Value × Value) (m : Mn), cs[i]? = some c → p[i]? = some m → Ow w base c.1 m.1 ∧ OwI w base c.2 m.2) ∧
    w.ownsRow base 46 2 v p.length (cs.flatMap fun c => [c.1, c.2])

theorem flat2_get {cs : List (Value × Value)} : ∀ {i : Nat} {c : Value × Value}, cs[i]? = some c → (cs.flatMap fun c => [c.1, c.2])[i * 2]? = some c.1 ∧ (cs.flatMap fun c => [c.1, c.2])[i * 2 + 1]? = some c.2 := by
  induction cs with
  | nil => intro i c h; simp at h
  | cons a r ih =>
    intro i c h
    cases i with
    | zero => simp at h; subst h; simp
    | succ i =>
      rw [List.getElem?_cons_succ] at h
      obtain ⟨h1, h2⟩ := ih h
      rw [List.flatMap_cons]
      refine ⟨?_, ?_⟩
      · rw [show (i + 1) * 2 = i * 2 + 1 + 1 by omega]; simpa using h1
      · rw [show (i + 1) * 2 + 1 = i * 2 + 1 + 1 + 1 by omega]; simpa using h2

theorem OM.ms {w : World} {base : Nat} {v : Value} {p : List Mn} (h : OM w base v p) : Ms w v p := by
  obtain ⟨cs, hl, hc, ho⟩ := h
  have ho2 := ho
  rcases ho2.2 with ⟨rfl, hn⟩ | ⟨g, cap, cur, rfl, hb, hg, hcap, hm, hs, ht⟩
  · exact ⟨none, 0, by rw [hn], by omega, by simp [maxLen], by omega⟩
  · refine ⟨_, cap, rfl, hcap, hm, fun _ => ⟨g, 0, rfl, (Array.getElem?_eq_some_iff.1 hg).1, ?_⟩⟩
    intro k m hk
    have hlt : k < p.length := (List.getElem?_eq_some_iff.1 hk).1
    have hck : cs[k]? = some cs[k] := List.getElem?_eq_getElem (by omega)
    obtain ⟨h1, h2⟩ := flat2_get hck
    obtain ⟨o1, o2⟩ := hc k _ m hck hk
    refine ⟨cs[k].1, cs[k].2, ?_, ?_, o1.sl, o2.is⟩
    · rw [Nat.zero_add, World.ownsRow.cellAt ho2 (k * 2) (by omega)]
      have := (List.getElem?_eq_some_iff.1 h1)
      obtain ⟨ha, hb'⟩ := this
      simp [← hb']
    · rw [Nat.zero_add, World.ownsRow.cellAt ho2 (k * 2 + 1) (by omega)]
      have := (List.getElem?_eq_some_iff.1 h2)
      obtain ⟨ha, hb'⟩ := this
      simp [← hb']

theorem OM.nil (w : World) (base : Nat) : OM w base (.slice none 0 0) [] := ⟨[], rfl, fun i c m h => (by simp at h), World.ownsRow_nil _ _ _ _⟩

theorem OM.slice {w : World} {base : Nat} {v : Value} {p : List Mn} (h : OM w base v p) : ∃ ao cap, v = .slice ao p.length cap := by
  obtain ⟨cs, hl, hc, ho⟩ := h
  rcases ho.2 with ⟨rfl, hn⟩ | ⟨g, cap, cur, rfl, _⟩
  · exact ⟨_, 0, by rw [hn]⟩
  · exact ⟨_, cap, rfl⟩

theorem OM.later {w w' : World} {base : Nat} {v : Value} {p : List Mn} (h : OM w base v p) (hb : Below w.heap.size w w') : OM w' base v p := by
  obtain ⟨cs, hl, hc, ho⟩ := h
  refine ⟨cs, hl, fun i c m h1 h2 => ⟨(hc i c m h1 h2).1.since hb, (hc i c m h1 h2).2.later hb⟩, ?_⟩
  exact World.ownsRow.kept (row := none) ho ⟨hb.os, hb.tape, hb.output, hb.size, fun k hk _ => hb.block k hk⟩ (by cases hv : v.ownBlock <;> simp)

theorem info_int : (Try.prog.info? 3).map (fun i => (i.zero, i.size, i.bytes)) = some (some (.int .i64 0), 1, 8) := by kernel_rfl
theorem under_ints : Try.prog.underlying 44 = some (.slice 3) := by kernel_rfl
theorem info_mono : (Try.prog.info? 46).map (fun i => (i.zero, i.size, i.bytes)) = some (some (.agg #[.slice none 0 0, .slice none 0 0]), 2, 48) := by kernel_rfl
theorem under_monos : Try.prog.underlying 22 = some (.slice 46) := by kernel_rfl

end Go.Proofs.Ytfifgmcjilkigaa
