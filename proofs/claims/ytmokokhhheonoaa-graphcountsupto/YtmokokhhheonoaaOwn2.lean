/- Texts of the proof, one behind the other. -/
import Derived.Test.YtmokokhhheonoaaOwn1
import Derived.Shelf.Abstract
import Derived.Deep.DeepAppendRoom
import Derived.BigRegion
import Derived.Sort.WalkB12
import Derived.Lib.SlicesMore
import Derived.Lib.Walk
import Derived.Deep.LoopGhost
import Derived.Lib.ValidLaws
import Derived.Stop.FmtQuoteTie
import Derived.Laws.Runes
import Derived.RangeFuncNested
import Derived.RangeFuncBound
import Derived.RangeFuncCalls
import Derived.RangeFuncLeaves
import Derived.RangeFuncBox
import Derived.Shelf.RegionOpen
import Derived.OwnWalkIn
import Derived.TacticsInMore
import Derived.LoopNIn
import Derived.LoopIn
import Derived.Sort.QuietTacIn
import Derived.Sort.CutIn
import Derived.Deep.Slices
import Derived.Ground.NamesProg
import Derived.Shelf.Sort.Plain
import Derived.Shelf.Slices.In.SortNone
import Derived.Sort.OwnSortedInts
/- What Canon answers. -/
namespace Go.Proofs.Ytmokokhhheonoaa
open Go.RowKit Go.Maps

def ER (w : World) (g o : Nat) (x : List Int) : Prop := x.length * 8 ≤ 140737488351232 ∧ ∃ u, w.cell? ⟨g, o, none⟩ = some u ∧ Is w u x
theorem ER.kp {w w' : World} (hk : Kp w w') (g o : Nat) (x : List Int) (h : ER w g o x) : ER w' g o x := by
  obtain ⟨h0, u, h1, h2⟩ := h
  exact ⟨h0, u, hk.cell _ _ h1, h2.kp hk⟩

/-- A list of rows. -/
def Rs (w : World) (v : Value) (l : List (List Int)) : Prop := Row ER 1 w v l
theorem Rs.kp {w w' : World} {v : Value} {l : List (List Int)} (h : Rs w v l) (hk : Kp w w') : Rs w' v l := Row.imp h hk.size (ER.kp hk)

theorem Rs.at {w : World} {ao : Option Addr} {n cap : Nat} {l : List (List Int)} (h : Rs w (.slice ao n cap) l) {k : Nat} (hk : k < l.length) :
    ∃ g off a t c, ao = some ⟨g, off, none⟩ ∧ l[k]? = some t ∧ w.cell? ⟨g, off + k, none⟩ = some (.slice a t.length c) ∧ Is w (.slice a t.length c) t ∧ t.length * 8 ≤ 140737488351232 := by
  obtain ⟨ao', cap', hv, _, _, hx⟩ := Row.flat h
  simp only [Value.slice.injEq] at hv
  obtain ⟨rfl, rfl, rfl⟩ := hv
  obtain ⟨g, off, t, rfl, hm, h3, v, h5, h6⟩ := hx k hk
  obtain ⟨a, c, rfl, _⟩ := Row.flat h6
  rw [Nat.mul_one] at h5
  exact ⟨g, off, a, t, c, rfl, hm, h5, h6, h3⟩

/-- Rows of one's own, by their values. -/
def OwR (w : World) (base : Nat) (vs : List Value) (l : List (List Int)) : Prop := vs.length = l.length ∧ ∀ (j : Nat) (u : Value) (x : List Int), vs[j]? = some u → l[j]? = some x → OwI w base u x

theorem info_ints : (Try.prog.info? 26).map (fun i => (i.zero, i.size, i.bytes)) = some (some (.slice none 0 0), 1, 24) := by kernel_rfl
theorem under_rows : Try.prog.underlying 22 = some (.slice 26) := by kernel_rfl

theorem made_nilS (n : Nat) : (madeCells (Value.slice none 0 0).cells (n * 1)).toList = List.replicate n (.slice none 0 0) := by
  have : (Value.slice none 0 0).cells = #[Value.slice none 0 0] := rfl
  rw [this, toList_madeCells_one, Nat.mul_one]

end Go.Proofs.Ytmokokhhheonoaa

/- Literal rows in memory. -/
namespace Go.Proofs.Ytmokokhhheonoaa
open Go.RowKit Go.Maps Go.BigFrame

theorem is_new (w : World) (xs : List Int) (t : TypeId) (hz : ∀ x ∈ xs, -9223372036854775808 ≤ x ∧ x ≤ 9223372036854775807) (hl : xs.length ≤ 1000) : Is (w.alloc (.cells (xs.map I64).toArray t)) (.slice (some ⟨w.heap.size, 0, none⟩) xs.length xs.length) xs := by
  refine ⟨some ⟨w.heap.size, 0, none⟩, xs.length, rfl, Nat.le_refl _, by unfold maxLen; omega, fun _ => ⟨w.heap.size, 0, rfl, by simp, fun k x hk => ?_⟩⟩
  refine ⟨(hz x (List.mem_of_getElem? hk)).1, (hz x (List.mem_of_getElem? hk)).2, ?_⟩
  rw [Nat.mul_one, Nat.zero_add, cell_of_row _ _ _ _ _ _ (heap_alloc_new _ _)]
  simp [hk, I64]

theorem cell_new {w : World} {t : TypeId} {vs : Array Value} {k : Nat} {v : Value} (hv : vs[k]? = some v) : (w.alloc (.cells vs t)).cell? ⟨w.heap.size, k, none⟩ = some v := by
  rw [cell_of_row _ _ _ _ _ _ (heap_alloc_new _ _)]
  simpa using hv

end Go.Proofs.Ytmokokhhheonoaa

/- The calls of the examples. -/
namespace Go.Proofs.Ytmokokhhheonoaa
open Go.RowKit Go.Maps Go.BigFrame

theorem b0 {w : World} : Below w.heap.size w w := Below.refl _ _
theorem b1 {w w' : World} {o : Obj} (h : Below w.heap.size w w') : Below w.heap.size w (w'.alloc o) := below_step h (below_alloc o)

end Go.Proofs.Ytmokokhhheonoaa

/- Lists of rows: of one's own, held against each other, joined. -/
namespace Go.Proofs.Ytmokokhhheonoaa
open Go.RowKit Go.Maps Go.BigFrame

theorem rs_of_own {w : World} {base b2 : Nat} {v : Value} {vs : List Value} {l : List (List Int)} (h : w.ownsRow base 26 1 v l.length vs) (hr : OwR w b2 vs l) (hl : ∀ t ∈ l, t.length * 8 ≤ 140737488351232) : Rs w v l := by
  have h2 := h
  rcases h2.2 with ⟨rfl, hn⟩ | ⟨g, cap, cur, rfl, hb, hg, hc, hm, hs, ht⟩
  · obtain rfl := List.eq_nil_of_length_eq_zero hn
    exact Row.nil (by simp [maxLen])
  · refine ⟨_, cap, rfl, hc, hm, fun _ => ⟨g, 0, rfl, (Array.getElem?_eq_some_iff.1 hg).1, fun k t hk => ?_⟩⟩
    have hlt : k < l.length := (List.getElem?_eq_some_iff.1 hk).1
    obtain ⟨u, hu⟩ : ∃ u, vs[k]? = some u := ⟨_, List.getElem?_eq_getElem (by rw [hr.1]; exact hlt)⟩
    refine ⟨hl t (List.mem_of_getElem? hk), u, ?_, (hr.2 k u t hu hk).is⟩
    rw [Nat.zero_add, Nat.mul_one, World.ownsRow.cellAt h k (by omega)]
    exact hu

theorem join_row (ty : TypeId) {w : World} {base n : Nat} {x u : Value} {vs : List Value} (ho : w.ownsRow base 26 1 x n vs) (hb : base ≤ w.heap.size) (hl : (n + 1) * 24 ≤ 140737488355328) (hu : u.oneCell' = true) :
    ∃ v' w', (Builtin.append_ #[22, 22] ty #[x, .slice (some ⟨w.heap.size, 0, none⟩) 1 1]).run Try.prog (w.alloc (.cells #[u] 26)) = .ok v' w' ∧ w'.ownsRow base 26 1 v' (n + 1) (vs ++ [u]) ∧ (w.alloc (.cells #[u] 26)).grownBy w' x.ownBlock := by
  obtain ⟨i1, hi1, hy0, hy1, hy2⟩ := info_parts info_ints
  obtain ⟨v', w', hr, h2, h3, _, _⟩ := run_append_own_at (P := Try.prog) (w.alloc (.cells #[u] 26)) base 22 ty 26 i1 _ 1 24 under_rows hi1 hy0 hy1 hy2 rfl (by decide) x n vs (ownsRow_later ho (below_alloc _)) ⟨w.heap.size, 0, none⟩ 1 1 [u] rfl
    (fun j y hj => by
      rw [Addr.add_lit, Nat.zero_add]
      cases j with
      | zero =>
        simp at hj
        subst hj
        exact cell_new rfl
      | succ j => simp at hj) (fun y hy => by simp at hy; subst hy; exact hu) (by unfold maxLen; omega) (by omega) (Nat.le_trans hb (below_alloc _).size)
  exact ⟨v', w', hr, h2, h3⟩

end Go.Proofs.Ytmokokhhheonoaa

/- Rows that are spoilt; rows of one's own that lie apart. -/
namespace Go.Proofs.Ytmokokhhheonoaa
open Go.RowKit Go.Maps Go.BigFrame

/-- Slices that lie in unlike blocks. -/
def Dis (v u : Value) : Prop := ∀ g, v.ownBlock = some g → u.ownBlock ≠ some g

theorem Dis.symm {v u : Value} (h : Dis v u) : Dis u v := fun g h1 h2 => h g h2 h1

theorem Dis.keep {v u : Value} (h : Dis v u) : v.ownBlock = none ∨ v.ownBlock ≠ u.ownBlock := by
  cases hv : v.ownBlock with
  | none => exact .inl rfl
  | some g => exact .inr fun e => h g hv e.symm

theorem own_blk_lt {w : World} {base : Nat} {e : TypeId} {s m j : Nat} {v : Value} {xs : List Value} (h : w.ownsRow base e s v m xs) (hj : v.ownBlock = some j) : j < w.heap.size := by
  rcases h.2 with ⟨rfl, _⟩ | ⟨g', cap, cur, rfl, hb, hg, _⟩
  · cases hj
  · cases hj
    exact (Array.getElem?_eq_some_iff.1 hg).1

/-- A number joined to a row of one's own, with what becomes of its block. -/
theorem join_one (ty : TypeId) {w : World} {base : Nat} {x : Value} {xs : List Int} {c : Int} (ho : OwI w base x xs) (h1 : -9223372036854775808 ≤ c) (h2 : c ≤ 9223372036854775807) (hb : base ≤ w.heap.size) (hl : (xs.length + 1) * 8 ≤ 140737488355328) :
    ∃ v' w', (Builtin.append_ #[26, 26] ty #[x, .slice (some ⟨w.heap.size, 0, none⟩) 1 1]).run Try.prog (w.alloc (.cells #[.int .i64 c] 3)) = .ok v' w' ∧ OwI w' base v' (xs ++ [c]) ∧ (w.alloc (.cells #[.int .i64 c] 3)).grownBy w' x.ownBlock ∧ (v'.ownBlock = x.ownBlock ∨ v'.ownBlock = some (w.alloc (.cells #[.int .i64 c] 3)).heap.size) := by
  obtain ⟨i0, hi, hz0, hz1, hz2⟩ := info_parts info_int
  obtain ⟨v', w', hr, g2, g3, _, g5⟩ := run_append_own_at (P := Try.prog) (w.alloc (.cells #[.int .i64 c] 3)) base 26 ty 3 i0 _ 1 8 under_ints hi hz0 hz1 hz2 rfl (by decide) x xs.length (xs.map I64) (ownsRow_later ho.2 (below_alloc _)) ⟨w.heap.size, 0, none⟩ 1 1 [I64 c] rfl
    (fun j u hj => by
      rw [Addr.add_lit, Nat.zero_add]
      cases j with
      | zero => simp at hj; subst hj; exact cell_new rfl
      | succ j => simp at hj) (fun u hu => by simp at hu; subst hu; rfl) (by unfold maxLen; omega) (by omega) (Nat.le_trans hb (below_alloc _).size)
  refine ⟨v', w', hr, ⟨fun k y hk => ?_, ?_⟩, g3, g5⟩
  · by_cases hkl : k < xs.length
    · rw [List.getElem?_append_left hkl] at hk
      exact ho.1 k y hk
    · rw [List.getElem?_append_right (by omega)] at hk
      have hk0 : k - xs.length = 0 := by
        have := (List.getElem?_eq_some_iff.1 hk).1
        simp at this
        omega
      rw [hk0] at hk
      simp at hk
      subst hk
      exact ⟨h1, h2⟩
  · rw [List.length_append, List.map_append]
    exact g2

end Go.Proofs.Ytmokokhhheonoaa

/- The search of package graph in memory. -/
namespace Go.Proofs.Ytmokokhhheonoaa
open Go.RowKit Go.Maps Go.BigFrame

def natL (xs : List Nat) : List Int := xs.map fun (x : Nat) => (x : Int)

def rngI (n : Nat) (A : Nat → Int) : List Int := (List.range n).map A

def rngN (n : Nat) (g : Nat → Nat) : List Int := (List.range n).map fun i => ((g i : Nat) : Int)

theorem natL_len (xs : List Nat) : (natL xs).length = xs.length := by simp [natL]

theorem rngI_len (n : Nat) (A : Nat → Int) : (rngI n A).length = n := by simp [rngI]

theorem rngN_len (n : Nat) (g : Nat → Nat) : (rngN n g).length = n := by simp [rngN]

theorem natL_get {xs : List Nat} {k x : Nat} (h : xs[k]? = some x) : (natL xs)[k]? = some (x : Int) := by simp [natL, h]

theorem natL_take (xs : List Nat) (k : Nat) : (natL xs).take k = natL (xs.take k) := by simp [natL]

theorem natL_snoc (xs : List Nat) (x : Nat) : natL (xs ++ [x]) = natL xs ++ [(x : Int)] := by simp [natL]

theorem rngI_get {n k : Nat} (A : Nat → Int) (h : k < n) : (rngI n A)[k]? = some (A k) := by simp [rngI, h]

theorem rngN_get {n k : Nat} (g : Nat → Nat) (h : k < n) : (rngN n g)[k]? = some ((g k : Nat) : Int) := by simp [rngN, h]

theorem rngI_set (n k : Nat) (A : Nat → Int) (v : Int) : (rngI n A).set k v = rngI n (updI A k v) := by
  apply List.ext_getElem?
  intro i
  by_cases h : i < n
  · rw [rngI_get _ h]
    by_cases e : i = k
    · subst e
      rw [updI_same, List.getElem?_set_self (by rw [rngI_len]; exact h)]
    · rw [updI_ne _ _ e, List.getElem?_set_ne (fun h => e h.symm), rngI_get _ h]
  · rw [List.getElem?_eq_none (by rw [List.length_set, rngI_len]; omega), List.getElem?_eq_none (by rw [rngI_len]; omega)]

theorem rngN_eq (n : Nat) (g : Nat → Nat) : rngN n g = rngI n fun i => ((g i : Nat) : Int) := rfl

theorem rngN_set (n k : Nat) (g : Nat → Nat) (v : Nat) : (rngN n g).set k (v : Int) = rngN n (updN g k v) := by
  rw [rngN_eq, rngI_set, rngN_eq]
  congr 1
  funext i
  unfold updI updN
  split <;> rfl

theorem own_ne {w : World} {base b n : Nat} {e t : TypeId} {s : Nat} {v : Value} {xs : List Value} {cs : Array Value} {fr : Nat × Nat} (h : w.ownsRow base e s v n xs) (hb : w.heap[b]? = some (.cells cs t fr)) (hne : t ≠ e) : v.ownBlock ≠ some b := by
  rcases h.2 with ⟨rfl, _⟩ | ⟨g, cap, cur, rfl, _, hg, _⟩
  · simp [Value.ownBlock]
  · intro e2
    cases e2
    rw [hb] at hg
    simp only [Option.some.injEq, Obj.cells.injEq] at hg
    exact hne hg.2.1

theorem ownsRow_kept {w w' : World} {base n : Nat} {e : TypeId} {s : Nat} {v : Value} {xs : List Value} {row : Option Nat} (h : w.ownsRow base e s v n xs) (hg : w.grownBy w' row) (hr : v.ownBlock = none ∨ v.ownBlock ≠ row) : w'.ownsRow base e s v n xs := by
  refine ⟨h.1, ?_⟩
  rcases h.2 with h | ⟨g, cap, cur, rfl, hb, hgg, r⟩
  · exact .inl h
  · refine .inr ⟨g, cap, cur, rfl, hb, (hg.block g (Array.getElem?_eq_some_iff.1 hgg).1 ?_).trans hgg, r⟩
    rcases hr with hr | hr
    · cases hr
    · exact hr

/-- Rows of numbers of one's own, each in a block of its own. -/
structure Owns (w : World) (base : Nat) (l : List (Value × List Int)) : Prop where
  own : ∀ (i : Nat) (v : Value) (xs : List Int), l[i]? = some (v, xs) → OwI w base v xs
  dis : ∀ (i j : Nat) (v u : Value) (xs ys : List Int), i ≠ j → l[i]? = some (v, xs) → l[j]? = some (u, ys) → Dis v u

theorem Owns.step {w w' : World} {base i : Nat} {l : List (Value × List Int)} {v v' : Value} {xs xs' : List Int} (h : Owns w base l) (hi : l[i]? = some (v, xs)) (hg : w.grownBy w' v.ownBlock) (ho : OwI w' base v' xs')
    (hb : v'.ownBlock = v.ownBlock ∨ ∃ m, v'.ownBlock = some m ∧ w.heap.size ≤ m) : Owns w' base (l.set i (v', xs')) := by
  have hil := (List.getElem?_eq_some_iff.1 hi).1
  have fresh : ∀ (j : Nat) (u : Value) (ys : List Int), i ≠ j → l[j]? = some (u, ys) → Dis v' u := fun j u ys hij hj => by
    rcases hb with hb | ⟨m, hm, hle⟩
    · intro g hg2 hu
      rw [hb] at hg2
      exact h.dis i j v u xs ys hij hi hj g hg2 hu
    · intro g hg2 hu
      rw [hm] at hg2
      cases hg2
      have := own_blk_lt (h.own j u ys hj).2 hu
      omega
  have get : ∀ (j : Nat) (u : Value) (ys : List Int), (l.set i (v', xs'))[j]? = some (u, ys) → (i = j ∧ u = v' ∧ ys = xs') ∨ (i ≠ j ∧ l[j]? = some (u, ys)) := fun j u ys hj => by
    by_cases e : i = j
    · subst e
      rw [List.getElem?_set_self hil] at hj
      simp only [Option.some.injEq, Prod.mk.injEq] at hj
      exact .inl ⟨rfl, hj.1.symm, hj.2.symm⟩
    · rw [List.getElem?_set_ne e] at hj
      exact .inr ⟨e, hj⟩
  refine ⟨fun j u ys hj => ?_, fun j k u t ys zs hjk hj hk => ?_⟩
  · rcases get j u ys hj with ⟨_, rfl, rfl⟩ | ⟨hij, hj⟩
    · exact ho
    · exact (h.own j u ys hj).kept hg (h.dis j i u v ys xs (fun e => hij e.symm) hj hi).keep
  · rcases get j u ys hj with ⟨e1, e2, _⟩ | ⟨hij, hj2⟩
    · rcases get k t zs hk with ⟨e3, _, _⟩ | ⟨_, hk2⟩
      · exact absurd (e1.symm.trans e3) hjk
      · rw [e2]; exact fresh k t zs (by rw [e1]; exact hjk) hk2
    · rcases get k t zs hk with ⟨_, e2, _⟩ | ⟨_, hk2⟩
      · rw [e2]; exact (fresh j u ys hij hj2).symm
      · exact h.dis j k u t ys zs hjk hj2 hk2

theorem Owns.later {w w' : World} {base : Nat} {l : List (Value × List Int)} (h : Owns w base l) (hb : Below w.heap.size w w') : Owns w' base l :=
  ⟨fun i v xs hi => (h.own i v xs hi).later hb, h.dis⟩

theorem Owns.kept {w w' : World} {base b : Nat} {l : List (Value × List Int)} {cs : Array Value} {t : TypeId} {fr : Nat × Nat} (h : Owns w base l) (hg : w.grownBy w' (some b)) (hb : w.heap[b]? = some (.cells cs t fr)) (hne : t ≠ 3) : Owns w' base l :=
  ⟨fun i v xs hi => (h.own i v xs hi).kept hg (.inr (own_ne (h.own i v xs hi).2 hb hne)), h.dis⟩

/-- A fresh row more. -/
theorem Owns.snoc {w w' : World} {base : Nat} {l : List (Value × List Int)} {v : Value} {xs : List Int} (h : Owns w base l) (hb : Below w.heap.size w w') (ho : OwI w' w.heap.size v xs) (hbs : base ≤ w.heap.size) : Owns w' base (l ++ [(v, xs)]) := by
  have hl := h.later hb
  have fr : ∀ (j : Nat) (u : Value) (ys : List Int), l[j]? = some (u, ys) → Dis v u := fun j u ys hj g h1 h2 => by
    have := own_blk ho.2 h1
    have := own_blk_lt (h.own j u ys hj).2 h2
    omega
  have get : ∀ (i : Nat) (u : Value) (ys : List Int), (l ++ [(v, xs)])[i]? = some (u, ys) → l[i]? = some (u, ys) ∨ (i = l.length ∧ u = v ∧ ys = xs) := fun i u ys hi => by
    by_cases hil : i < l.length
    · rw [List.getElem?_append_left hil] at hi
      exact .inl hi
    · rw [List.getElem?_append_right (by omega)] at hi
      rcases e : i - l.length with _ | k
      · rw [e] at hi; simp at hi; exact .inr ⟨by omega, hi.1.symm, hi.2.symm⟩
      · rw [e] at hi; simp at hi
  refine ⟨fun i u ys hi => ?_, fun i j u t ys zs hij hi hj => ?_⟩
  · rcases get i u ys hi with hi | ⟨_, rfl, rfl⟩
    · exact hl.own i u ys hi
    · exact ho.mono hbs
  · rcases get i u ys hi with hi2 | ⟨e1, e2, _⟩
    · rcases get j t zs hj with hj2 | ⟨_, e4, _⟩
      · exact h.dis i j u t ys zs hij hi2 hj2
      · rw [e4]; exact (fr i u ys hi2).symm
    · rcases get j t zs hj with hj2 | ⟨e3, _, _⟩
      · rw [e2]; exact fr j t zs hj2
      · omega

/-- A row cut to its first elements. -/
theorem OwI.head {w : World} {base g n cap m : Nat} {xs : List Int} (h : OwI w base (.slice (some ⟨g, 0, none⟩) n cap) xs) (hm : m ≤ xs.length) : OwI w base (.slice (some ⟨g, 0, none⟩) m cap) (xs.take m) := by
  have hl : (xs.take m).length = m := by rw [List.length_take]; omega
  refine ⟨fun k x hk => h.1 k x ?_, ?_⟩
  · rw [List.getElem?_take] at hk
    split at hk
    · exact hk
    · cases hk
  · rw [hl]
    rcases h.2.2 with ⟨hv, _⟩ | ⟨g', cap', cur, hv, hb, hg, hc, hmx, hs, ht⟩
    · cases hv
    · simp only [Value.slice.injEq, Option.some.injEq, Addr.mk.injEq, and_true] at hv
      obtain ⟨rfl, rfl, rfl⟩ := hv
      refine ⟨by rw [List.length_map, hl, Nat.mul_one], .inr ⟨g, cap, cur, rfl, hb, hg, by omega, hmx, hs, ?_⟩⟩
      rw [Nat.mul_one] at ht ⊢
      rw [List.map_take, ← ht, List.take_take, Nat.min_eq_left hm]

/-- Blocks of one cell that stay. -/
def Fx (F : List (Nat × Value × TypeId)) (w : World) : Prop := ∀ x, x ∈ F → w.heap[x.1]? = some (.cells #[x.2.1] x.2.2) ∧ x.2.2 ≠ 3 ∧ x.2.2 ≠ 26 ∧ x.2.2 ≠ 38

theorem Fx.later {F : List (Nat × Value × TypeId)} {w w' : World} (h : Fx F w) (hb : Below w.heap.size w w') : Fx F w' := fun x hx => by
  obtain ⟨h1, h2⟩ := h x hx
  exact ⟨(hb.block _ (Array.getElem?_eq_some_iff.1 h1).1).trans h1, h2⟩

theorem Fx.grown {F : List (Nat × Value × TypeId)} {w w' : World} {base n : Nat} {e : TypeId} {sz : Nat} {v : Value} {xs : List Value} (h : Fx F w) (ho : w.ownsRow base e sz v n xs) (he : e = 3 ∨ e = 26) (hg : w.grownBy w' v.ownBlock) : Fx F w' := fun x hx => by
  obtain ⟨h1, h2, h3, h4⟩ := h x hx
  refine ⟨(hg.block _ (Array.getElem?_eq_some_iff.1 h1).1 (fun e2 => own_ne ho h1 (by rcases he with rfl | rfl; exact h2; exact h3) e2.symm)).trans h1, h2, h3, h4⟩

theorem Fx.put {F : List (Nat × Value × TypeId)} {w : World} {b : Nat} {cs : Array Value} (h : Fx F w) (hb : w.heap[b]? = some (.cells cs 38)) (k : Nat) (u : Value) : Fx F (w.setCell ⟨b, k, none⟩ u) := fun x hx => by
  obtain ⟨h1, h2, h3, h4⟩ := h x hx
  refine ⟨((set_grown w b k u).block _ (Array.getElem?_eq_some_iff.1 h1).1 (fun e => ?_)).trans h1, h2, h3, h4⟩
  cases e
  rw [hb] at h1
  simp only [Option.some.injEq, Obj.cells.injEq] at h1
  exact h4 h1.2.1.symm

/-- What the walk has found, in memory: the block of the search, its rows. -/
structure SM (F : List (Nat × Value × TypeId)) (w0 w : World) (b n : Nat) (s : Sr) (gv opv atv lev gov pav psv : Value) (vs : List Value) : Prop where
  bel : Below w0.heap.size w0 w
  bb : w0.heap.size ≤ b
  blk : w.heap[b]? = some (.cells #[gv, opv, atv, lev, gov, pav, psv] 38)
  own : Owns w w0.heap.size ([(opv, natL s.op), (atv, rngI n s.A), (lev, rngI n s.L), (gov, rngN n s.g), (pav, natL s.pa)] ++ vs.zip (s.ps.map natL))
  row : w.ownsRow w0.heap.size 26 1 psv s.ps.length vs
  len : vs.length = s.ps.length
  fx : Fx F w

theorem ty_search : (38 : TypeId) ≠ 3 ∧ (38 : TypeId) ≠ 26 := by decide

theorem SM.later {F : List (Nat × Value × TypeId)} {w0 w w' : World} {b n : Nat} {s : Sr} {gv opv atv lev gov pav psv : Value} {vs : List Value} (h : SM F w0 w b n s gv opv atv lev gov pav psv vs) (hb : Below w.heap.size w w') : SM F w0 w' b n s gv opv atv lev gov pav psv vs :=
  ⟨below_step h.bel hb, h.bb, (hb.block b (Array.getElem?_eq_some_iff.1 h.blk).1).trans h.blk, h.own.later hb, ownsRow_later h.row hb, h.len, h.fx.later hb⟩

/-- What else stays where a block of numbers of one's own is written or left. -/
theorem SM.rest {F : List (Nat × Value × TypeId)} {w0 w w' : World} {b n : Nat} {s : Sr} {gv opv atv lev gov pav psv : Value} {vs : List Value} (h : SM F w0 w b n s gv opv atv lev gov pav psv vs) {v : Value} {xs : List Int} (ho : OwI w w0.heap.size v xs) (hg : w.grownBy w' v.ownBlock) :
    Below w0.heap.size w0 w' ∧ w'.heap[b]? = some (.cells #[gv, opv, atv, lev, gov, pav, psv] 38) ∧ w'.ownsRow w0.heap.size 26 1 psv s.ps.length vs ∧ Fx F w' :=
  ⟨h.bel.grown hg h.bel.size (fun k hk => own_blk ho.2 hk), (hg.block b (Array.getElem?_eq_some_iff.1 h.blk).1 (fun e => own_ne ho.2 h.blk ty_search.1 e.symm)).trans h.blk, ownsRow_kept h.row hg (ownsRow_apart h.row ho.2 (by decide)), h.fx.grown ho.2 (.inl rfl) hg⟩

theorem SM.setA {F : List (Nat × Value × TypeId)} {w0 w : World} {b n ga ca k : Nat} {s : Sr} {gv opv lev gov pav psv : Value} {vs : List Value} (h : SM F w0 w b n s gv opv (.slice (some ⟨ga, 0, none⟩) n ca) lev gov pav psv vs) {v : Int} (hv : -9223372036854775808 ≤ v ∧ v ≤ 9223372036854775807) :
    SM F w0 (w.setCell ⟨ga, k, none⟩ (.int .i64 v)) b n { s with A := updI s.A k v } gv opv (.slice (some ⟨ga, 0, none⟩) n ca) lev gov pav psv vs := by
  have ho := h.own.own 1 _ _ rfl
  have hp := ho.put h.bel (own_blk ho.2 rfl) (rngI_len _ _).symm hv (rngI_set n k s.A v)
  obtain ⟨h1, h2, h3, h4⟩ := h.rest ho (set_grown w ga k (.int .i64 v))
  exact ⟨h1, h.bb, h2, h.own.step (i := 1) rfl (set_grown w ga k (.int .i64 v)) hp.1 (.inl rfl), h3, h.len, h4⟩

theorem SM.setL {F : List (Nat × Value × TypeId)} {w0 w : World} {b n ga ca k : Nat} {s : Sr} {gv opv atv gov pav psv : Value} {vs : List Value} (h : SM F w0 w b n s gv opv atv (.slice (some ⟨ga, 0, none⟩) n ca) gov pav psv vs) {v : Int} (hv : -9223372036854775808 ≤ v ∧ v ≤ 9223372036854775807) :
    SM F w0 (w.setCell ⟨ga, k, none⟩ (.int .i64 v)) b n { s with L := updI s.L k v } gv opv atv (.slice (some ⟨ga, 0, none⟩) n ca) gov pav psv vs := by
  have ho := h.own.own 2 _ _ rfl
  have hp := ho.put h.bel (own_blk ho.2 rfl) (rngI_len _ _).symm hv (rngI_set n k s.L v)
  obtain ⟨h1, h2, h3, h4⟩ := h.rest ho (set_grown w ga k (.int .i64 v))
  exact ⟨h1, h.bb, h2, h.own.step (i := 2) rfl (set_grown w ga k (.int .i64 v)) hp.1 (.inl rfl), h3, h.len, h4⟩

theorem SM.setG {F : List (Nat × Value × TypeId)} {w0 w : World} {b n ga ca k : Nat} {s : Sr} {gv opv atv lev pav psv : Value} {vs : List Value} (h : SM F w0 w b n s gv opv atv lev (.slice (some ⟨ga, 0, none⟩) n ca) pav psv vs) {v : Nat} (hv : (v : Int) ≤ 9223372036854775807) :
    SM F w0 (w.setCell ⟨ga, k, none⟩ (.int .i64 (v : Int))) b n { s with g := updN s.g k v } gv opv atv lev (.slice (some ⟨ga, 0, none⟩) n ca) pav psv vs := by
  have ho := h.own.own 3 _ _ rfl
  have hp := ho.put h.bel (own_blk ho.2 rfl) (rngN_len _ _).symm ⟨by omega, hv⟩ (rngN_set n k s.g v)
  obtain ⟨h1, h2, h3, h4⟩ := h.rest ho (set_grown w ga k (.int .i64 (v : Int)))
  exact ⟨h1, h.bb, h2, h.own.step (i := 3) rfl (set_grown w ga k (.int .i64 (v : Int))) hp.1 (.inl rfl), h3, h.len, h4⟩

/-- A field of the search is written. -/
theorem SM.field {F : List (Nat × Value × TypeId)} {w0 w : World} {b : Nat} {gv opv atv lev gov pav psv gv' opv' atv' lev' gov' pav' psv' : Value} {vs : List Value} {l : List (Value × List Int)} {m : Nat} (hbel : Below w0.heap.size w0 w) (hbb : w0.heap.size ≤ b) (hblk : w.heap[b]? = some (.cells #[gv, opv, atv, lev, gov, pav, psv] 38))
    (ho : Owns w w0.heap.size l) (hr : w.ownsRow w0.heap.size 26 1 psv' m vs) (hfx : Fx F w) (k : Nat) (x : Value) (he : (#[gv, opv, atv, lev, gov, pav, psv] : Array Value).setIfInBounds k x = #[gv', opv', atv', lev', gov', pav', psv']) :
    Below w0.heap.size w0 (w.setCell ⟨b, k, none⟩ x) ∧ (w.setCell ⟨b, k, none⟩ x).heap[b]? = some (.cells #[gv', opv', atv', lev', gov', pav', psv'] 38) ∧ Owns (w.setCell ⟨b, k, none⟩ x) w0.heap.size l ∧ (w.setCell ⟨b, k, none⟩ x).ownsRow w0.heap.size 26 1 psv' m vs ∧ Fx F (w.setCell ⟨b, k, none⟩ x) := by
  refine ⟨hbel.setCell (p := ⟨b, k, none⟩) hbb x, ?_, ho.kept (set_grown w b k x) hblk ty_search.1, ownsRow_kept hr (set_grown w b k x) (.inr (own_ne hr hblk ty_search.2)), hfx.put hblk k x⟩
  rw [heap_setCell_same w b k _ _ _ hblk, he]

theorem SM.cutPa {F : List (Nat × Value × TypeId)} {w0 w : World} {b n g c m : Nat} {s : Sr} {gv opv atv lev gov psv : Value} {vs : List Value} (h : SM F w0 w b n s gv opv atv lev gov (.slice (some ⟨g, 0, none⟩) s.pa.length c) psv vs) (hm : m ≤ s.pa.length) :
    SM F w0 (w.setCell ⟨b, 5, none⟩ (.slice (some ⟨g, 0, none⟩) m c)) b n { s with pa := s.pa.take m } gv opv atv lev gov (.slice (some ⟨g, 0, none⟩) m c) psv vs := by
  have ho := h.own.own 4 _ _ rfl
  have hc := ho.head (m := m) (by rw [natL_len]; exact hm)
  rw [natL_take] at hc
  have hs := h.own.step (i := 4) rfl (World.grownBy.refl w _) hc (.inl rfl)
  obtain ⟨h1, h2, h3, h4, h5⟩ := SM.field h.bel h.bb h.blk hs h.row h.fx 5 (.slice (some ⟨g, 0, none⟩) m c) rfl
  exact ⟨h1, h.bb, h2, h3, h4, h.len, h5⟩

theorem SM.cutOp {F : List (Nat × Value × TypeId)} {w0 w : World} {b n g c m : Nat} {s : Sr} {gv atv lev gov pav psv : Value} {vs : List Value} (h : SM F w0 w b n s gv (.slice (some ⟨g, 0, none⟩) s.op.length c) atv lev gov pav psv vs) (hm : m ≤ s.op.length) :
    SM F w0 (w.setCell ⟨b, 1, none⟩ (.slice (some ⟨g, 0, none⟩) m c)) b n { s with op := s.op.take m } gv (.slice (some ⟨g, 0, none⟩) m c) atv lev gov pav psv vs := by
  have ho := h.own.own 0 _ _ rfl
  have hc := ho.head (m := m) (by rw [natL_len]; exact hm)
  rw [natL_take] at hc
  have hs := h.own.step (i := 0) rfl (World.grownBy.refl w _) hc (.inl rfl)
  obtain ⟨h1, h2, h3, h4, h5⟩ := SM.field h.bel h.bb h.blk hs h.row h.fx 1 (.slice (some ⟨g, 0, none⟩) m c) rfl
  exact ⟨h1, h.bb, h2, h3, h4, h.len, h5⟩

/-- A node joined to the open ones: what the append gives, and the state behind the store. -/
theorem SM.pushOp (ty : TypeId) {F : List (Nat × Value × TypeId)} {w0 w : World} {b n x : Nat} {s : Sr} {gv opv atv lev gov pav psv : Value} {vs : List Value} (h : SM F w0 w b n s gv opv atv lev gov pav psv vs) (hx : (x : Int) ≤ 9223372036854775807) (hl : (s.op.length + 1) * 8 ≤ 140737488355328) :
    ∃ v' w', (Builtin.append_ #[26, 26] ty #[opv, .slice (some ⟨w.heap.size, 0, none⟩) 1 1]).run Try.prog (w.alloc (.cells #[.int .i64 (x : Int)] 3)) = .ok v' w' ∧ w'.heap[b]? = some (.cells #[gv, opv, atv, lev, gov, pav, psv] 38) ∧
      (∃ a m c, v' = .slice a m c) ∧ SM F w0 (w'.setCell ⟨b, 1, none⟩ v') b n { s with op := s.op ++ [x] } gv v' atv lev gov pav psv vs := by
  have ho := h.own.own 0 _ _ rfl
  have h' := h.later (below_alloc (.cells #[.int .i64 (x : Int)] 3))
  obtain ⟨v', w', hr, h1, h2, h3⟩ := join_one ty ho (c := (x : Int)) (by omega) hx h.bel.size (by rw [natL_len]; exact hl)
  rw [← natL_snoc] at h1
  obtain ⟨a1, a2, a3, a4⟩ := h'.rest (h'.own.own 0 _ _ rfl) h2
  have hs := h'.own.step (i := 0) rfl h2 h1 (by
    rcases h3 with h3 | h3
    · exact .inl h3
    · exact .inr ⟨_, h3, Nat.le_refl _⟩)
  obtain ⟨b1, b2, b3, b4, b5⟩ := SM.field a1 h.bb a2 hs a3 a4 1 v' rfl
  obtain ⟨ao, cap, hv, _⟩ := h1.shape
  exact ⟨v', w', hr, a2, ⟨_, _, _, hv⟩, b1, h.bb, b2, b3, b4, h.len, b5⟩

theorem SM.pushPa (ty : TypeId) {F : List (Nat × Value × TypeId)} {w0 w : World} {b n x : Nat} {s : Sr} {gv opv atv lev gov pav psv : Value} {vs : List Value} (h : SM F w0 w b n s gv opv atv lev gov pav psv vs) (hx : (x : Int) ≤ 9223372036854775807) (hl : (s.pa.length + 1) * 8 ≤ 140737488355328) :
    ∃ v' w', (Builtin.append_ #[26, 26] ty #[pav, .slice (some ⟨w.heap.size, 0, none⟩) 1 1]).run Try.prog (w.alloc (.cells #[.int .i64 (x : Int)] 3)) = .ok v' w' ∧ w'.heap[b]? = some (.cells #[gv, opv, atv, lev, gov, pav, psv] 38) ∧
      (∃ a m c, v' = .slice a m c) ∧ SM F w0 (w'.setCell ⟨b, 5, none⟩ v') b n { s with pa := s.pa ++ [x] } gv opv atv lev gov v' psv vs := by
  have ho := h.own.own 4 _ _ rfl
  have h' := h.later (below_alloc (.cells #[.int .i64 (x : Int)] 3))
  obtain ⟨v', w', hr, h1, h2, h3⟩ := join_one ty ho (c := (x : Int)) (by omega) hx h.bel.size (by rw [natL_len]; exact hl)
  rw [← natL_snoc] at h1
  obtain ⟨a1, a2, a3, a4⟩ := h'.rest (h'.own.own 4 _ _ rfl) h2
  have hs := h'.own.step (i := 4) rfl h2 h1 (by
    rcases h3 with h3 | h3
    · exact .inl h3
    · exact .inr ⟨_, h3, Nat.le_refl _⟩)
  obtain ⟨b1, b2, b3, b4, b5⟩ := SM.field a1 h.bb a2 hs a3 a4 5 v' rfl
  obtain ⟨ao, cap, hv, _⟩ := h1.shape
  exact ⟨v', w', hr, a2, ⟨_, _, _, hv⟩, b1, h.bb, b2, b3, b4, h.len, b5⟩

theorem Owns.keptR {w w' : World} {base base2 n : Nat} {e : TypeId} {sz : Nat} {u : Value} {us : List Value} {l : List (Value × List Int)} (h : Owns w base l) (hg : w.grownBy w' u.ownBlock) (hr : w.ownsRow base2 e sz u n us) (hne : 3 ≠ e) : Owns w' base l :=
  ⟨fun i v xs hi => (h.own i v xs hi).kept hg (ownsRow_apart (h.own i v xs hi).2 hr hne), h.dis⟩

/-- A part joined to the parts. -/
theorem SM.pushPart (ty : TypeId) {F : List (Nat × Value × TypeId)} {w0 w w1 : World} {b n : Nat} {s : Sr} {gv opv atv lev gov pav psv u : Value} {vs : List Value} {P : List Nat} (h : SM F w0 w b n s gv opv atv lev gov pav psv vs) (hb1 : Below w.heap.size w w1) (hu : OwI w1 w.heap.size u (natL P)) (hl : (s.ps.length + 1) * 24 ≤ 140737488355328) :
    ∃ v' w', (Builtin.append_ #[22, 22] ty #[psv, .slice (some ⟨w1.heap.size, 0, none⟩) 1 1]).run Try.prog (w1.alloc (.cells #[u] 26)) = .ok v' w' ∧ w'.heap[b]? = some (.cells #[gv, opv, atv, lev, gov, pav, psv] 38) ∧
      (∃ a m c, v' = .slice a m c) ∧ SM F w0 (w'.setCell ⟨b, 6, none⟩ v') b n { s with ps := s.ps ++ [P] } gv opv atv lev gov pav v' (vs ++ [u]) := by
  have h1 := h.later hb1
  obtain ⟨ao, cap, hv, _⟩ := hu.shape
  obtain ⟨v', w', hr, h2, h3⟩ := join_row ty h1.row h1.bel.size hl (show u.oneCell' = true by rw [hv]; rfl)
  have h4 := h1.later (below_alloc (.cells #[u] 26))
  have hO := ((h.own.snoc hb1 hu h.bel.size).later (below_alloc (.cells #[u] 26))).keptR h3 h4.row (by decide)
  have hblk : w'.heap[b]? = some (.cells #[gv, opv, atv, lev, gov, pav, psv] 38) := (h3.block b (Array.getElem?_eq_some_iff.1 h4.blk).1 (fun e => own_ne h4.row h4.blk ty_search.2 e.symm)).trans h4.blk
  have hB : Below w0.heap.size w0 w' := h4.bel.grown h3 h4.bel.size (fun k hk => own_blk h4.row hk)
  obtain ⟨b1, b2, b3, b4, b5⟩ := SM.field hB h.bb hblk hO h2 (h4.fx.grown h4.row (.inr rfl) h3) 6 v' rfl
  have hsl : ∃ a m c, v' = .slice a m c := by
    rcases h2.2 with ⟨rfl, _⟩ | ⟨g, c, cur, rfl, _⟩
    · exact ⟨_, _, _, rfl⟩
    · exact ⟨_, _, _, rfl⟩
  refine ⟨v', w', hr, hblk, hsl, b1, h.bb, b2, ?_, by simpa using b4, by simp [h.len], b5⟩
  rw [List.append_assoc] at b3
  rw [List.map_append, List.zip_append (by rw [List.length_map]; exact h.len)]
  exact b3

/-- The fields of the search. -/
theorem SM.cells {F : List (Nat × Value × TypeId)} {w0 w : World} {b n : Nat} {s : Sr} {gv opv atv lev gov pav psv : Value} {vs : List Value} (h : SM F w0 w b n s gv opv atv lev gov pav psv vs) :
    w.cell? ⟨b, 0, none⟩ = some gv ∧ w.cell? ⟨b, 1, none⟩ = some opv ∧ w.cell? ⟨b, 2, none⟩ = some atv ∧ w.cell? ⟨b, 3, none⟩ = some lev ∧ w.cell? ⟨b, 4, none⟩ = some gov ∧ w.cell? ⟨b, 5, none⟩ = some pav ∧ w.cell? ⟨b, 6, none⟩ = some psv :=
  ⟨cell_of_row w b 0 _ _ _ h.blk, cell_of_row w b 1 _ _ _ h.blk, cell_of_row w b 2 _ _ _ h.blk, cell_of_row w b 3 _ _ _ h.blk, cell_of_row w b 4 _ _ _ h.blk, cell_of_row w b 5 _ _ _ h.blk, cell_of_row w b 6 _ _ _ h.blk⟩

theorem SM.froz {F : List (Nat × Value × TypeId)} {w0 w : World} {b n : Nat} {s : Sr} {gv opv atv lev gov pav psv : Value} {vs : List Value} (h : SM F w0 w b n s gv opv atv lev gov pav psv vs) (k : Nat) : w.frozen? ⟨b, k, none⟩ = false := frozen_of_row w b k _ _ h.blk

/-- The rows of the search as slices. -/
theorem SM.forms {F : List (Nat × Value × TypeId)} {w0 w : World} {b n : Nat} {s : Sr} {gv opv atv lev gov pav psv : Value} {vs : List Value} (h : SM F w0 w b n s gv opv atv lev gov pav psv vs) (hn : 0 < n) :
    (∃ ao c, opv = .slice ao s.op.length c ∧ s.op.length ≤ c ∧ c ≤ maxLen) ∧ (∃ g c, atv = .slice (some ⟨g, 0, none⟩) n c ∧ n ≤ c ∧ c ≤ maxLen) ∧ (∃ g c, lev = .slice (some ⟨g, 0, none⟩) n c ∧ n ≤ c ∧ c ≤ maxLen) ∧ (∃ g c, gov = .slice (some ⟨g, 0, none⟩) n c ∧ n ≤ c ∧ c ≤ maxLen) ∧ (∃ ao c, pav = .slice ao s.pa.length c ∧ s.pa.length ≤ c ∧ c ≤ maxLen) := by
  have hop := h.own.own 0 _ _ rfl
  have hat := h.own.own 1 _ _ rfl
  have hle := h.own.own 2 _ _ rfl
  have hgo := h.own.own 3 _ _ rfl
  have hpa := h.own.own 4 _ _ rfl
  have one : ∀ {v : Value} {xs : List Int}, OwI w w0.heap.size v xs → xs.length = n → ∃ g c, v = .slice (some ⟨g, 0, none⟩) n c ∧ n ≤ c ∧ c ≤ maxLen := fun {v xs} ho hl => by
    obtain ⟨g, c, hv⟩ := own_form ho.2 (by omega)
    obtain ⟨ao, c', hv', h1, h2⟩ := ho.shape
    rw [hv, hl] at hv'
    simp only [Value.slice.injEq, true_and] at hv'
    exact ⟨g, c, by rw [hv, hl], by omega, by omega⟩
  refine ⟨?_, one hat (rngI_len _ _), one hle (rngI_len _ _), one hgo (rngN_len _ _), ?_⟩
  · obtain ⟨ao, c, hv, h1, h2⟩ := hop.shape
    rw [natL_len] at hv h1
    exact ⟨ao, c, hv, h1, h2⟩
  · obtain ⟨ao, c, hv, h1, h2⟩ := hpa.shape
    rw [natL_len] at hv h1
    exact ⟨ao, c, hv, h1, h2⟩

end Go.Proofs.Ytmokokhhheonoaa

/- enter of package graph walked. -/
namespace Go.Proofs.Ytmokokhhheonoaa
open Go.RowKit Go.Maps Go.BigFrame

set_option maxRecDepth 100000 in
set_option maxHeartbeats 1600000 in
theorem enter_any {F : List (Nat × Value × TypeId)} {w0 w : World} {b n k : Nat} {s : Sr} {gv opv atv lev gov pav psv : Value} {vs : List Value} (h : SM F w0 w b n s gv opv atv lev gov pav psv vs) (hk : k < n) (hop : s.op.length ≤ 1048576) (hpa : s.pa.length ≤ 1048576) (hn : n ≤ 1048576) :
    Calls Try.prog 23 #[.pointer (some ⟨b, 0, none⟩), .int .i64 (k : Int)] w fun e w' => e = .returned (.tuple #[]) ∧ ∃ opv' pav', SM F w0 w' b n (s.enter k) gv opv' atv lev gov pav' psv vs := by
  obtain ⟨⟨oo, oc, rfl, ho1, ho2⟩, ⟨ga, ca, rfl, ha1, ha2⟩, ⟨gl, cl, rfl, hl1, hl2⟩, ⟨gg, cg, rfl, hg1, hg2⟩, ⟨po, pc, rfl, hp1, hp2⟩⟩ := h.forms (by omega)
  unfold maxLen at ho2 ha2 hl2 hg2 hp2
  have hat := h.own.own 1 _ _ rfl
  have hle := h.own.own 2 _ _ rfl
  obtain ⟨x0, x1, x2, x3, x4, x5, x6⟩ := h.cells
  obtain ⟨a1, a2⟩ := hat.at (rngI_get s.A hk)
  obtain ⟨W1, hW1⟩ : ∃ X, X = w.setCell ⟨ga, k, none⟩ (.int .i64 (s.op.length : Int)) := ⟨_, rfl⟩
  have h1 := h.setA (k := k) (v := (s.op.length : Int)) (by omega)
  rw [← hW1] at h1
  have H1 := hid (h1.later (w' := W1.drew) (Below.refl _ _).drew)
  clear h h1 hat hle
  go_enter Try.func23, Try.ntmps23
  go_wp2
  go_region
  rw [← hW1]
  clear hW1 x0 x1 x2 x3 x4 x5 x6 a1 a2
  generalize W1.drew = w1 at H1 ⊢
  have h1 := H1.out
  obtain ⟨x0, x1, x2, x3, x4, x5, x6⟩ := h1.cells
  obtain ⟨a1, a2⟩ := (h1.own.own 2 _ _ rfl).at (rngI_get s.L hk)
  obtain ⟨W2, hW2⟩ : ∃ X, X = w1.setCell ⟨gl, k, none⟩ (.int .i64 (s.op.length : Int)) := ⟨_, rfl⟩
  have h2 := h1.setL (k := k) (v := (s.op.length : Int)) (by omega)
  rw [← hW2] at h2
  have H2 := hid (h2.later (w' := W2.drew) (Below.refl _ _).drew)
  clear h1 h2 H1
  go_wp2
  go_region
  rw [← hW2]
  clear hW2 x0 x1 x2 x3 x4 x5 x6 a1 a2
  generalize W2.drew = w2 at H2 ⊢
  have h2 := H2.out
  obtain ⟨x0, x1, x2, x3, x4, x5, x6⟩ := h2.cells
  obtain ⟨v3, w3, hr3, b3, ⟨a3, m3, c3, rfl⟩, h3⟩ := h2.pushOp 26 (x := k) (by omega) (by show (s.op.length + 1) * 8 ≤ _; omega)
  have f3 : w3.frozen? ⟨b, 1, none⟩ = false := frozen_of_row w3 b 1 _ _ b3
  have HR3 := hid hr3
  obtain ⟨W3, hW3⟩ : ∃ X, X = w3.setCell ⟨b, 1, none⟩ (.slice a3 m3 c3) := ⟨_, rfl⟩
  rw [← hW3] at h3
  have H3 := hid h3
  have y3 : w3.cell? ⟨b, 1, none⟩ = some (.slice oo s.op.length oc) := cell_of_row w3 b 1 _ _ _ b3
  clear h2 h3 hr3 H2 b3
  go_upto_region 3 with (first
    | (at_builtin; refine wpList_append_run rfl _ _ _ rfl _ _ rfl rfl HR3.out ?_))
  rw [← hW3]
  clear hW3 x0 x1 x2 x3 x4 x5 x6 HR3 f3 y3
  have h3 := H3.out
  obtain ⟨x0, x1, x2, x3, x4, x5, x6⟩ := h3.cells
  obtain ⟨v4, w4, hr4, b4, ⟨a4, m4, c4, rfl⟩, h4⟩ := h3.pushPa 26 (x := k) (by omega) (by show (s.pa.length + 1) * 8 ≤ _; omega)
  have f4 : w4.frozen? ⟨b, 5, none⟩ = false := frozen_of_row w4 b 5 _ _ b4
  have HR4 := hid hr4
  obtain ⟨W4, hW4⟩ : ∃ X, X = w4.setCell ⟨b, 5, none⟩ (.slice a4 m4 c4) := ⟨_, rfl⟩
  rw [← hW4] at h4
  have H4 := hid h4
  have y4 : w4.cell? ⟨b, 5, none⟩ = some (.slice po s.pa.length pc) := cell_of_row w4 b 5 _ _ _ b4
  clear h3 h4 hr4 H3 b4
  go_wp2_with (first
    | (at_builtin; refine wpList_append_run rfl _ _ _ rfl _ _ rfl rfl HR4.out ?_))
  rw [← hW4]
  go_end0
  exact ⟨rfl, _, _, H4.out⟩

end Go.Proofs.Ytmokokhhheonoaa

/- Rows of trees: cloned, turned round. -/
namespace Go.Proofs.Ytmokokhhheonoaa
open Go.RowKit Go.Maps

section
variable {P : Program} {w w' : World} {ops : Array Oper} {rest : List Oper} {o : Oper} {a : Act} {Q : Exit → Act → World → Prop}

end

theorem drawn_below1 (w : World) : Below w.heap.size w w.drew := (Below.refl _ _).drew

end Go.Proofs.Ytmokokhhheonoaa

/- What binds make of a right term is right; two rows of binds in one. -/
namespace Go.Proofs.Ytmokokhhheonoaa
open Go.RowKit Go.Maps

/-- The binds ahead of a number; those behind it. -/
def pre (x : Int) (r : List Bd) : List Bd := r.takeWhile fun c => decide (c.1 < x)
def skipE (x : Int) : List Bd → List Bd
  | [] => []
  | c :: r => if c.1 = x then r else c :: r
def post (x : Int) (r : List Bd) : List Bd := skipE x (r.dropWhile fun c => decide (c.1 < x))

end Go.Proofs.Ytmokokhhheonoaa

/- Kids and Sub walked. -/
namespace Go.Proofs.Ytmokokhhheonoaa
open Go.RowKit Go.Maps

theorem empty_ints (w : World) {base : Nat} (hb : base ≤ w.heap.size) : (w.alloc (.cells #[] 3)).ownsRow base 3 1 (.slice (some ⟨w.heap.size, 0, none⟩) 0 0) 0 [] :=
  ⟨rfl, .inr ⟨w.heap.size, 0, #[], rfl, hb, heap_alloc_new _ _, Nat.le_refl _, by simp [maxLen], by simp, by simp⟩⟩

set_option maxRecDepth 100000 in
set_option maxHeartbeats 800000 in
theorem cloneI_any (v : Value) (t : List Int) (w : World) (h : Is w v t) (h0 : 0 < t.length) (hl : t.length * 8 ≤ 140737488355328) :
    Calls Try.prog 44 #[v] w fun e w' => ∃ v', e = .returned v' ∧ OwI w' w.heap.size v' t ∧ Below w.heap.size w w' := by
  have hq : ∀ (W : World) (a : Option Addr) (n c n' c' : Nat), (binOp .eql 26 (.slice a n c) (.slice none n' c')).run Try.prog W = .ok (.bool a.isNone) W := fun W a n c n' c' => Lib.run_eql_slice_nil W _ _ a n c n' c' under_ints
  obtain ⟨ao, cap, rfl, hao, hca, q0⟩ := Row.flat h
  obtain ⟨g, off, c0, rfl, _⟩ := h.at h0
  obtain ⟨v', w', hr, ho, hg⟩ := join_ints 26 (w := w.alloc (.cells #[] 3)) (base := w.heap.size) (x := .slice (some ⟨w.heap.size, 0, none⟩) 0 0) (xs := []) ⟨fun k x hk => (by simp at hk), empty_ints w (Nat.le_refl _)⟩ (h.kp (Kp.of_below (below_alloc _))) (below_alloc _).size (by simp; omega)
  rw [List.nil_append] at ho
  have HR := hid hr
  have HO := hid ho
  have HB := hid (grown_below (below_alloc _) hg (Nat.le_refl _))
  clear hr ho hg q0 h
  go_enter Try.func44, Try.ntmps44
  go_wp2_with (first
    | (at_builtin; refine wpList_append_run rfl _ _ _ rfl _ _ rfl rfl HR.out ?_))
  go_ret
  exact ⟨_, rfl, HO.out, HB.out⟩

end Go.Proofs.Ytmokokhhheonoaa

/- slices.Sort at []int laid; risingBinds of package match walked. -/
namespace Go.Proofs.Ytmokokhhheonoaa
open Go.RowKit Go.Maps

def sortI (xs : List Int) : List Int := xs.mergeSort fun x y => decide (x ≤ y)

theorem sortI_len (xs : List Int) : (sortI xs).length = xs.length := by unfold sortI; simp

theorem sortI_mem (xs : List Int) (x : Int) : x ∈ sortI xs ↔ x ∈ xs := by unfold sortI; simp

def Try.sortLayI_ren : Go.Shelf.Ren := ⟨fun | 189 => 45 | 125 => 26 | 257 => 52 | 128 => 38 | 129 => 39 | 294 => 54 | 295 => 55 | 296 => 56 | 297 => 57 | 298 => 58 | 299 => 59 | 216 => 60 | 300 => 61 | 301 => 62 | 328 => 63 | 329 => 47 | 330 => 48 | 331 => 64 | 332 => 65 | 215 => 40 | 343 => 66 | n => n, fun | 28 => 26 | 3 => 3 | 46 => 45 | 0 => 0 | 51 => 58 | 53 => 60 | 4 => 4 | 183 => 51 | 182 => 50 | 131 => 55 | 5 => 5 | 9 => 9 | 218 => 69 | 222 => 73 | 228 => 77 | 229 => 78 | n => n, fun | n => n⟩
theorem Try.sortLayI : Go.Proofs.Lays.n189 Try.prog Try.sortLayI_ren := {
  mixed := by kernel_rfl
  f125 := Try.func26.trans (congrArg some (by kernel_rfl))
  f128 := Try.func38.trans (congrArg some (by kernel_rfl))
  f129 := Try.func39.trans (congrArg some (by kernel_rfl))
  f189 := Try.func45.trans (congrArg some (by kernel_rfl))
  f215 := Try.func40.trans (congrArg some (by kernel_rfl))
  f216 := Try.func60.trans (congrArg some (by kernel_rfl))
  f257 := Try.func52.trans (congrArg some (by kernel_rfl))
  f294 := Try.func54.trans (congrArg some (by kernel_rfl))
  f295 := Try.func55.trans (congrArg some (by kernel_rfl))
  f296 := Try.func56.trans (congrArg some (by kernel_rfl))
  f297 := Try.func57.trans (congrArg some (by kernel_rfl))
  f298 := Try.func58.trans (congrArg some (by kernel_rfl))
  f299 := Try.func59.trans (congrArg some (by kernel_rfl))
  f300 := Try.func61.trans (congrArg some (by kernel_rfl))
  f301 := Try.func62.trans (congrArg some (by kernel_rfl))
  f328 := Try.func63.trans (congrArg some (by kernel_rfl))
  f329 := Try.func47.trans (congrArg some (by kernel_rfl))
  f330 := Try.func48.trans (congrArg some (by kernel_rfl))
  f331 := Try.func64.trans (congrArg some (by kernel_rfl))
  f332 := Try.func65.trans (congrArg some (by kernel_rfl))
  f343 := Try.func66.trans (congrArg some (by kernel_rfl))
  t0 := Try.underlying0
  a0 := Try.isAgg0
  z0 := Try.sizeOf0
  v0 := Try.zeroValue0
  t3 := Try.underlying3
  a3 := Try.isAgg3
  z3 := Try.sizeOf3
  v3 := Try.zeroValue3
  t4 := Try.underlying4
  a4 := Try.isAgg4
  z4 := Try.sizeOf4
  v4 := Try.zeroValue4
  t5 := Try.underlying5
  a5 := Try.isAgg5
  z5 := Try.sizeOf5
  v5 := Try.zeroValue5
  t9 := Try.underlying9
  a9 := Try.isAgg9
  z9 := Try.sizeOf9
  v9 := Try.zeroValue9
  t28 := Try.underlying26
  a28 := Try.isAgg26
  z28 := Try.sizeOf26
  v28 := Try.zeroValue26
  t46 := Try.underlying45
  a46 := Try.isAgg45
  z46 := Try.sizeOf45
  v46 := Try.zeroValue45
  t51 := Try.underlying58
  a51 := Try.isAgg58
  z51 := Try.sizeOf58
  v51 := Try.zeroValue58
  t53 := Try.underlying60
  a53 := Try.isAgg60
  z53 := Try.sizeOf60
  v53 := Try.zeroValue60
  t131 := Try.underlying55
  a131 := Try.isAgg55
  z131 := Try.sizeOf55
  v131 := Try.zeroValue55
  t182 := Try.underlying50
  a182 := Try.isAgg50
  z182 := Try.sizeOf50
  v182 := Try.zeroValue50
  t183 := Try.underlying51
  a183 := Try.isAgg51
  z183 := Try.sizeOf51
  v183 := Try.zeroValue51
  t218 := Try.underlying69
  a218 := Try.isAgg69
  z218 := Try.sizeOf69
  v218 := Try.zeroValue69
  t222 := Try.underlying73
  a222 := Try.isAgg73
  z222 := Try.sizeOf73
  v222 := Try.zeroValue73
  t228 := Try.underlying77
  a228 := Try.isAgg77
  z228 := Try.sizeOf77
  v228 := Try.zeroValue77
  t229 := Try.underlying78
  a229 := Try.isAgg78
  z229 := Try.sizeOf78
  v229 := Try.zeroValue78 }

set_option maxRecDepth 100000 in
set_option maxHeartbeats 800000 in
theorem sortI_any (v : Value) (xs : List Int) (w : World) (base : Nat) (ho : OwI w base v xs) (hn : xs.length < 4611686018427387904) :
    Calls Try.prog 45 #[v] w fun e w' => e = .returned (.tuple #[]) ∧ OwI w' base v (sortI xs) ∧ w.grownBy w' v.ownBlock := by
  have hz : ZI (sortI xs) := fun k x hk => by
    obtain ⟨j, hj⟩ := List.getElem?_of_mem ((sortI_mem xs x).1 (List.mem_of_getElem? hk))
    exact ho.1 j x hj
  rcases ho.2.2 with ⟨rfl, h0⟩ | ⟨g, cap, cur, rfl, hb, hg, hc, hm, hs, ht⟩
  · obtain rfl : xs = [] := List.eq_nil_of_length_eq_zero h0
    have hcon := Any.slices_Sort_int_none Try.sortLayI none 0 w
    change Calls Try.prog 45 _ _ _ at hcon
    refine hcon.mono ?_
    rintro e w' ⟨rfl, rfl⟩
    exact ⟨rfl, by simpa [sortI] using ho, World.grownBy.refl _ _⟩
  · rw [Nat.mul_one] at ht
    have hcon := Any.slices_Sort_int Try.sortLayI g 0 cap xs w (holds_of_blockI hg ht) (Array.getElem?_eq_some_iff.1 hg).1 hn
    change Calls Try.prog 45 _ _ _ at hcon
    refine hcon.mono ?_
    rintro e w' ⟨rfl, n, os, rfl⟩
    refine ⟨rfl, ⟨hz, ?_⟩, grownBy_sortedI _⟩
    have := ownsRow_sortedI (n := n) (os := os) (sortI_len xs) hb hg hc hm hs
    rw [sortI_len]
    exact this

end Go.Proofs.Ytmokokhhheonoaa

/- slices.Contains at numbers, and what is closed with a node. -/
namespace Go.Proofs.Ytmokokhhheonoaa
open Go.RowKit Go.Maps Go.BigFrame

set_option maxRecDepth 100000 in
set_option maxHeartbeats 1600000 in
theorem indexI_any (v : Value) (xs : List Int) (x : Int) (w : World) (h : Is w v xs) :
    Calls Try.prog 51 #[v, .int .i64 x] w fun e w' => (∃ k : Int, e = .returned (.int .i64 k) ∧ (decide (0 ≤ k) = decide (x ∈ xs))) ∧ w' = w := by
  obtain ⟨ao, cap, rfl, hc, hm, _⟩ := Row.flat h
  unfold maxLen at hm
  have HI := hid h
  clear h
  go_enter Try.func51, Try.ntmps51
  go_wp2
  go_loopw [8] (fun j wr => ∃ k : Nat, k ≤ xs.length ∧ j = .int .i64 k ∧ x ∉ xs.take k ∧ wr = w) (fun j _ => xs.length - (intOf j).toNat)
  case atStart => exact ⟨0, Nat.zero_le _, rfl, by simp, rfl⟩
  case round =>
    obtain ⟨k, hk, rfl, hf, hwr⟩ := hrel
    have HF := hid hf
    subst hwr
    clear hf
    by_cases hlt : k < xs.length
    · obtain ⟨g, off, y, rfl, hy, hc2, _, _⟩ := HI.out.at hlt
      have HY := hid hy
      clear hy
      by_cases hxy : x = y
      · have HM : Hid (x ∈ xs) := by show _; rw [hxy]; exact List.mem_of_getElem? HY.out
        subst hxy
        go_wp2
        go_ret
        exact ⟨⟨k, rfl, by simp [HM.out]⟩, rfl⟩
      · have hxy2 : decide (x = y) = false := by simpa using hxy
        have HN : Hid (x ∉ xs.take (k + 1)) := by show _; rw [take_get HY.out, List.mem_append]; rintro (hm | hm); exact HF.out hm; simp at hm; exact hxy hm
        go_wp2
        go_roundw
        case rel => exact ⟨k + 1, hlt, by go_num, HN.out, trivial⟩
        case measure => simp [intOf]; omega
    · obtain rfl : k = xs.length := by omega
      have HN : Hid (x ∉ xs) := by have := HF.out; rw [List.take_length] at this; exact this
      go_wp2
      go_ret
      exact ⟨⟨-1, rfl, by simp [HN.out]⟩, rfl⟩

set_option maxRecDepth 100000 in
set_option maxHeartbeats 1600000 in
theorem hasI_any (v : Value) (xs : List Int) (x : Int) (w : World) (h : Is w v xs) :
    Calls Try.prog 43 #[v, .int .i64 x] w fun e w' => e = .returned (.bool (decide (x ∈ xs))) ∧ w' = w := by
  have HC := hid (indexI_any v xs x w h)
  clear h
  generalize decide (x ∈ xs) = B at HC ⊢
  go_enter Try.func43, Try.ntmps43
  go_wp2_with fail
  refine HC.out.mono ?_
  rintro e w1 ⟨⟨k, rfl, hk⟩, hw⟩
  have hw' := hw.symm
  subst hw'
  clear hw
  have HK := hid hk
  clear hk
  cases B with
  | true =>
    have h0 : 0 ≤ k := of_decide_eq_true HK.out
    go_wp2
    go_ret
    exact ⟨ret1b (by simp), rfl⟩
  | false =>
    have h0 : ¬ 0 ≤ k := of_decide_eq_false HK.out
    go_wp2
    go_ret
    exact ⟨ret1b (by simp; omega), rfl⟩

def sortN (xs : List Nat) : List Nat := xs.mergeSort fun x y => decide (x ≤ y)

theorem sortN_mem (xs : List Nat) (x : Nat) : x ∈ sortN xs ↔ x ∈ xs := by unfold sortN; simp

theorem sortI_nat (xs : List Nat) : sortI (natL xs) = natL (sortN xs) := by
  unfold sortI sortN natL
  rw [List.map_mergeSort (r := fun x y : Nat => decide (x ≤ y)) (s := fun x y : Int => decide (x ≤ y)) (f := fun x : Nat => (x : Int)) (l := xs) (fun a _ b _ => by simp)]

theorem sortN_rise {xs : List Nat} (h : xs.Nodup) : (sortN xs).Pairwise (· < ·) := by
  have h1 : (sortN xs).Pairwise (fun a b => decide (a ≤ b) = true) := List.pairwise_mergeSort (fun a b c h1 h2 => by simp at *; omega) (fun a b => by simp; omega) xs
  have h2 : (sortN xs).Nodup := (List.mergeSort_perm xs _).nodup_iff.2 h
  have h3 := h1.and h2
  exact h3.imp fun {a b} hab => by have := of_decide_eq_true hab.1; have := hab.2; omega

end Go.Proofs.Ytmokokhhheonoaa
