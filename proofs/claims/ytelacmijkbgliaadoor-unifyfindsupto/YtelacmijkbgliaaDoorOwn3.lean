/- Texts of the proof, one behind the other. -/
import Derived.Test.YtelacmijkbgliaaDoorOwn2
import Derived.Sort.QuietTacIn
import Derived.Sort.CutIn
import Derived.Deep.DeepAppendRoom
import Derived.Deep.LoopGhost
import Derived.Deep.Slices
import Derived.Test.YtelacmijkbgliaaDoorOwn1
import Derived.Ground.NamesProg
import Derived.Shelf.Sort.Plain
import Derived.Shelf.Slices.In.SortNone
import Derived.Sort.OwnSortedInts
import Derived.Shelf.Abstract
import Derived.Lib.AppendZeros
/- Literal rows in memory. -/
namespace Go.Proofs.YtelacmijkbgliaaDoor
open Go.RowKit Go.Maps Go.BigFrame

/-- Binds one behind the other. -/
def EBs (w : World) (g : Nat) : Nat → List Bd → Prop
  | _, [] => True
  | o, b :: r => EB w g o b ∧ EBs w g (o + 2) r

theorem EBs.get {w : World} {g : Nat} : ∀ {p : List Bd} {o k : Nat} {m : Bd}, EBs w g o p → p[k]? = some m → EB w g (o + k * 2) m
  | [], _, _, _, _, h => by simp at h
  | x :: r, o, 0, m, h, hk => by
    simp at hk
    subst hk
    exact h.1
  | x :: r, o, k + 1, m, h, hk => by
    have := EBs.get h.2 (k := k) (by simpa using hk)
    rw [show o + (k + 1) * 2 = o + 2 + k * 2 by omega]
    exact this

theorem bs_lit {w : World} {g : Nat} {p : List Bd} (hg : g < w.heap.size) (hl : p.length ≤ 9) (h : EBs w g 0 p) : Bs w (.slice (some ⟨g, 0, none⟩) p.length p.length) p := by
  refine ⟨_, p.length, rfl, Nat.le_refl _, by unfold maxLen; omega, fun _ => ⟨g, 0, rfl, hg, fun k m hk => ?_⟩⟩
  have := h.get hk
  rwa [Nat.zero_add] at this ⊢

def ESs (w : World) (g : Nat) : Nat → List Sy → Prop
  | _, [] => True
  | o, b :: r => ES w g o b ∧ ESs w g (o + 2) r

theorem ESs.get {w : World} {g : Nat} : ∀ {p : List Sy} {o k : Nat} {m : Sy}, ESs w g o p → p[k]? = some m → ES w g (o + k * 2) m
  | [], _, _, _, _, h => by simp at h
  | x :: r, o, 0, m, h, hk => by
    simp at hk
    subst hk
    exact h.1
  | x :: r, o, k + 1, m, h, hk => by
    have := ESs.get h.2 (k := k) (by simpa using hk)
    rw [show o + (k + 1) * 2 = o + 2 + k * 2 by omega]
    exact this

theorem sg_lit {w : World} {g : Nat} {p : List Sy} (hg : g < w.heap.size) (hl : p.length ≤ 9) (h : ESs w g 0 p) : Sg w (.slice (some ⟨g, 0, none⟩) p.length p.length) p := by
  refine ⟨_, p.length, rfl, Nat.le_refl _, by unfold maxLen; omega, fun _ => ⟨g, 0, rfl, hg, fun k m hk => ?_⟩⟩
  have := h.get hk
  rwa [Nat.zero_add] at this ⊢

theorem cell_new {w : World} {t : TypeId} {vs : Array Value} {k : Nat} {v : Value} (hv : vs[k]? = some v) : (w.alloc (.cells vs t)).cell? ⟨w.heap.size, k, none⟩ = some v := by
  rw [cell_of_row _ _ _ _ _ _ (heap_alloc_new _ _)]
  simpa using hv

theorem cell_old {w : World} {o : Obj} {g k : Nat} {v : Value} (h : w.cell? ⟨g, k, none⟩ = some v) : (w.alloc o).cell? ⟨g, k, none⟩ = some v := (Kp.of_below (below_alloc o)).cell _ _ h

def sumS : List Sy := [(⟨#[122, 101, 114, 111]⟩, 0), (⟨#[115]⟩, 1), (⟨#[112, 108, 117, 115]⟩, 2)]

end Go.Proofs.YtelacmijkbgliaaDoor

/- The calls of the examples. -/
namespace Go.Proofs.YtelacmijkbgliaaDoor
open Go.RowKit Go.Maps Go.BigFrame

theorem b0 {w : World} : Below w.heap.size w w := Below.refl _ _
theorem b1 {w w' : World} {o : Obj} (h : Below w.heap.size w w') : Below w.heap.size w (w'.alloc o) := below_step h (below_alloc o)

def EIs (w : World) (g : Nat) : Nat → List Int → Prop
  | _, [] => True
  | o, x :: r => EI w g o x ∧ EIs w g (o + 1) r

theorem EIs.get {w : World} {g : Nat} : ∀ {p : List Int} {o k : Nat} {m : Int}, EIs w g o p → p[k]? = some m → EI w g (o + k * 1) m
  | [], _, _, _, _, h => by simp at h
  | x :: r, o, 0, m, h, hk => by
    simp at hk
    subst hk
    exact h.1
  | x :: r, o, k + 1, m, h, hk => by
    have := EIs.get h.2 (k := k) (by simpa using hk)
    rw [show o + (k + 1) * 1 = o + 1 + k * 1 by omega]
    exact this

theorem is_lit {w : World} {g : Nat} {p : List Int} (hg : g < w.heap.size) (hl : p.length ≤ 9) (h : EIs w g 0 p) : Is w (.slice (some ⟨g, 0, none⟩) p.length p.length) p := by
  refine ⟨_, p.length, rfl, Nat.le_refl _, by unfold maxLen; omega, fun _ => ⟨g, 0, rfl, hg, fun k m hk => ?_⟩⟩
  have := h.get hk
  rwa [Nat.zero_add] at this ⊢

theorem cell_newg {w : World} {t : TypeId} {vs : Array Value} {g k : Nat} {v : Value} (hg : g = w.heap.size) (hv : vs[k]? = some v) : (w.alloc (.cells vs t)).cell? ⟨g, k, none⟩ = some v := by
  subst hg
  exact cell_new hv

theorem ei {w : World} {g o : Nat} {x : Int} (h1 : -9223372036854775808 ≤ x) (h2 : x ≤ 9223372036854775807) (h : w.cell? ⟨g, o, none⟩ = some (.int .i64 x)) : EI w g o x := ⟨h1, h2, h⟩

end Go.Proofs.YtelacmijkbgliaaDoor

/- What binds make of a right term is right; two rows of binds in one. -/
namespace Go.Proofs.YtelacmijkbgliaaDoor
open Go.RowKit Go.Maps

theorem codeD_ge {sig : List Sy} (ha : ArOk sig) {c e : Int} (h : codeD sig c = some e) : -1 ≤ e := by
  unfold codeD at h
  split at h
  · cases h
  · split at h
    · cases h; omega
    · cases hs : sig[c.toNat]? with
      | none => rw [hs] at h; cases h
      | some s =>
        rw [hs] at h
        have := ha s (List.mem_of_getElem? hs)
        simp only [Option.some.injEq] at h
        omega

theorem firstT_cons (sig : List Sy) (m : Int) (i : Nat) (c : Int) (t : List Int) : firstT sig m i (c :: t) = (match codeD sig c with | none => (0, 30) | some e => if m + e = 0 then ((i : Int) + 1, 0) else firstT sig (m + e) (i + 1) t) := rfl

theorem firstT_le (sig : List Sy) : ∀ (t : List Int) (m : Int) (i : Nat), (firstT sig m i t).2 = 0 → (firstT sig m i t).1 ≤ (i : Int) + t.length
  | [], m, i, h => by simp [firstT] at h
  | c :: t, m, i, h => by
    rw [firstT_cons] at h ⊢
    cases hc : codeD sig c with
    | none => rw [hc] at h; simp at h
    | some e =>
      rw [hc] at h
      simp only at h ⊢
      split
      · simp only [List.length_cons]; omega
      · rename_i hm
        rw [if_neg hm] at h
        have := firstT_le sig t (m + e) (i + 1) h
        simp only [List.length_cons]
        omega

theorem row_first {sig : List Sy} {t : List Int} : rowE sig t = 0 ↔ firstT sig 1 0 t = ((t.length : Int), 0) := by
  unfold rowE
  constructor
  · intro h
    split at h
    · cases h
    · rename_i hn
      have h1 := firstT_le sig t 1 0 h
      have h2 : ¬ (firstT sig 1 0 t).1 < (t.length : Int) := fun h3 => hn ⟨h, h3⟩
      refine Prod.ext ?_ h
      show (firstT sig 1 0 t).1 = _
      omega
  · intro h
    rw [h]
    simp

/-- A row that closes d terms, ahead of another one. -/
theorem first_app {sig : List Sy} (ha : ArOk sig) : ∀ (x : List Int) (d : Int) (j : Nat), 1 ≤ d → firstT sig d j x = ((j : Int) + x.length, 0) → ∀ (m : Int) (i : Nat) (r : List Int), d ≤ m → firstT sig m i (x ++ r) = if m = d then ((i : Int) + x.length, 0) else firstT sig (m - d) (i + x.length) r
  | [], d, j, hd, h, m, i, r, hm => by simp [firstT] at h
  | c :: x, d, j, hd, h, m, i, r, hm => by
    rw [List.cons_append]
    rw [firstT_cons] at h ⊢
    cases hc : codeD sig c with
    | none => rw [hc] at h; simp at h
    | some e =>
      rw [hc] at h
      simp only at h ⊢
      have he := codeD_ge ha hc
      by_cases h0 : d + e = 0
      · rw [if_pos h0] at h
        have hx : x = [] := by
          have := congrArg Prod.fst h
          simp only [List.length_cons] at this
          exact List.eq_nil_of_length_eq_zero (by omega)
        subst hx
        by_cases hmd : m = d
        · rw [if_pos (by omega), if_pos hmd]; simp
        · rw [if_neg (by omega), if_neg hmd, show m + e = m - d by omega]; simp
      · rw [if_neg h0] at h
        rw [if_neg (by omega), first_app ha x (d + e) (j + 1) (by omega) (by rw [h]; simp only [List.length_cons, Prod.mk.injEq, and_true]; omega) (m + e) (i + 1) r (by omega)]
        by_cases hmd : m = d
        · rw [if_pos hmd, if_pos (by omega)]
          simp only [List.length_cons, Prod.mk.injEq, and_true]
          omega
        · rw [if_neg hmd, if_neg (by omega), show m + e - (d + e) = m - d by omega, List.length_cons, show i + 1 + x.length = i + (x.length + 1) by omega]

/-- Right pieces make a right row of a right row. -/
theorem first_laid {sig : List Sy} (ha : ArOk sig) {f : Int → Option (List Int)} (hf : ∀ n u, f n = some u → rowE sig u = 0) : ∀ (t : List Int) (d : Int) (j i : Nat), 1 ≤ d → firstT sig d j t = ((j : Int) + t.length, 0) → firstT sig d i (laidL f t) = ((i : Int) + (laidL f t).length, 0)
  | [], d, j, i, hd, h => by simp [firstT] at h
  | c :: t, d, j, i, hd, h => by
    have hl : laidL f (c :: t) = piece f c ++ laidL f t := by unfold laidL; rw [List.flatMap_cons]
    rw [hl]
    rw [firstT_cons] at h
    cases hc : codeD sig c with
    | none => rw [hc] at h; simp at h
    | some e =>
      rw [hc] at h
      simp only at h
      have he := codeD_ge ha hc
      -- what is left behind the code
      have hrest : d + e = 0 → t = [] := fun h0 => by
        rw [if_pos h0] at h
        have := congrArg Prod.fst h
        simp only [List.length_cons] at this
        exact List.eq_nil_of_length_eq_zero (by omega)
      have hnext : ¬ d + e = 0 → ∀ i, firstT sig (d + e) i (laidL f t) = ((i : Int) + (laidL f t).length, 0) := fun h0 i => by
        rw [if_neg h0] at h
        exact first_laid ha hf t (d + e) (j + 1) i (by omega) (by rw [h]; simp only [List.length_cons, Prod.mk.injEq, and_true]; omega)
      have hself : firstT sig d i ([c] ++ laidL f t) = ((i : Int) + ([c] ++ laidL f t).length, 0) := by
        rw [List.singleton_append, firstT_cons, hc]
        simp only
        by_cases h0 : d + e = 0
        · rw [if_pos h0, hrest h0]
          simp [laidL]
        · rw [if_neg h0, hnext h0]
          simp only [List.length_cons, Prod.mk.injEq, and_true]
          omega
      by_cases hv : c < 0
      · cases hb : f (-1 - c) with
        | none =>
          have : piece f c = [c] := by unfold piece; rw [if_pos hv, hb]; rfl
          rw [this]
          exact hself
        | some x =>
          have hp : piece f c = x := by unfold piece; rw [if_pos hv, hb]; rfl
          have hx := row_first.1 (hf _ _ hb)
          have he1 : e = -1 := by
            have hc2 := hc
            unfold codeD at hc2
            by_cases h9 : c < -1048576
            · rw [if_pos h9] at hc2; cases hc2
            · rw [if_neg h9, if_pos hv] at hc2; cases hc2; rfl
          rw [hp, first_app ha x 1 0 (by omega) (by rw [hx]; simp) d i (laidL f t) hd]
          by_cases h0 : d + e = 0
          · rw [if_pos (by omega), hrest h0]
            simp [laidL]
          · rw [if_neg (by omega), show d - 1 = d + e by omega, hnext h0, List.length_append]
            simp only [Prod.mk.injEq, and_true]
            omega
      · have : piece f c = [c] := by unfold piece; rw [if_neg hv]
        rw [this]
        exact hself

theorem row_laid {sig : List Sy} (ha : ArOk sig) {f : Int → Option (List Int)} (hf : ∀ n u, f n = some u → rowE sig u = 0) {t : List Int} (h : rowE sig t = 0) : rowE sig (laidL f t) = 0 := by
  have h1 := first_laid ha hf t 1 0 0 (by omega) (by rw [row_first.1 h]; simp)
  exact row_first.2 (by rw [h1]; simp)

/-- The binds ahead of a number; those behind it. -/
def pre (x : Int) (r : List Bd) : List Bd := r.takeWhile fun c => decide (c.1 < x)
def skipE (x : Int) : List Bd → List Bd
  | [] => []
  | c :: r => if c.1 = x then r else c :: r
def post (x : Int) (r : List Bd) : List Bd := skipE x (r.dropWhile fun c => decide (c.1 < x))

end Go.Proofs.YtelacmijkbgliaaDoor

/- The tree of a right term. -/
namespace Go.Proofs.YtelacmijkbgliaaDoor
open Go.RowKit Go.Maps Go.Shelf

attribute [local go_sem] Oper.semAt_some

/-- How many arguments a code has. -/
def arN (sig : List Sy) (c : Int) : Nat := match sig[c.toNat]? with | some s => s.2.toNat | none => 0

/-- A code more, from the back to the front: what begins first is the last one. -/
def growStep (sig : List Sy) (st : List Tr) (c : Int) : List Tr := if c < 0 then st ++ [.var] else st.take (st.length - arN sig c) ++ [.app (st.drop (st.length - arN sig c)).reverse]

def growR (sig : List Sy) : List Int → List Tr
  | [] => []
  | c :: u => growStep sig (growR sig u) c

theorem sizes_rev : ∀ ts : List Tr, sizes ts.reverse = sizes ts
  | [] => rfl
  | t :: ts => by
    rw [List.reverse_cons, sizes_app, sizes_rev ts]
    simp only [sizes]
    omega

theorem growStep_sizes (sig : List Sy) (st : List Tr) (c : Int) : sizes (growStep sig st c) = sizes st + 1 := by
  unfold growStep
  split
  · rw [sizes_app]; simp [sizes, Tr.size]
  · have h1 := sizes_app (st.take (st.length - arN sig c)) (st.drop (st.length - arN sig c))
    rw [List.take_append_drop] at h1
    rw [sizes_app]
    simp only [sizes, Tr.size, sizes_rev]
    omega

theorem growR_sizes (sig : List Sy) : ∀ u : List Int, sizes (growR sig u) = u.length
  | [] => rfl
  | c :: u => by
    show sizes (growStep sig (growR sig u) c) = _
    rw [growStep_sizes, growR_sizes sig u, List.length_cons]

theorem codeD_ar {sig : List Sy} (ha : ArOk sig) {c e : Int} (h : codeD sig c = some e) (hc : ¬ c < 0) : e = (arN sig c : Int) - 1 ∧ c.toNat < sig.length := by
  unfold codeD at h
  by_cases h9 : c < -1048576
  · omega
  · rw [if_neg h9, if_neg hc] at h
    cases hs : sig[c.toNat]? with
    | none => rw [hs] at h; cases h
    | some s =>
      rw [hs] at h
      have := ha s (List.mem_of_getElem? hs)
      simp only [Option.some.injEq] at h
      unfold arN
      rw [hs]
      simp only
      exact ⟨by omega, (List.getElem?_eq_some_iff.1 hs).1⟩

/-- The terms that a row is made of, and that each code finds its arguments. -/
theorem growR_len {sig : List Sy} (ha : ArOk sig) : ∀ (u : List Int) (m : Int) (i : Nat), 1 ≤ m → firstT sig m i u = ((i : Int) + u.length, 0) → ((growR sig u).length : Int) = m
  | [], m, i, hm, h => by simp [firstT] at h
  | c :: u, m, i, hm, h => by
    rw [firstT_cons] at h
    cases hc : codeD sig c with
    | none => rw [hc] at h; simp at h
    | some e =>
      rw [hc] at h
      simp only at h
      have he := codeD_ge ha hc
      have hlen : ((growR sig u).length : Int) = m + e := by
        by_cases h0 : m + e = 0
        · rw [if_pos h0] at h
          have := congrArg Prod.fst h
          simp only [List.length_cons] at this
          obtain rfl : u = [] := List.eq_nil_of_length_eq_zero (by omega)
          show ((0 : Nat) : Int) = _
          omega
        · rw [if_neg h0] at h
          exact growR_len ha u (m + e) (i + 1) (by omega) (by rw [h]; simp only [List.length_cons, Prod.mk.injEq, and_true]; omega)
      show ((growStep sig (growR sig u) c).length : Int) = m
      unfold growStep
      by_cases hv : c < 0
      · rw [if_pos hv, List.length_append]
        have he1 : e = -1 := by
          have hc2 := hc
          unfold codeD at hc2
          by_cases h9 : c < -1048576
          · rw [if_pos h9] at hc2; cases hc2
          · rw [if_neg h9, if_pos hv] at hc2; cases hc2; rfl
        simp only [List.length_cons, List.length_nil]
        omega
      · rw [if_neg hv, List.length_append, List.length_take]
        have := (codeD_ar ha hc hv).1
        simp only [List.length_cons, List.length_nil]
        omega

/-- Each code of a right term: it is one, and its arguments are there. -/
theorem grow_code {sig : List Sy} (ha : ArOk sig) : ∀ (p : List Int) (c : Int) (u : List Int) (m : Int) (i : Nat), 1 ≤ m → firstT sig m i (p ++ c :: u) = ((i : Int) + (p ++ c :: u).length, 0) → ¬ c < 0 → c.toNat < sig.length ∧ arN sig c ≤ (growR sig u).length
  | [], c, u, m, i, hm, h, hv => by
    rw [List.nil_append] at h
    have hl := growR_len ha (c :: u) m i hm h
    rw [firstT_cons] at h
    cases hc : codeD sig c with
    | none => rw [hc] at h; simp at h
    | some e =>
      rw [hc] at h
      simp only at h
      obtain ⟨k1, k2⟩ := codeD_ar ha hc hv
      refine ⟨k2, ?_⟩
      by_cases h0 : m + e = 0
      · omega
      · rw [if_neg h0] at h
        have := growR_len ha u (m + e) (i + 1) (by have := codeD_ge ha hc; omega) (by rw [h]; simp only [List.length_cons, Prod.mk.injEq, and_true]; omega)
        omega
  | d :: p, c, u, m, i, hm, h, hv => by
    rw [List.cons_append, firstT_cons] at h
    cases hc : codeD sig d with
    | none => rw [hc] at h; simp at h
    | some e =>
      rw [hc] at h
      simp only at h
      by_cases h0 : m + e = 0
      · rw [if_pos h0] at h
        have := congrArg Prod.fst h
        simp at this
        omega
      · rw [if_neg h0] at h
        exact grow_code ha p c u (m + e) (i + 1) (by have := codeD_ge ha hc; omega) (by rw [h]; simp only [List.length_cons, Prod.mk.injEq, and_true]; omega) hv

theorem grow_one {sig : List Sy} (ha : ArOk sig) {t : List Int} (h : rowE sig t = 0) : ∃ T, growR sig t = [T] ∧ T.size = t.length := by
  have h1 := growR_len ha t 1 0 (by omega) (by rw [row_first.1 h]; simp)
  have h2 := growR_sizes sig t
  cases hg : growR sig t with
  | nil => rw [hg] at h1; simp at h1
  | cons T r =>
    rw [hg] at h1 h2
    obtain rfl : r = [] := List.eq_nil_of_length_eq_zero (by simp at h1; omega)
    exact ⟨T, rfl, by simpa [sizes] using h2⟩

theorem own_cut {w : World} {base : Nat} {e : TypeId} {ao : Option Addr} {n cap k : Nat} {vals : List Value} (h : w.ownsRow base e 1 (.slice ao n cap) n vals) (hk : k ≤ n) : w.ownsRow base e 1 (.slice ao k cap) k (vals.take k) := by
  have h1 := h.1
  refine ⟨by rw [List.length_take]; omega, ?_⟩
  rcases h.2 with ⟨hv, hn⟩ | ⟨g, cp, cur, hv, hb, hg, hc, hm, hs, ht⟩
  · simp only [Value.slice.injEq] at hv
    obtain ⟨rfl, rfl, rfl⟩ := hv
    obtain rfl : k = 0 := by omega
    exact .inl ⟨rfl, rfl⟩
  · simp only [Value.slice.injEq] at hv
    obtain ⟨rfl, _, rfl⟩ := hv
    refine .inr ⟨g, cap, cur, rfl, hb, hg, by omega, hm, hs, ?_⟩
    rw [Nat.mul_one] at ht ⊢
    rw [← ht, List.take_take, Nat.min_eq_left hk]

theorem frozen_same {w w' : World} {a : Addr} (h : w'.heap[a.block]? = w.heap[a.block]?) : w'.frozen? a = w.frozen? a := by
  unfold World.frozen?
  rw [h]

theorem cell_putObj {W : World} {l : Nat} {o o' : Obj} {a : Addr} {x : Value} (hl : W.heap[l]? = some o) (ho : o.isCells = false) (h : W.cell? a = some x) : (W.putObj l o').cell? a = some x := by
  have hne : a.block ≠ l := by
    rintro rfl
    unfold World.cell? at h
    rw [hl] at h
    cases o <;> simp_all [Obj.isCells]
  rw [World.cell?_of_block (World.putObj_heap_other hne)]
  exact h

end Go.Proofs.YtelacmijkbgliaaDoor

/- grow walked. -/
namespace Go.Proofs.YtelacmijkbgliaaDoor
open Go.RowKit Go.Maps Go.Shelf

attribute [local go_sem] Oper.semAt_some

section
variable {F : Fence} {n : Nat} {P : Program} {w w' : World} {ops : Array Oper} {rest : List Oper} {o : Oper} {a : Act} {Q : Exit → Act → World → Prop}

theorem operIn_append_run {K : Act → World → Prop} (s x : Operand) (t : TypeId) (hop : o.op = .call { callee := .builtin .append, args := #[s, x], argTypes := #[t, t] }) (v u : Value) {v' : Value} (hs : a.eval s = v) (hx : a.eval x = u)
    (hr : (Builtin.append_ #[t, t] o.type #[v, u]).run P w = .ok v' w') (h : K (a.put o.dst v') w') : o.wpIn F n P a w K Q := by
  unfold Oper.wpIn
  refine ⟨?_, ?_⟩
  · simp [Oper.about, hop, resolve, Target.leads, Sem.run_pure]
  · rw [Oper.semAt_plain F _ _ (by rw [hop]; intro c hc; cases hc)]
    simp [execOp, hop, resolve, invoke, builtin, hs, hx, hr, Result.andThen]
    exact h

theorem wpAnyIn_round {md : Region.Mode} (l : Nat) (hnd : (ops.all fun o => match o.op with | .defer _ => false | _ => true) = true) :
    ∀ (fuel : Nat) (listed : Array Bool) (a : Act) (w : World), wpAnyIn F n P md ops Q fuel listed a w → wpAnyIn (F.inRound l) n P md ops Q fuel listed a w := by
  intro fuel
  induction fuel with
  | zero => intro listed a w h; exact h
  | succ fuel ih =>
    intro listed a w h
    refine ⟨h.1, fun i hi => ?_⟩
    have h1 := wpOpIn_mono (fun a w h => ih (listed.setIfInBounds i true) a w h) (h.2 i hi)
    unfold wpOpIn at h1 ⊢
    cases ho : ops[i]? with
    | none => simp only [ho] at h1; exact h1
    | some o =>
      simp only [ho] at h1 ⊢
      have hno : ∀ c, o.op ≠ .defer c := fun c hc => by
        obtain ⟨hl, he⟩ := Array.getElem?_eq_some_iff.1 ho
        have h2 := Array.all_eq_true.1 hnd i hl
        rw [he, hc] at h2
        cases h2
      split
      · rename_i hw
        rw [if_pos hw] at h1
        unfold Oper.wpIn at h1 ⊢
        rw [Oper.semAt_plain _ _ _ hno] at h1 ⊢
        refine ⟨h1.1, ?_⟩
        have h3 := h1.2
        generalize (execOp a.eval o).run P w = r at h3 ⊢
        cases r with
        | ok x w' => cases x <;> exact h3
        | halt x w' => cases x <;> exact h3
      · rename_i hw
        rw [if_neg hw] at h1
        exact h1

end

theorem cell_newg' {w : World} {t : TypeId} {x : Value} {g : Nat} (hg : g = w.heap.size) (_h : x = x) : (w.alloc (.cells #[x] t)).cell? ⟨g, 0, none⟩ = some x := by
  subst hg
  rw [cell_of_row _ _ _ _ _ _ (heap_alloc_new _ _)]
  rfl

theorem frozen_newg {w : World} {t : TypeId} {x : Value} {g : Nat} (hg : g = w.heap.size) : (w.alloc (.cells #[x] t)).frozen? ⟨g, 0, none⟩ = false := by
  subst hg
  simp

theorem drop_rev {t : List Int} {k : Nat} (hk : k < t.length) : ∃ c, t.reverse[k]? = some c ∧ t.drop (t.length - (k + 1)) = c :: t.drop (t.length - k) ∧ t = t.take (t.length - (k + 1)) ++ c :: t.drop (t.length - k) := by
  have hj : t.length - (k + 1) < t.length := by omega
  refine ⟨t[t.length - (k + 1)], ?_, ?_, ?_⟩
  · rw [List.getElem?_reverse hk, show t.length - 1 - k = t.length - (k + 1) by omega]
    exact List.getElem?_eq_getElem hj
  · rw [List.drop_eq_getElem_cons hj, show t.length - (k + 1) + 1 = t.length - k by omega]
  · have h1 := List.take_append_drop (t.length - (k + 1)) t
    rw [List.drop_eq_getElem_cons hj, show t.length - (k + 1) + 1 = t.length - k by omega] at h1
    exact h1.symm

end Go.Proofs.YtelacmijkbgliaaDoor

/- Rows that are spoilt; rows of one's own that lie apart. -/
namespace Go.Proofs.YtelacmijkbgliaaDoor
open Go.RowKit Go.Maps Go.BigFrame

/-- One element more behind such a slice. -/
theorem append_spl (t ty e : TypeId) (i : TypeInfo) (z : Value) (bytes : Nat) (ht : Tryd.prog.underlying t = some (.slice e)) (hi : Tryd.prog.info? e = some i) (hz : i.zero = some z) (hsize : i.size = 1) (hby : i.bytes = bytes) (hzs : z.cells.size = 1)
    {w : World} {b T : Nat} {ao : Option Addr} {n cap : Nat} (h : RowS w b T e (.slice ao n cap) n) {ad : Addr} {c : Nat} {x : Value} (hx : w.cell? ad = some x) (h1 : x.oneCell' = true) (hbytes : (n + 1) * bytes ≤ 140737488355328) (hn : n + 1 ≤ maxLen) :
    ∃ g' cap' w', (Builtin.append_ #[t, t] ty #[.slice ao n cap, .slice (some ad) 1 c]).run Tryd.prog w = .ok (.slice (some ⟨g', 0, none⟩) (n + 1) cap') w' ∧ Shp w' g' e cap' ∧ n + 1 ≤ cap' ∧ cap' ≤ maxLen ∧
      ((b ≤ g' ∧ g' < T) ∨ w.heap.size ≤ g') ∧ Spl b T w w' ∧ ∀ (gp : Nat) (e' : TypeId) (m : Nat), Shp w gp e' m → e' ≠ e → w'.heap[gp]? = w.heap[gp]? := by
  have hnews : ∀ (j : Nat) (u : Value), [x][j]? = some u → w.cell? (ad.add j) = some u := fun j u hj => by
    cases j with
    | zero => simp at hj; subst hj; simpa [Addr.add] using hx
    | succ j => simp at hj
  have hone : ∀ u ∈ [x], u.oneCell' = true := fun u hu => by simp at hu; subst hu; exact h1
  have old : ∀ w', w.grownBy w' none → Spl b T w w' ∧ ∀ (gp : Nat) (e' : TypeId) (m : Nat), Shp w gp e' m → e' ≠ e → w'.heap[gp]? = w.heap[gp]? := fun w' hg => by
    have hbl : Below w.heap.size w w' := ⟨hg.os, hg.tape, hg.output, hg.size, fun k hk => hg.block k hk (by simp)⟩
    exact ⟨Spl.below hbl, fun gp e' m hs _ => hbl.block gp hs.lt⟩
  have new : ∀ (v' : Value) (w' : World) (xs : List Value), w'.ownsRow w.heap.size e 1 v' (n + 1) xs → ∃ g' cap', v' = .slice (some ⟨g', 0, none⟩) (n + 1) cap' ∧ Shp w' g' e cap' ∧ n + 1 ≤ cap' ∧ cap' ≤ maxLen ∧ w.heap.size ≤ g' := fun v' w' xs ho => by
    rcases ho.2 with ⟨_, h0⟩ | ⟨g, cap', cur, hv, hb, hg, hc, hm, hs, _⟩
    · omega
    · exact ⟨g, cap', hv, ⟨cur, hg, by omega⟩, hc, hm, hb⟩
  rcases h with ⟨hv, rfl⟩ | ⟨g, cap', hv, hb1, hb2, hsh, hc, hm⟩
  · rw [hv]
    obtain ⟨v', w', hr, ho, hg, _⟩ := run_append_own (P := Tryd.prog) w w.heap.size t ty e i z 1 bytes ht hi hz hsize hby hzs (by decide) (.slice none 0 0) 0 [] (World.ownsRow_nil w _ e 1) ad 1 c [x] rfl hnews hone (by unfold maxLen; omega) hbytes (Nat.le_refl _)
    obtain ⟨g', cap', rfl, hs', h2, h3, h4⟩ := new v' w' _ ho
    exact ⟨g', cap', w', hr, hs', h2, h3, .inr h4, (old w' hg).1, (old w' hg).2⟩
  · simp only [Value.slice.injEq, true_and] at hv
    obtain ⟨rfl, rfl⟩ := hv
    obtain ⟨cur, hg, hcs⟩ := hsh
    have hown : w.ownsRow b e 1 (.slice (some ⟨g, 0, none⟩) n cap) n (cur.toList.take n) := by
      refine ⟨by rw [List.length_take, Array.length_toList]; omega, .inr ⟨g, cap, cur, rfl, hb1, hg, hc, hm, by omega, by rw [Nat.mul_one]⟩⟩
    by_cases hroom : n + 1 ≤ cap
    · obtain ⟨w', hr, ho, hgr⟩ := run_append_own_spare (P := Tryd.prog) w b t ty e i 1 ht hi hsize g n cap _ hown ad 1 c [x] rfl hnews hone hroom
      have hs' : Shp w' g e cap := by
        rcases ho.2 with ⟨h0, _⟩ | ⟨g2, cap2, cur2, hv2, _, hg2, _, _, hs2, _⟩
        · cases h0
        · simp only [Value.slice.injEq, Option.some.injEq, Addr.mk.injEq, and_true, true_and] at hv2
          obtain ⟨rfl, rfl⟩ := hv2
          exact ⟨cur2, hg2, by omega⟩
      refine ⟨g, cap, w', hr, hs', hroom, hm, .inl ⟨hb1, hb2⟩, ⟨hgr.os, hgr.tape, hgr.output, hgr.size, fun k hk hbk => hgr.block k hk (by simp; omega), fun k e' m hk => ?_⟩, fun gp e' m hk hne => hgr.block gp hk.lt ?_⟩
      · by_cases hkg : k = g
        · subst hkg
          obtain ⟨cur3, hg3, hn3⟩ := hk
          rw [hg] at hg3
          simp only [Option.some.injEq, Obj.cells.injEq] at hg3
          obtain ⟨rfl, rfl, _⟩ := hg3
          rw [← hn3, hcs]
          exact hs'
        · have hlt := hk.lt
          obtain ⟨cur3, hg3, hn3⟩ := hk
          exact ⟨cur3, by rw [hgr.block k hlt (by simp; exact hkg)]; exact hg3, hn3⟩
      · have := hk.ne ⟨cur, hg, hcs⟩ hne
        simpa using this
    · obtain ⟨v', w', hr, ho, hgr⟩ := run_append_arg_grows (P := Tryd.prog) w t ty e i z 1 bytes ht hi hz hsize hby hzs (by decide) ⟨g, 0, none⟩ n cap (cur.toList.take n) (by rw [List.length_take, Array.length_toList]; omega) (fun j u hj => by
        have hj2 := (List.getElem?_eq_some_iff.1 hj).1
        rw [List.length_take, Array.length_toList] at hj2
        rw [Addr.add_lit, Nat.zero_add, cell_of_row _ _ _ _ _ _ hg]
        rw [List.getElem?_take_of_lt (by omega)] at hj
        simpa using hj) ad 1 c [x] rfl hnews (by omega) (by unfold maxLen at hn ⊢; omega) hbytes
      obtain ⟨g', cap', rfl, hs', h2, h3, h4⟩ := new v' w' _ ho
      exact ⟨g', cap', w', hr, hs', h2, h3, .inr h4, (old w' hgr).1, (old w' hgr).2⟩

theorem after_append {b t gp m : Nat} {e e' : TypeId} {w wn w4 wo : World} {o : Obj} (h : Spl b t w wn) (hg : wn.heap[gp]? = wo.heap[gp]?) (h4 : Spl b t (wn.alloc o) w4) (hk : ∀ (gp : Nat) (e' : TypeId) (m : Nat), Shp (wn.alloc o) gp e' m → e' ≠ e → w4.heap[gp]? = (wn.alloc o).heap[gp]?) (hs : Shp w gp e' m) (hne : e' ≠ e) :
    Spl b t w w4 ∧ w4.heap[gp]? = wo.heap[gp]? := by
  have h5 := h.trans (Spl.below (below_alloc o))
  refine ⟨h5.trans h4, ?_⟩
  rw [hk gp e' m (h5.shape _ _ _ hs) hne, (below_alloc o).block gp (h.shape _ _ _ hs).lt]
  exact hg

/-- Slices that lie in unlike blocks. -/
def Dis (v u : Value) : Prop := ∀ g, v.ownBlock = some g → u.ownBlock ≠ some g

theorem Dis.symm {v u : Value} (h : Dis v u) : Dis u v := fun g h1 h2 => h g h2 h1

theorem Dis.keep {v u : Value} (h : Dis v u) : v.ownBlock = none ∨ v.ownBlock ≠ u.ownBlock := by
  cases hv : v.ownBlock with
  | none => exact .inl rfl
  | some g => exact .inr fun e => h g hv e.symm

theorem own_blk_lt {w : World} {base : Nat} {e : TypeId} {s m j : Nat} {v : Value} {xs : List Value} (h : w.ownsRow base e s v m xs) (hj : v.ownBlock = some j) : j < w.heap.size := by
  rcases h.2 with ⟨rfl, _⟩ | ⟨g', cap, cur, rfl, hb, hg, _⟩
  · cases hj
  · cases hj
    exact (Array.getElem?_eq_some_iff.1 hg).1

/-- A number joined to a row of one's own, with what becomes of its block. -/
theorem join_one (ty : TypeId) {w : World} {base : Nat} {x : Value} {xs : List Int} {c : Int} (ho : OwI w base x xs) (h1 : -9223372036854775808 ≤ c) (h2 : c ≤ 9223372036854775807) (hb : base ≤ w.heap.size) (hl : (xs.length + 1) * 8 ≤ 140737488355328) :
    ∃ v' w', (Builtin.append_ #[23, 23] ty #[x, .slice (some ⟨w.heap.size, 0, none⟩) 1 1]).run Tryd.prog (w.alloc (.cells #[.int .i64 c] 3)) = .ok v' w' ∧ OwI w' base v' (xs ++ [c]) ∧ (w.alloc (.cells #[.int .i64 c] 3)).grownBy w' x.ownBlock ∧ (v'.ownBlock = x.ownBlock ∨ v'.ownBlock = some (w.alloc (.cells #[.int .i64 c] 3)).heap.size) := by
  obtain ⟨i0, hi, hz0, hz1, hz2⟩ := info_parts info_int
  obtain ⟨v', w', hr, g2, g3, _, g5⟩ := run_append_own_at (P := Tryd.prog) (w.alloc (.cells #[.int .i64 c] 3)) base 23 ty 3 i0 _ 1 8 under_ints hi hz0 hz1 hz2 rfl (by decide) x xs.length (xs.map I64) (ownsRow_later ho.2 (below_alloc _)) ⟨w.heap.size, 0, none⟩ 1 1 [I64 c] rfl
    (fun j u hj => by
      rw [Addr.add_lit, Nat.zero_add]
      cases j with
      | zero => simp at hj; subst hj; exact cell_new rfl
      | succ j => simp at hj) (fun u hu => by simp at hu; subst hu; rfl) (by unfold maxLen; omega) (by omega) (Nat.le_trans hb (below_alloc _).size)
  refine ⟨v', w', hr, ⟨fun k y hk => ?_, ?_⟩, g3, g5⟩
  · by_cases hkl : k < xs.length
    · rw [List.getElem?_append_left hkl] at hk
      exact ho.1 k y hk
    · rw [List.getElem?_append_right (by omega)] at hk
      have hk0 : k - xs.length = 0 := by
        have := (List.getElem?_eq_some_iff.1 hk).1
        simp at this
        omega
      rw [hk0] at hk
      simp at hk
      subst hk
      exact ⟨h1, h2⟩
  · rw [List.length_append, List.map_append]
    exact g2

end Go.Proofs.YtelacmijkbgliaaDoor

/- A term's arguments, one behind the other. -/
namespace Go.Proofs.YtelacmijkbgliaaDoor
open Go.RowKit Go.Maps

/-- Places by lengths. -/
def places : Nat → List Nat → List Int
  | _, [] => []
  | p, n :: ns => (p : Int) :: places (p + n) ns

end Go.Proofs.YtelacmijkbgliaaDoor

/- The places of a term, plainly: what is above a place, where the arguments stand. -/
namespace Go.Proofs.YtelacmijkbgliaaDoor
open Go.RowKit Go.Maps

theorem first_more {sig : List Sy} (q : List Int) : ∀ (r : List Int) (m : Int) (i : Nat) (n : Int), firstT sig m i r = (n, 0) → firstT sig m i (r ++ q) = (n, 0)
  | [], m, i, n, h => by simp [firstT] at h
  | c :: r, m, i, n, h => by
    rw [List.cons_append, firstT_cons]
    rw [firstT_cons] at h
    cases hc : codeD sig c with
    | none => rw [hc] at h; simp at h
    | some e =>
      rw [hc] at h
      simp only at h ⊢
      by_cases h0 : m + e = 0
      · rw [if_pos h0] at h ⊢; exact h
      · rw [if_neg h0] at h ⊢; exact first_more q r (m + e) (i + 1) n h

end Go.Proofs.YtelacmijkbgliaaDoor

/- The document's Kids, Sub, Above, Vars walked. -/
namespace Go.Proofs.YtelacmijkbgliaaDoor
open Go.RowKit Go.Maps Go.BigFrame

theorem first_right {sig : List Sy} {u : List Int} (h : rowE sig u = 0) (q : List Int) : firstT sig 1 0 (u ++ q) = ((u.length : Int), 0) := first_more q u 1 0 _ (by rw [row_first.1 h])

end Go.Proofs.YtelacmijkbgliaaDoor

/- Binds of one's own: rows that are the call's or older ones; a bind joined, binds joined. -/
namespace Go.Proofs.YtelacmijkbgliaaDoor
open Go.RowKit Go.Maps

theorem info_bind : (Tryd.prog.info? 31).map (fun i => (i.zero, i.size, i.bytes)) = some (some (.agg #[.int .i64 0, .slice none 0 0]), 2, 32) := by kernel_rfl
theorem under_binds : Tryd.prog.underlying 25 = some (.slice 31) := by kernel_rfl

def flatB (s : List Bd) (us : List Value) : List Value := (s.zip us).flatMap fun p => [.int .i64 p.1.1, p.2]

theorem flatB_get : ∀ {s : List Bd} {us : List Value} {i : Nat} {b : Bd} {u : Value}, s[i]? = some b → us[i]? = some u → (flatB s us)[i * 2]? = some (.int .i64 b.1) ∧ (flatB s us)[i * 2 + 1]? = some u
  | [], _, i, _, _, h, _ => by simp at h
  | _ :: _, [], i, _, _, _, h => by simp at h
  | a :: s, v :: us, 0, b, u, h, k => by
    simp at h k
    subst h
    subst k
    exact ⟨by simp [flatB], by simp [flatB]⟩
  | a :: s, v :: us, i + 1, b, u, h, k => by
    rw [List.getElem?_cons_succ] at h k
    obtain ⟨h1, h2⟩ := flatB_get h k
    have e : flatB (a :: s) (v :: us) = .int .i64 a.1 :: v :: flatB s us := rfl
    rw [e]
    refine ⟨?_, ?_⟩
    · rw [show (i + 1) * 2 = i * 2 + 1 + 1 by omega]; simpa using h1
    · rw [show (i + 1) * 2 + 1 = i * 2 + 1 + 1 + 1 by omega]; simpa using h2

theorem flatB_append : ∀ {s r : List Bd} {us vs : List Value}, us.length = s.length → flatB (s ++ r) (us ++ vs) = flatB s us ++ flatB r vs := by
  intro s r us vs h
  unfold flatB
  rw [List.zip_append h.symm, List.flatMap_append]

end Go.Proofs.YtelacmijkbgliaaDoor

/- bindAlike and argumentPairs walked. -/
namespace Go.Proofs.YtelacmijkbgliaaDoor
open Go.RowKit Go.Maps Go.BigFrame

/-- Pairs of trees. -/
def prC (xs : List (Value × Value)) : List Value := xs.flatMap fun p => [p.1, p.2]

theorem prC_len : ∀ xs : List (Value × Value), (prC xs).length = xs.length * 2
  | [] => rfl
  | p :: xs => by
    have := prC_len xs
    simp only [prC, List.flatMap_cons, List.length_append, List.length_cons, List.length_nil] at this ⊢
    omega

theorem prC_app (xs ys : List (Value × Value)) : prC (xs ++ ys) = prC xs ++ prC ys := by simp [prC, List.flatMap_append]

theorem prC_at : ∀ (xs : List (Value × Value)) (k : Nat) (p : Value × Value), xs[k]? = some p → (prC xs)[k * 2]? = some p.1 ∧ (prC xs)[k * 2 + 1]? = some p.2
  | [], k, p, h => by simp at h
  | q :: xs, 0, p, h => by
    simp only [List.getElem?_cons_zero, Option.some.injEq] at h
    subst h
    exact ⟨rfl, rfl⟩
  | q :: xs, k + 1, p, h => by
    rw [List.getElem?_cons_succ] at h
    have := prC_at xs k p h
    refine ⟨?_, ?_⟩
    · rw [show (k + 1) * 2 = k * 2 + 1 + 1 by omega]
      exact this.1
    · rw [show (k + 1) * 2 + 1 = k * 2 + 1 + 1 + 1 by omega]
      exact this.2

end Go.Proofs.YtelacmijkbgliaaDoor

/- Binds whose rows are the call's own; a look into a map of rows. -/
namespace Go.Proofs.YtelacmijkbgliaaDoor
open Go.RowKit Go.Maps

theorem MapV.lookOne {w : World} {b : Nat} {L : List (Int × Value)} (h : MapV w b L) {t e : TypeId} {z : Value} (ht : Tryd.prog.underlying t = some (.map 3 e)) (hz : (zeroValue e).run Tryd.prog w = .ok z w) {k : Int} (h1 : -9223372036854775808 ≤ k) (h2 : k ≤ 9223372036854775807) {u : Value} (hl : L.lookup k = some u) :
    (Instr.lookup t (.map (some b)) (.int .i64 k) false).run Tryd.prog w = .ok u w := by
  obtain ⟨D, hD, _, ha, hh⟩ := h
  obtain ⟨v, ps, hrun, hv⟩ := hD.lookup set_keyed ht hz (zd := .held z) (zp := []) rfl (key_int h1 h2)
  rw [hrun]
  have hv2 : D.atKey (.int .i64 k) (.held z) = .held v := by
    simp only [RV, Option.some.injEq, Prod.mk.injEq] at hv
    exact hv.1.symm
  rw [ha k u hl] at hv2
  rw [DataW.held.inj hv2]

/-- A bind whose row is the call's own. -/
def EBo (base : Nat) (w : World) (u : Value) (b : Bd) : Prop := OwI w base u b.2 ∧ -9223372036854775808 ≤ b.1 ∧ b.1 ≤ 9223372036854775807 ∧ b.2.length * 8 ≤ 140737488351232

/-- The slice value v is the call's own, as its rows are, and holds the binds s. -/
def OBW (base : Nat) (w : World) (v : Value) (s : List Bd) : Prop :=
  ∃ us : List Value, us.length = s.length ∧ (∀ (i : Nat) (u : Value) (b : Bd), us[i]? = some u → s[i]? = some b → EBo base w u b) ∧ w.ownsRow base 31 2 v s.length (flatB s us)

theorem OBW.mono {base b' : Nat} {w : World} {v : Value} {s : List Bd} (h : OBW base w v s) (hb : b' ≤ base) : OBW b' w v s := by
  obtain ⟨us, hl, hc, ho⟩ := h
  refine ⟨us, hl, fun i u b h1 h2 => ⟨(hc i u b h1 h2).1.mono hb, (hc i u b h1 h2).2⟩, ho.1, ?_⟩
  rcases ho.2 with h | ⟨g, cap, cur, rfl, hg, r⟩
  · exact .inl h
  · exact .inr ⟨g, cap, cur, rfl, by omega, r⟩

theorem OBW.later {base : Nat} {w w' : World} {v : Value} {s : List Bd} (h : OBW base w v s) (hb : Below w.heap.size w w') : OBW base w' v s := by
  obtain ⟨us, hl, hc, ho⟩ := h
  exact ⟨us, hl, fun i u b h1 h2 => ⟨(hc i u b h1 h2).1.later hb, (hc i u b h1 h2).2⟩, ownsRow_later ho hb⟩

theorem OBW.nil (base : Nat) (w : World) : OBW base w (.slice none 0 0) [] := ⟨[], rfl, fun i c m h => (by simp at h), World.ownsRow_nil _ _ _ _⟩

theorem OBW.bs {base : Nat} {w : World} {v : Value} {s : List Bd} (h : OBW base w v s) : Bs w v s := by
  obtain ⟨us, hl, hc, ho⟩ := h
  have ho2 := ho
  rcases ho2.2 with ⟨rfl, hn⟩ | ⟨g, cap, cur, rfl, hbg, hg, hcap, hm, hs, ht⟩
  · obtain rfl := List.eq_nil_of_length_eq_zero hn
    exact Row.nil (by simp [maxLen])
  · refine ⟨_, cap, rfl, hcap, hm, fun _ => ⟨g, 0, rfl, (Array.getElem?_eq_some_iff.1 hg).1, ?_⟩⟩
    intro k b hk
    have hlt : k < s.length := (List.getElem?_eq_some_iff.1 hk).1
    have hck : us[k]? = some us[k] := List.getElem?_eq_getElem (by omega)
    obtain ⟨h1, h2⟩ := flatB_get hk hck
    obtain ⟨o1, o2, o3, o4⟩ := hc k _ b hck hk
    refine ⟨o2, o3, o4, ?_, us[k], ?_, o1.is⟩
    · rw [Nat.zero_add, World.ownsRow.cellAt ho2 (k * 2) (by omega)]
      exact h1
    · rw [Nat.zero_add, World.ownsRow.cellAt ho2 (k * 2 + 1) (by omega)]
      exact h2

/-- One bind joined. -/
theorem OBW.snoc (ty : TypeId) {base : Nat} {w : World} {v u : Value} {s : List Bd} {x : Int} {t : List Int} (h : OBW base w v s) (hb : base ≤ w.heap.size) (hE : EBo base w u (x, t)) (hlen : (s.length + 1) * 32 ≤ 140737488355328) :
    ∃ v' w', (Builtin.append_ #[25, 25] ty #[v, .slice (some ⟨w.heap.size, 0, none⟩) 1 1]).run Tryd.prog (w.alloc (.cells #[.int .i64 x, u] 31)) = .ok v' w' ∧ OBW base w' v' (s ++ [(x, t)]) ∧ (w.alloc (.cells #[.int .i64 x, u] 31)).grownBy w' v.ownBlock ∧ (∀ j, v.ownBlock = some j → base ≤ j ∧ w.heap[j]? ≠ none ∧ ∃ cs, w.heap[j]? = some (.cells cs 31)) := by
  obtain ⟨i1, hi1, hy0, hy1, hy2⟩ := info_parts info_bind
  have ha := below_alloc (w := w) (.cells #[.int .i64 x, u] 31)
  have h' := h.later ha
  obtain ⟨us, hl, hc, ho0⟩ := h
  obtain ⟨vs, hl', hc', ho⟩ := h'
  have hone : u.oneCell' = true := by obtain ⟨_, _, rfl, _⟩ := hE.1.shape; rfl
  obtain ⟨v', w', hrun, h2, h3, _, _⟩ := run_append_own_at (P := Tryd.prog) (w.alloc (.cells #[.int .i64 x, u] 31)) base 25 ty 31 i1 _ 2 32 under_binds hi1 hy0 hy1 hy2 rfl (by decide) v s.length (flatB s vs) ho ⟨w.heap.size, 0, none⟩ 1 1 [.int .i64 x, u] rfl
    (fun j c hj => by
      rw [Addr.add_lit, Nat.zero_add, cell_of_row _ _ _ _ _ _ (heap_alloc_new _ _)]
      simpa using hj)
    (fun c hc => by
      simp only [List.mem_cons, List.not_mem_nil, or_false] at hc
      rcases hc with rfl | rfl
      · rfl
      · exact hone) (by unfold maxLen; omega) (by omega) (Nat.le_trans hb ha.size)
  have hk : ∀ {y : Value} {b : Bd}, EBo base (w.alloc (.cells #[.int .i64 x, u] 31)) y b → EBo base w' y b := fun {y b} hy => ⟨hy.1.kept h3 (ownsRow_apart hy.1.2 ho (by decide)), hy.2⟩
  refine ⟨v', w', hrun, ⟨vs ++ [u], by rw [List.length_append, List.length_append, hl']; rfl, fun i y b h1 h4 => ?_, ?_⟩, h3, fun j hj => ?_⟩
  · by_cases hi : i < vs.length
    · rw [List.getElem?_append_left hi] at h1
      rw [List.getElem?_append_left (by omega)] at h4
      exact hk (hc' i y b h1 h4)
    · rw [List.getElem?_append_right (by omega)] at h1
      rw [List.getElem?_append_right (by omega), ← hl'] at h4
      have hi : i - vs.length = 0 := by
        have := (List.getElem?_eq_some_iff.1 h1).1
        simp at this
        omega
      rw [hi] at h1 h4
      simp at h1 h4
      subst h1
      subst h4
      exact hk ⟨hE.1.later ha, hE.2⟩
  · rw [List.length_append, flatB_append hl']
    exact h2
  · rcases ho0.2 with ⟨rfl, _⟩ | ⟨g, cap, cur, rfl, hbg, hg, _⟩
    · cases hj
    · cases hj
      exact ⟨hbg, by rw [hg]; simp, cur, hg⟩

end Go.Proofs.YtelacmijkbgliaaDoor

/- slices.Sort at []int laid; risingBinds of package match walked. -/
namespace Go.Proofs.YtelacmijkbgliaaDoor
open Go.RowKit Go.Maps

def sortI (xs : List Int) : List Int := xs.mergeSort fun x y => decide (x ≤ y)

def Tryd.sortLayI_ren : Go.Shelf.Ren := ⟨fun | 189 => 67 | 125 => 84 | 257 => 83 | 128 => 98 | 129 => 99 | 294 => 89 | 295 => 90 | 296 => 91 | 297 => 92 | 298 => 93 | 299 => 94 | 216 => 95 | 300 => 96 | 301 => 97 | 328 => 105 | 329 => 106 | 330 => 107 | 331 => 108 | 332 => 109 | 215 => 110 | 343 => 113 | n => n, fun | 28 => 23 | 3 => 3 | 46 => 122 | 0 => 0 | 51 => 135 | 53 => 137 | 4 => 4 | 183 => 128 | 182 => 127 | 131 => 132 | 5 => 5 | 9 => 9 | 218 => 139 | 222 => 143 | 228 => 151 | 229 => 152 | n => n, fun | n => n⟩
theorem Tryd.sortLayI : Go.Proofs.Lays.n189 Tryd.prog Tryd.sortLayI_ren := {
  mixed := by kernel_rfl
  f125 := Tryd.func84.trans (congrArg some (by kernel_rfl))
  f128 := Tryd.func98.trans (congrArg some (by kernel_rfl))
  f129 := Tryd.func99.trans (congrArg some (by kernel_rfl))
  f189 := Tryd.func67.trans (congrArg some (by kernel_rfl))
  f215 := Tryd.func110.trans (congrArg some (by kernel_rfl))
  f216 := Tryd.func95.trans (congrArg some (by kernel_rfl))
  f257 := Tryd.func83.trans (congrArg some (by kernel_rfl))
  f294 := Tryd.func89.trans (congrArg some (by kernel_rfl))
  f295 := Tryd.func90.trans (congrArg some (by kernel_rfl))
  f296 := Tryd.func91.trans (congrArg some (by kernel_rfl))
  f297 := Tryd.func92.trans (congrArg some (by kernel_rfl))
  f298 := Tryd.func93.trans (congrArg some (by kernel_rfl))
  f299 := Tryd.func94.trans (congrArg some (by kernel_rfl))
  f300 := Tryd.func96.trans (congrArg some (by kernel_rfl))
  f301 := Tryd.func97.trans (congrArg some (by kernel_rfl))
  f328 := Tryd.func105.trans (congrArg some (by kernel_rfl))
  f329 := Tryd.func106.trans (congrArg some (by kernel_rfl))
  f330 := Tryd.func107.trans (congrArg some (by kernel_rfl))
  f331 := Tryd.func108.trans (congrArg some (by kernel_rfl))
  f332 := Tryd.func109.trans (congrArg some (by kernel_rfl))
  f343 := Tryd.func113.trans (congrArg some (by kernel_rfl))
  t0 := Tryd.underlying0
  a0 := Tryd.isAgg0
  z0 := Tryd.sizeOf0
  v0 := Tryd.zeroValue0
  t3 := Tryd.underlying3
  a3 := Tryd.isAgg3
  z3 := Tryd.sizeOf3
  v3 := Tryd.zeroValue3
  t4 := Tryd.underlying4
  a4 := Tryd.isAgg4
  z4 := Tryd.sizeOf4
  v4 := Tryd.zeroValue4
  t5 := Tryd.underlying5
  a5 := Tryd.isAgg5
  z5 := Tryd.sizeOf5
  v5 := Tryd.zeroValue5
  t9 := Tryd.underlying9
  a9 := Tryd.isAgg9
  z9 := Tryd.sizeOf9
  v9 := Tryd.zeroValue9
  t28 := Tryd.underlying23
  a28 := Tryd.isAgg23
  z28 := Tryd.sizeOf23
  v28 := Tryd.zeroValue23
  t46 := Tryd.underlying122
  a46 := Tryd.isAgg122
  z46 := Tryd.sizeOf122
  v46 := Tryd.zeroValue122
  t51 := Tryd.underlying135
  a51 := Tryd.isAgg135
  z51 := Tryd.sizeOf135
  v51 := Tryd.zeroValue135
  t53 := Tryd.underlying137
  a53 := Tryd.isAgg137
  z53 := Tryd.sizeOf137
  v53 := Tryd.zeroValue137
  t131 := Tryd.underlying132
  a131 := Tryd.isAgg132
  z131 := Tryd.sizeOf132
  v131 := Tryd.zeroValue132
  t182 := Tryd.underlying127
  a182 := Tryd.isAgg127
  z182 := Tryd.sizeOf127
  v182 := Tryd.zeroValue127
  t183 := Tryd.underlying128
  a183 := Tryd.isAgg128
  z183 := Tryd.sizeOf128
  v183 := Tryd.zeroValue128
  t218 := Tryd.underlying139
  a218 := Tryd.isAgg139
  z218 := Tryd.sizeOf139
  v218 := Tryd.zeroValue139
  t222 := Tryd.underlying143
  a222 := Tryd.isAgg143
  z222 := Tryd.sizeOf143
  v222 := Tryd.zeroValue143
  t228 := Tryd.underlying151
  a228 := Tryd.isAgg151
  z228 := Tryd.sizeOf151
  v228 := Tryd.zeroValue151
  t229 := Tryd.underlying152
  a229 := Tryd.isAgg152
  z229 := Tryd.sizeOf152
  v229 := Tryd.zeroValue152 }

end Go.Proofs.YtelacmijkbgliaaDoor

/- Rows that rise, plainly. -/
namespace Go.Proofs.YtelacmijkbgliaaDoor
open Go.RowKit Go.Maps

theorem sortI_rise {xs : List Int} (h : xs.Nodup) : (sortI xs).Pairwise (· < ·) := by
  have h1 : (sortI xs).Pairwise (fun a b => decide (a ≤ b) = true) := List.pairwise_mergeSort (fun a b c => by simp; omega) (fun a b => by simp; omega) xs
  have h2 : (sortI xs).Nodup := (List.mergeSort_perm xs _).symm.nodup h
  refine (h1.and h2).imp ?_
  rintro a b ⟨h3, h4⟩
  have h5 : a ≤ b := by simpa using h3
  have h6 : a ≠ b := h4
  omega

end Go.Proofs.YtelacmijkbgliaaDoor

/- When binds make a pattern a term, plainly. -/
namespace Go.Proofs.YtelacmijkbgliaaDoor
open Go.RowKit Go.Maps

theorem laidL_app (f : Int → Option (List Int)) (a b : List Int) : laidL f (a ++ b) = laidL f a ++ laidL f b := by
  unfold laidL
  rw [List.flatMap_append]

theorem laidL_cons (f : Int → Option (List Int)) (c : Int) (b : List Int) : laidL f (c :: b) = piece f c ++ laidL f b := by
  unfold laidL
  rw [List.flatMap_cons]

/-- A pair of places: a pattern's tree and a term's. -/
structure Pr where
  P : Tr
  q1 : Nat
  T : Tr
  q2 : Nat

end Go.Proofs.YtelacmijkbgliaaDoor

/- boundRows: what its round reads. -/
namespace Go.Proofs.YtelacmijkbgliaaDoor
open Go.RowKit Go.Maps Go.BigFrame

/-- How many nodes wait. -/
def wait (ds : List Pr) : Nat := (ds.map fun d => d.P.size).sum

end Go.Proofs.YtelacmijkbgliaaDoor

/- What the binds of a match make of the pattern, plainly. -/
namespace Go.Proofs.YtelacmijkbgliaaDoor
open Go.RowKit Go.Maps

theorem first_codes2 {sig : List Sy} : ∀ (t : List Int) (m : Int) (i : Nat), firstT sig m i t = ((i : Int) + t.length, 0) → ∀ c ∈ t, codeD sig c ≠ none
  | [], _, _, _, c, hc => by simp at hc
  | a :: t, m, i, h, c, hc => by
    unfold firstT at h
    cases ha : codeD sig a with
    | none => rw [ha] at h; simp at h
    | some x =>
      rw [ha] at h
      simp only at h
      by_cases h0 : m + x = 0
      · rw [if_pos h0] at h
        have h2 := congrArg Prod.fst h
        simp only [List.length_cons] at h2
        have h3 : t.length = 0 := by omega
        obtain rfl := List.eq_nil_of_length_eq_zero h3
        rw [List.mem_singleton] at hc
        subst hc
        rw [ha]
        simp
      · rw [if_neg h0] at h
        rcases List.mem_cons.1 hc with rfl | hc
        · rw [ha]; simp
        · refine first_codes2 t (m + x) (i + 1) ?_ c hc
          rw [h]
          simp only [List.length_cons]
          congr 1
          push_cast
          omega


theorem row_var {sig : List Sy} {c : Int} (h0 : c < 0) (h1 : -1048576 ≤ c) : rowE sig [c] = 0 := by
  rw [row_first]
  unfold firstT
  rw [codeD_var h1 h0]
  simp

theorem codes_of {sig : List Sy} {p : List Int} (h : rowE sig p = 0) {c : Int} (hc : c ∈ p) : -1048576 ≤ c := by
  have h1 := row_first.1 h
  have h2 := first_codes2 p 1 0 (by rw [h1]; simp) c hc
  by_cases h3 : c < -1048576
  · exact absurd (codeD_none (.inr h3)) h2
  · omega

end Go.Proofs.YtelacmijkbgliaaDoor

/- Unification, plainly: nodes, classes, what is joined. -/
namespace Go.Proofs.YtelacmijkbgliaaDoor
open Go.RowKit Go.Maps Go.BigFrame

theorem rows_one6 {sig : List Sy} : ∀ (us vs : List (List Int)), (∀ u ∈ us, rowE sig u = 0) → (∀ v ∈ vs, rowE sig v = 0) → us.length = vs.length → us.flatten = vs.flatten → us = vs
  | [], [], _, _, _, _ => rfl
  | [], v :: vs, _, _, h, _ => by simp at h
  | u :: us, [], _, _, h, _ => by simp at h
  | u :: us, v :: vs, hu, hv, hl, he => by
    rw [List.flatten_cons, List.flatten_cons] at he
    have h1 := first_right (hu u (by simp)) us.flatten
    have h2 := first_right (hv v (by simp)) vs.flatten
    rw [he, h2] at h1
    simp only [Prod.mk.injEq, and_true] at h1
    obtain ⟨e1, e2⟩ := List.append_inj he (by omega)
    rw [e1, rows_one6 us vs (fun x hx => hu x (by simp [hx])) (fun x hx => hv x (by simp [hx])) (by simpa using hl) e2]

theorem first_flat {sig : List Sy} (ha : ArOk sig) : ∀ (us : List (List Int)) (i : Nat), us ≠ [] → (∀ u ∈ us, rowE sig u = 0) → firstT sig (us.length : Int) i us.flatten = ((i : Int) + us.flatten.length, 0)
  | [], _, h, _ => absurd rfl h
  | [u], i, _, hu => by
    have h1 := first_app ha u 1 0 (by omega) (by rw [row_first.1 (hu u (by simp))]; simp) 1 i [] (by omega)
    rw [if_pos rfl] at h1
    simpa using h1
  | u :: v :: us, i, _, hu => by
    have h1 := first_app ha u 1 0 (by omega) (by rw [row_first.1 (hu u (by simp))]; simp) (((u :: v :: us).length : Nat) : Int) i ((v :: us).flatten) (by simp only [List.length_cons]; omega)
    rw [if_neg (by simp only [List.length_cons]; omega)] at h1
    have h2 := first_flat ha (v :: us) (i + u.length) (by simp) (fun x hx => hu x (by simp at hx ⊢; exact .inr hx))
    rw [List.flatten_cons, h1, show (((u :: v :: us).length : Nat) : Int) - 1 = (((v :: us).length : Nat) : Int) by simp only [List.length_cons]; omega, h2, List.length_append]
    simp only [Prod.mk.injEq, and_true]
    omega

/-- A symbol and as many terms as it takes are a term. -/
theorem row_parts {sig : List Sy} (ha : ArOk sig) {c : Int} {us : List (List Int)} (h0 : ¬ c < 0) (hc : c.toNat < sig.length) (hn : us.length = arN sig c) (hu : ∀ u ∈ us, rowE sig u = 0) : rowE sig (c :: us.flatten) = 0 := by
  rw [row_first, firstT_cons]
  have hs : sig[c.toNat]? = some sig[c.toNat] := List.getElem?_eq_getElem hc
  have hd : codeD sig c = some ((sig[c.toNat]).2 - 1) := by
    unfold codeD
    rw [if_neg (by omega), if_neg h0, hs]
  have har := ha _ (List.mem_of_getElem? hs)
  have hn2 : (us.length : Int) = (sig[c.toNat]).2 := by
    rw [hn]
    unfold arN
    rw [hs]
    simp only
    omega
  rw [hd]
  simp only
  by_cases h1 : 1 + ((sig[c.toNat]).2 - 1) = 0
  · rw [if_pos h1]
    have : us = [] := List.eq_nil_of_length_eq_zero (by omega)
    subst this
    simp
  · rw [if_neg h1, show 1 + ((sig[c.toNat]).2 - 1) = (us.length : Int) by omega, first_flat ha us 1 (by intro h; rw [h] at hn2; simp at hn2; omega) hu]
    simp only [List.length_cons, Prod.mk.injEq, and_true]
    omega

/-- A node: a variable's number, or a symbol and the nodes of its arguments. -/
inductive Nd where
  | var (n : Int)
  | app (c : Int) (xs : List Nat)

/-- Nodes over a signature: arguments stand ahead; a variable is one node. -/
structure NdOk (sig : List Sy) (L : List Nd) : Prop where
  num : ∀ (i : Nat) (n : Int), L[i]? = some (Nd.var n) → 0 ≤ n ∧ n < 1048576
  sym : ∀ (i : Nat) (c : Int) (xs : List Nat), L[i]? = some (Nd.app c xs) → ¬ c < 0 ∧ c.toNat < sig.length ∧ xs.length = arN sig c
  ahead : ∀ (i : Nat) (c : Int) (xs : List Nat), L[i]? = some (Nd.app c xs) → ∀ j ∈ xs, j < i
  once : ∀ (i j : Nat) (n : Int), L[i]? = some (Nd.var n) → L[j]? = some (Nd.var n) → i = j

/-- What nodes become: right rows, of an application its symbol and what its arguments become. -/
def Val (sig : List Sy) (L : List Nd) (V : Nat → List Int) : Prop :=
  ∀ i, i < L.length → rowE sig (V i) = 0 ∧ ∀ c xs, L[i]? = some (Nd.app c xs) → V i = c :: (xs.map V).flatten

/-- All of a class become the same. -/
def Slv (n : Nat) (root : Nat → Nat) (V : Nat → List Int) : Prop := ∀ i, i < n → V i = V (root i)

/-- What must become the same by classes and by pairs that wait. -/
inductive Conn (root : Nat → Nat) (P : List (Nat × Nat)) : Nat → Nat → Prop
  | same {x y : Nat} (h : root x = root y) : Conn root P x y
  | wait {x y : Nat} (h : (x, y) ∈ P) : Conn root P x y
  | turn {x y : Nat} (h : Conn root P x y) : Conn root P y x
  | next {x y z : Nat} (h : Conn root P x y) (h' : Conn root P y z) : Conn root P x z

theorem Conn.mono {root root' : Nat → Nat} {P P' : List (Nat × Nat)} (h1 : ∀ x y, root x = root y → Conn root' P' x y) (h2 : ∀ x y, (x, y) ∈ P → Conn root' P' x y) {x y : Nat} (h : Conn root P x y) : Conn root' P' x y := by
  induction h with
  | same h => exact h1 _ _ h
  | wait h => exact h2 _ _ h
  | turn _ ih => exact .turn ih
  | next _ _ ih ih' => exact .next ih ih'

theorem Conn.none {root : Nat → Nat} {x y : Nat} (h : Conn root [] x y) : root x = root y := by
  induction h with
  | same h => exact h
  | wait h => cases h
  | turn _ ih => exact ih.symm
  | next _ _ ih ih' => exact ih.trans ih'

/-- Classes of nodes: each has one root; its face is an application, if one is a member, else the variable of the least number. -/
structure ClOk (L : List Nd) (root face : Nat → Nat) : Prop where
  lt : ∀ i, i < L.length → root i < L.length
  idem : ∀ i, i < L.length → root (root i) = root i
  face_lt : ∀ i, i < L.length → face (root i) < L.length
  face_in : ∀ i, i < L.length → root (face (root i)) = root i
  app : ∀ (i : Nat) (c : Int) (xs : List Nat), L[i]? = some (Nd.app c xs) → ∃ xs', L[face (root i)]? = some (Nd.app c xs')
  least : ∀ (i : Nat) (n m : Int), L[i]? = some (Nd.var n) → L[face (root i)]? = some (Nd.var m) → m ≤ n

/-- The arguments of applications in one class are, or wait to be, in one. -/
def ClWait (L : List Nd) (root face : Nat → Nat) (P : List (Nat × Nat)) : Prop :=
  ∀ (i : Nat) (c : Int) (xs xs' : List Nat), L[i]? = some (Nd.app c xs) → L[face (root i)]? = some (Nd.app c xs') → ∀ (k x x' : Nat), xs[k]? = some x → xs'[k]? = some x' → Conn root P x x'

/-- What is joined so far: whatever makes the two nodes the same makes all of a class, and all pairs that wait. -/
def Jn (sig : List Sy) (L : List Nd) (ra rb : Nat) (root : Nat → Nat) (P : List (Nat × Nat)) : Prop :=
  (∀ V, Val sig L V → V ra = V rb → Slv L.length root V ∧ ∀ p ∈ P, V p.1 = V p.2) ∧ Conn root P ra rb

theorem jn_start (sig : List Sy) (L : List Nd) (ra rb : Nat) : Jn sig L ra rb id [(ra, rb)] :=
  ⟨fun V _ h => ⟨fun i _ => rfl, fun p hp => by rw [List.mem_singleton] at hp; rw [hp]; exact h⟩, .wait (by simp)⟩

theorem cl_start {sig : List Sy} {L : List Nd} (_hL : NdOk sig L) : ClOk L id id := by
  refine ⟨fun i h => h, fun i _ => rfl, fun i h => h, fun i _ => rfl, fun i c xs h => ⟨xs, h⟩, fun i n m h1 h2 => ?_⟩
  have h3 : L[i]? = some (Nd.var m) := h2
  rw [h1] at h3
  cases h3
  exact Int.le_refl _

theorem wait_start (L : List Nd) (P : List (Nat × Nat)) : ClWait L id id P := fun i c xs xs' h1 h2 k x x' h3 h4 => by
  have h5 : L[i]? = some (Nd.app c xs') := h2
  rw [h1] at h5
  cases h5
  rw [h3] at h4
  cases h4
  exact .same rfl

/-- A pair of one class is passed by. -/
theorem jn_skip {sig : List Sy} {L : List Nd} {ra rb : Nat} {root face : Nat → Nat} {P : List (Nat × Nat)} {x y : Nat} (h : Jn sig L ra rb root (P ++ [(x, y)])) (hw : ClWait L root face (P ++ [(x, y)])) (he : root x = root y) : Jn sig L ra rb root P ∧ ClWait L root face P := by
  have key : ∀ {a b}, Conn root (P ++ [(x, y)]) a b → Conn root P a b := fun {a b} hc => hc.mono (fun _ _ h => .same h) (fun a b hab => by
    rcases List.mem_append.1 hab with hab | hab
    · exact .wait hab
    · rw [List.mem_singleton] at hab
      cases hab
      exact .same he)
  exact ⟨⟨fun V h1 h2 => ⟨(h.1 V h1 h2).1, fun p hp => (h.1 V h1 h2).2 p (List.mem_append_left _ hp)⟩, key h.2⟩, fun i c xs xs' h1 h2 k a b h3 h4 => key (hw i c xs xs' h1 h2 k a b h3 h4)⟩

/-- The classes c and d made one, whose root is c. -/
def uniR (root : Nat → Nat) (c d : Nat) (i : Nat) : Nat := if root i = d then c else root i

def uniF (face : Nat → Nat) (c f : Nat) (z : Nat) : Nat := if z = c then f else face z

/-- The face of two: an application, else the variable of the least number. -/
def faceN (L : List Nd) (a b : Nat) : Nat := match L[a]?, L[b]? with
  | some (Nd.var n), some (Nd.var m) => if n < m then a else b
  | some (Nd.var _), _ => b
  | _, _ => a

/-- The pairs of arguments of two nodes. -/
def argP (L : List Nd) (a b : Nat) : List (Nat × Nat) := match L[a]?, L[b]? with
  | some (Nd.app _ xs), some (Nd.app _ ys) => xs.zip ys
  | _, _ => []

/-- Whether two nodes clash. -/
def clash (L : List Nd) (a b : Nat) : Bool := match L[a]?, L[b]? with
  | some (Nd.app c _), some (Nd.app c' _) => !decide (c = c')
  | _, _ => false

theorem clash_none {sig : List Sy} {L : List Nd} {ra rb x y : Nat} {root face : Nat → Nat} {P : List (Nat × Nat)} (hc : ClOk L root face) (h : Jn sig L ra rb root (P ++ [(x, y)])) (hx : x < L.length) (hy : y < L.length) (hcl : clash L (face (root x)) (face (root y)) = true) : ∀ V, Val sig L V → V ra ≠ V rb := fun V hV he => by
  obtain ⟨h1, h2⟩ := h.1 V hV he
  have h3 := h2 (x, y) (by simp)
  simp only at h3
  have e1 : V (face (root x)) = V x := by rw [h1 _ (hc.face_lt x hx), hc.face_in x hx, ← h1 x hx]
  have e2 : V (face (root y)) = V y := by rw [h1 _ (hc.face_lt y hy), hc.face_in y hy, ← h1 y hy]
  unfold clash at hcl
  split at hcl
  · rename_i c xs c' ys g1 g2
    have f1 := (hV _ (hc.face_lt x hx)).2 c xs g1
    have f2 := (hV _ (hc.face_lt y hy)).2 c' ys g2
    rw [e1] at f1
    rw [e2, ← h3, f1] at f2
    simp only [List.cons.injEq] at f2
    rw [f2.1] at hcl
    simp at hcl
  · cases hcl

/-- Arguments of two applications that become the same do so. -/
theorem args_same {sig : List Sy} {L : List Nd} (hL : NdOk sig L) {V : Nat → List Int} (hV : Val sig L V) {a b : Nat} {c : Int} {xs ys : List Nat} (ha : L[a]? = some (Nd.app c xs)) (hb : L[b]? = some (Nd.app c ys)) (he : V a = V b) : xs.map V = ys.map V := by
  have la := (List.getElem?_eq_some_iff.1 ha).1
  have lb := (List.getElem?_eq_some_iff.1 hb).1
  have f1 := (hV a la).2 c xs ha
  have f2 := (hV b lb).2 c ys hb
  rw [he, f2] at f1
  simp only [List.cons.injEq, true_and] at f1
  refine (rows_one6 (sig := sig) _ _ (fun u hu => ?_) (fun u hu => ?_) ?_ f1).symm
  · obtain ⟨j, hj, rfl⟩ := List.mem_map.1 hu
    exact (hV j (Nat.lt_trans (hL.ahead b c ys hb j hj) lb)).1
  · obtain ⟨j, hj, rfl⟩ := List.mem_map.1 hu
    exact (hV j (Nat.lt_trans (hL.ahead a c xs ha j hj) la)).1
  · rw [List.length_map, List.length_map, (hL.sym a c xs ha).2.2, (hL.sym b c ys hb).2.2]

theorem uni_face (L : List Nd) (a b : Nat) : faceN L a b = a ∨ faceN L a b = b := by
  unfold faceN
  split
  · split
    · exact .inl rfl
    · exact .inr rfl
  · exact .inr rfl
  · exact .inl rfl

/-- Two classes made one, whichever root stays. -/
theorem cl_uni {L : List Nd} {root face : Nat → Nat} (hc : ClOk L root face) {c d f : Nat} (hcl : c < L.length) (hdl : d < L.length) (hrc : root c = c) (hrd : root d = d) (hne : c ≠ d) (hf : f = face c ∨ f = face d)
    (hfa : ∀ k xs, (L[face c]? = some (Nd.app k xs) ∨ L[face d]? = some (Nd.app k xs)) → ∃ xs', L[f]? = some (Nd.app k xs'))
    (hfl : ∀ m, L[f]? = some (Nd.var m) → ∃ n n', L[face c]? = some (Nd.var n) ∧ L[face d]? = some (Nd.var n') ∧ m ≤ n ∧ m ≤ n') : ClOk L (uniR root c d) (uniF face c f) := by
  have r1 : ∀ i, i < L.length → uniR root c d i = if root i = d then c else root i := fun i _ => rfl
  have hfc := hc.face_lt c hcl
  rw [hrc] at hfc
  have hfd := hc.face_lt d hdl
  rw [hrd] at hfd
  have hfic := hc.face_in c hcl
  rw [hrc] at hfic
  have hfid := hc.face_in d hdl
  rw [hrd] at hfid
  have hfl' : f < L.length := by rcases hf with rfl | rfl <;> assumption
  have hfr : uniR root c d f = c := by
    unfold uniR
    rcases hf with rfl | rfl
    · rw [hfic, if_neg hne]
    · rw [hfid, if_pos rfl]
  have two : ∀ i, i < L.length → (uniR root c d i = c ∧ (root i = c ∨ root i = d)) ∨ (uniR root c d i = root i ∧ root i ≠ c ∧ root i ≠ d) := fun i _ => by
    unfold uniR
    by_cases h1 : root i = d
    · rw [if_pos h1]
      exact .inl ⟨rfl, .inr h1⟩
    · rw [if_neg h1]
      by_cases h2 : root i = c
      · exact .inl ⟨h2, .inl h2⟩
      · exact .inr ⟨rfl, h2, h1⟩
  refine ⟨fun i hi => ?_, fun i hi => ?_, fun i hi => ?_, fun i hi => ?_, fun i k xs hi => ?_, fun i n m hi hm => ?_⟩
  · rcases two i hi with ⟨e, _⟩ | ⟨e, _⟩
    · rw [e]; exact hcl
    · rw [e]; exact hc.lt i hi
  · rcases two i hi with ⟨e, _⟩ | ⟨e, h1, h2⟩
    · rw [e]
      unfold uniR
      rw [hrc, if_neg hne]
    · rw [e]
      unfold uniR
      rw [hc.idem i hi, if_neg h2]
  · rcases two i hi with ⟨e, _⟩ | ⟨e, h1, h2⟩
    · rw [e]
      unfold uniF
      rw [if_pos rfl]
      exact hfl'
    · rw [e]
      unfold uniF
      rw [if_neg h1]
      exact hc.face_lt i hi
  · rcases two i hi with ⟨e, _⟩ | ⟨e, h1, h2⟩
    · rw [e]
      unfold uniF
      rw [if_pos rfl]
      exact hfr
    · rw [e]
      unfold uniF
      rw [if_neg h1]
      unfold uniR
      rw [hc.face_in i hi, if_neg h2]
  · have hil := (List.getElem?_eq_some_iff.1 hi).1
    obtain ⟨xs', h9⟩ := hc.app i k xs hi
    rcases two i hil with ⟨e, h | h⟩ | ⟨e, h1, h2⟩
    · rw [h] at h9
      rw [e]
      unfold uniF
      rw [if_pos rfl]
      exact hfa k xs' (.inl h9)
    · rw [h] at h9
      rw [e]
      unfold uniF
      rw [if_pos rfl]
      exact hfa k xs' (.inr h9)
    · rw [e]
      unfold uniF
      rw [if_neg h1]
      exact ⟨xs', h9⟩
  · have hil := (List.getElem?_eq_some_iff.1 hi).1
    rcases two i hil with ⟨e, h⟩ | ⟨e, h1, h2⟩
    · rw [e] at hm
      unfold uniF at hm
      rw [if_pos rfl] at hm
      obtain ⟨a, b, g1, g2, g3, g4⟩ := hfl m hm
      rcases h with h | h
      · have := hc.least i n a hi (by rw [h]; exact g1)
        omega
      · have := hc.least i n b hi (by rw [h]; exact g2)
        omega
    · rw [e] at hm
      unfold uniF at hm
      rw [if_neg h1] at hm
      exact hc.least i n m hi hm

end Go.Proofs.YtelacmijkbgliaaDoor
