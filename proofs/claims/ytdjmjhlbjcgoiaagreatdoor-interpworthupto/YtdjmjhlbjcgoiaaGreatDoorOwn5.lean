/- Texts of the proof, one behind the other. -/
import Derived.Test.YtdjmjhlbjcgoiaaGreatDoorOwn4
import Derived.Test.YtdjmjhlbjcgoiaaGreatDoorOwn3
import Derived.Shelf.Abstract
import Derived.RangeFuncNested
import Derived.RangeFuncBound
import Derived.RangeFuncCalls
import Derived.RangeFuncLeaves
import Derived.RangeFuncBox
import Derived.Shelf.RegionOpen
import Derived.OwnWalkIn
import Derived.TacticsInMore
import Derived.LoopNIn
import Derived.LoopIn
import Derived.Deep.DeepAppendRoom
import Derived.Sort.QuietTacIn
import Derived.Sort.CutIn
import Derived.Test.YtdjmjhlbjcgoiaaGreatDoorOwn1
import Derived.Laws.Rows
import Derived.Laws.ResultCell
/- What Canon answers. -/
namespace Go.Proofs.YtdjmjhlbjcgoiaaGreatDoor
open Go.RowKit Go.Maps

def ER (w : World) (g o : Nat) (x : List Int) : Prop := x.length * 8 ≤ 140737488351232 ∧ ∃ u, w.cell? ⟨g, o, none⟩ = some u ∧ Is w u x
theorem ER.kp {w w' : World} (hk : Kp w w') (g o : Nat) (x : List Int) (h : ER w g o x) : ER w' g o x := by
  obtain ⟨h0, u, h1, h2⟩ := h
  exact ⟨h0, u, hk.cell _ _ h1, h2.kp hk⟩

/-- A list of rows. -/
def Rs (w : World) (v : Value) (l : List (List Int)) : Prop := Row ER 1 w v l
theorem Rs.kp {w w' : World} {v : Value} {l : List (List Int)} (h : Rs w v l) (hk : Kp w w') : Rs w' v l := Row.imp h hk.size (ER.kp hk)

theorem Rs.at {w : World} {ao : Option Addr} {n cap : Nat} {l : List (List Int)} (h : Rs w (.slice ao n cap) l) {k : Nat} (hk : k < l.length) :
    ∃ g off a t c, ao = some ⟨g, off, none⟩ ∧ l[k]? = some t ∧ w.cell? ⟨g, off + k, none⟩ = some (.slice a t.length c) ∧ Is w (.slice a t.length c) t ∧ t.length * 8 ≤ 140737488351232 := by
  obtain ⟨ao', cap', hv, _, _, hx⟩ := Row.flat h
  simp only [Value.slice.injEq] at hv
  obtain ⟨rfl, rfl, rfl⟩ := hv
  obtain ⟨g, off, t, rfl, hm, h3, v, h5, h6⟩ := hx k hk
  obtain ⟨a, c, rfl, _⟩ := Row.flat h6
  rw [Nat.mul_one] at h5
  exact ⟨g, off, a, t, c, rfl, hm, h5, h6, h3⟩

end Go.Proofs.YtdjmjhlbjcgoiaaGreatDoor

/- Literal rows in memory. -/
namespace Go.Proofs.YtdjmjhlbjcgoiaaGreatDoor
open Go.RowKit Go.Maps Go.BigFrame

theorem is_new (w : World) (xs : List Int) (t : TypeId) (hz : ∀ x ∈ xs, -9223372036854775808 ≤ x ∧ x ≤ 9223372036854775807) (hl : xs.length ≤ 1000) : Is (w.alloc (.cells (xs.map I64).toArray t)) (.slice (some ⟨w.heap.size, 0, none⟩) xs.length xs.length) xs := by
  refine ⟨some ⟨w.heap.size, 0, none⟩, xs.length, rfl, Nat.le_refl _, by unfold maxLen; omega, fun _ => ⟨w.heap.size, 0, rfl, by simp, fun k x hk => ?_⟩⟩
  refine ⟨(hz x (List.mem_of_getElem? hk)).1, (hz x (List.mem_of_getElem? hk)).2, ?_⟩
  rw [Nat.mul_one, Nat.zero_add, cell_of_row _ _ _ _ _ _ (heap_alloc_new _ _)]
  simp [hk, I64]

/-- Binds one behind the other. -/
def EBs (w : World) (g : Nat) : Nat → List Bd → Prop
  | _, [] => True
  | o, b :: r => EB w g o b ∧ EBs w g (o + 2) r

theorem EBs.get {w : World} {g : Nat} : ∀ {p : List Bd} {o k : Nat} {m : Bd}, EBs w g o p → p[k]? = some m → EB w g (o + k * 2) m
  | [], _, _, _, _, h => by simp at h
  | x :: r, o, 0, m, h, hk => by
    simp at hk
    subst hk
    exact h.1
  | x :: r, o, k + 1, m, h, hk => by
    have := EBs.get h.2 (k := k) (by simpa using hk)
    rw [show o + (k + 1) * 2 = o + 2 + k * 2 by omega]
    exact this

def ESs (w : World) (g : Nat) : Nat → List Sy → Prop
  | _, [] => True
  | o, b :: r => ES w g o b ∧ ESs w g (o + 2) r

theorem ESs.get {w : World} {g : Nat} : ∀ {p : List Sy} {o k : Nat} {m : Sy}, ESs w g o p → p[k]? = some m → ES w g (o + k * 2) m
  | [], _, _, _, _, h => by simp at h
  | x :: r, o, 0, m, h, hk => by
    simp at hk
    subst hk
    exact h.1
  | x :: r, o, k + 1, m, h, hk => by
    have := ESs.get h.2 (k := k) (by simpa using hk)
    rw [show o + (k + 1) * 2 = o + 2 + k * 2 by omega]
    exact this

theorem sg_lit {w : World} {g : Nat} {p : List Sy} (hg : g < w.heap.size) (hl : p.length ≤ 9) (h : ESs w g 0 p) : Sg w (.slice (some ⟨g, 0, none⟩) p.length p.length) p := by
  refine ⟨_, p.length, rfl, Nat.le_refl _, by unfold maxLen; omega, fun _ => ⟨g, 0, rfl, hg, fun k m hk => ?_⟩⟩
  have := h.get hk
  rwa [Nat.zero_add] at this ⊢

theorem cell_new {w : World} {t : TypeId} {vs : Array Value} {k : Nat} {v : Value} (hv : vs[k]? = some v) : (w.alloc (.cells vs t)).cell? ⟨w.heap.size, k, none⟩ = some v := by
  rw [cell_of_row _ _ _ _ _ _ (heap_alloc_new _ _)]
  simpa using hv

theorem cell_old {w : World} {o : Obj} {g k : Nat} {v : Value} (h : w.cell? ⟨g, k, none⟩ = some v) : (w.alloc o).cell? ⟨g, k, none⟩ = some v := (Kp.of_below (below_alloc o)).cell _ _ h

def sumS : List Sy := [(⟨#[122, 101, 114, 111]⟩, 0), (⟨#[115]⟩, 1), (⟨#[112, 108, 117, 115]⟩, 2)]

end Go.Proofs.YtdjmjhlbjcgoiaaGreatDoor

/- The calls of the examples. -/
namespace Go.Proofs.YtdjmjhlbjcgoiaaGreatDoor
open Go.RowKit Go.Maps Go.BigFrame

theorem b0 {w : World} : Below w.heap.size w w := Below.refl _ _
theorem b1 {w w' : World} {o : Obj} (h : Below w.heap.size w w') : Below w.heap.size w (w'.alloc o) := below_step h (below_alloc o)

def EIs (w : World) (g : Nat) : Nat → List Int → Prop
  | _, [] => True
  | o, x :: r => EI w g o x ∧ EIs w g (o + 1) r

theorem EIs.get {w : World} {g : Nat} : ∀ {p : List Int} {o k : Nat} {m : Int}, EIs w g o p → p[k]? = some m → EI w g (o + k * 1) m
  | [], _, _, _, _, h => by simp at h
  | x :: r, o, 0, m, h, hk => by
    simp at hk
    subst hk
    exact h.1
  | x :: r, o, k + 1, m, h, hk => by
    have := EIs.get h.2 (k := k) (by simpa using hk)
    rw [show o + (k + 1) * 1 = o + 1 + k * 1 by omega]
    exact this

theorem is_lit {w : World} {g : Nat} {p : List Int} (hg : g < w.heap.size) (hl : p.length ≤ 9) (h : EIs w g 0 p) : Is w (.slice (some ⟨g, 0, none⟩) p.length p.length) p := by
  refine ⟨_, p.length, rfl, Nat.le_refl _, by unfold maxLen; omega, fun _ => ⟨g, 0, rfl, hg, fun k m hk => ?_⟩⟩
  have := h.get hk
  rwa [Nat.zero_add] at this ⊢

theorem cell_newg {w : World} {t : TypeId} {vs : Array Value} {g k : Nat} {v : Value} (hg : g = w.heap.size) (hv : vs[k]? = some v) : (w.alloc (.cells vs t)).cell? ⟨g, k, none⟩ = some v := by
  subst hg
  exact cell_new hv

theorem ei {w : World} {g o : Nat} {x : Int} (h1 : -9223372036854775808 ≤ x) (h2 : x ≤ 9223372036854775807) (h : w.cell? ⟨g, o, none⟩ = some (.int .i64 x)) : EI w g o x := ⟨h1, h2, h⟩

end Go.Proofs.YtdjmjhlbjcgoiaaGreatDoor

/- What binds make of a right term is right; two rows of binds in one. -/
namespace Go.Proofs.YtdjmjhlbjcgoiaaGreatDoor
open Go.RowKit Go.Maps

theorem codeD_ge {sig : List Sy} (ha : ArOk sig) {c e : Int} (h : codeD sig c = some e) : -1 ≤ e := by
  unfold codeD at h
  split at h
  · cases h
  · split at h
    · cases h; omega
    · cases hs : sig[c.toNat]? with
      | none => rw [hs] at h; cases h
      | some s =>
        rw [hs] at h
        have := ha s (List.mem_of_getElem? hs)
        simp only [Option.some.injEq] at h
        omega

theorem firstT_cons (sig : List Sy) (m : Int) (i : Nat) (c : Int) (t : List Int) : firstT sig m i (c :: t) = (match codeD sig c with | none => (0, 30) | some e => if m + e = 0 then ((i : Int) + 1, 0) else firstT sig (m + e) (i + 1) t) := rfl

theorem firstT_le (sig : List Sy) : ∀ (t : List Int) (m : Int) (i : Nat), (firstT sig m i t).2 = 0 → (firstT sig m i t).1 ≤ (i : Int) + t.length
  | [], m, i, h => by simp [firstT] at h
  | c :: t, m, i, h => by
    rw [firstT_cons] at h ⊢
    cases hc : codeD sig c with
    | none => rw [hc] at h; simp at h
    | some e =>
      rw [hc] at h
      simp only at h ⊢
      split
      · simp only [List.length_cons]; omega
      · rename_i hm
        rw [if_neg hm] at h
        have := firstT_le sig t (m + e) (i + 1) h
        simp only [List.length_cons]
        omega

theorem row_first {sig : List Sy} {t : List Int} : rowE sig t = 0 ↔ firstT sig 1 0 t = ((t.length : Int), 0) := by
  unfold rowE
  constructor
  · intro h
    split at h
    · cases h
    · rename_i hn
      have h1 := firstT_le sig t 1 0 h
      have h2 : ¬ (firstT sig 1 0 t).1 < (t.length : Int) := fun h3 => hn ⟨h, h3⟩
      refine Prod.ext ?_ h
      show (firstT sig 1 0 t).1 = _
      omega
  · intro h
    rw [h]
    simp

/-- The binds ahead of a number; those behind it. -/
def pre (x : Int) (r : List Bd) : List Bd := r.takeWhile fun c => decide (c.1 < x)
def skipE (x : Int) : List Bd → List Bd
  | [] => []
  | c :: r => if c.1 = x then r else c :: r
def post (x : Int) (r : List Bd) : List Bd := skipE x (r.dropWhile fun c => decide (c.1 < x))

end Go.Proofs.YtdjmjhlbjcgoiaaGreatDoor

/- The tree of a right term. -/
namespace Go.Proofs.YtdjmjhlbjcgoiaaGreatDoor
open Go.RowKit Go.Maps Go.Shelf

attribute [local go_sem] Oper.semAt_some

/-- How many arguments a code has. -/
def arN (sig : List Sy) (c : Int) : Nat := match sig[c.toNat]? with | some s => s.2.toNat | none => 0

/-- A code more, from the back to the front: what begins first is the last one. -/
def growStep (sig : List Sy) (st : List Tr) (c : Int) : List Tr := if c < 0 then st ++ [.var] else st.take (st.length - arN sig c) ++ [.app (st.drop (st.length - arN sig c)).reverse]

def growR (sig : List Sy) : List Int → List Tr
  | [] => []
  | c :: u => growStep sig (growR sig u) c

theorem sizes_rev : ∀ ts : List Tr, sizes ts.reverse = sizes ts
  | [] => rfl
  | t :: ts => by
    rw [List.reverse_cons, sizes_app, sizes_rev ts]
    simp only [sizes]
    omega

theorem growStep_sizes (sig : List Sy) (st : List Tr) (c : Int) : sizes (growStep sig st c) = sizes st + 1 := by
  unfold growStep
  split
  · rw [sizes_app]; simp [sizes, Tr.size]
  · have h1 := sizes_app (st.take (st.length - arN sig c)) (st.drop (st.length - arN sig c))
    rw [List.take_append_drop] at h1
    rw [sizes_app]
    simp only [sizes, Tr.size, sizes_rev]
    omega

theorem growR_sizes (sig : List Sy) : ∀ u : List Int, sizes (growR sig u) = u.length
  | [] => rfl
  | c :: u => by
    show sizes (growStep sig (growR sig u) c) = _
    rw [growStep_sizes, growR_sizes sig u, List.length_cons]

theorem codeD_ar {sig : List Sy} (ha : ArOk sig) {c e : Int} (h : codeD sig c = some e) (hc : ¬ c < 0) : e = (arN sig c : Int) - 1 ∧ c.toNat < sig.length := by
  unfold codeD at h
  by_cases h9 : c < -1048576
  · omega
  · rw [if_neg h9, if_neg hc] at h
    cases hs : sig[c.toNat]? with
    | none => rw [hs] at h; cases h
    | some s =>
      rw [hs] at h
      have := ha s (List.mem_of_getElem? hs)
      simp only [Option.some.injEq] at h
      unfold arN
      rw [hs]
      simp only
      exact ⟨by omega, (List.getElem?_eq_some_iff.1 hs).1⟩

/-- The terms that a row is made of, and that each code finds its arguments. -/
theorem growR_len {sig : List Sy} (ha : ArOk sig) : ∀ (u : List Int) (m : Int) (i : Nat), 1 ≤ m → firstT sig m i u = ((i : Int) + u.length, 0) → ((growR sig u).length : Int) = m
  | [], m, i, hm, h => by simp [firstT] at h
  | c :: u, m, i, hm, h => by
    rw [firstT_cons] at h
    cases hc : codeD sig c with
    | none => rw [hc] at h; simp at h
    | some e =>
      rw [hc] at h
      simp only at h
      have he := codeD_ge ha hc
      have hlen : ((growR sig u).length : Int) = m + e := by
        by_cases h0 : m + e = 0
        · rw [if_pos h0] at h
          have := congrArg Prod.fst h
          simp only [List.length_cons] at this
          obtain rfl : u = [] := List.eq_nil_of_length_eq_zero (by omega)
          show ((0 : Nat) : Int) = _
          omega
        · rw [if_neg h0] at h
          exact growR_len ha u (m + e) (i + 1) (by omega) (by rw [h]; simp only [List.length_cons, Prod.mk.injEq, and_true]; omega)
      show ((growStep sig (growR sig u) c).length : Int) = m
      unfold growStep
      by_cases hv : c < 0
      · rw [if_pos hv, List.length_append]
        have he1 : e = -1 := by
          have hc2 := hc
          unfold codeD at hc2
          by_cases h9 : c < -1048576
          · rw [if_pos h9] at hc2; cases hc2
          · rw [if_neg h9, if_pos hv] at hc2; cases hc2; rfl
        simp only [List.length_cons, List.length_nil]
        omega
      · rw [if_neg hv, List.length_append, List.length_take]
        have := (codeD_ar ha hc hv).1
        simp only [List.length_cons, List.length_nil]
        omega

/-- Each code of a right term: it is one, and its arguments are there. -/
theorem grow_code {sig : List Sy} (ha : ArOk sig) : ∀ (p : List Int) (c : Int) (u : List Int) (m : Int) (i : Nat), 1 ≤ m → firstT sig m i (p ++ c :: u) = ((i : Int) + (p ++ c :: u).length, 0) → ¬ c < 0 → c.toNat < sig.length ∧ arN sig c ≤ (growR sig u).length
  | [], c, u, m, i, hm, h, hv => by
    rw [List.nil_append] at h
    have hl := growR_len ha (c :: u) m i hm h
    rw [firstT_cons] at h
    cases hc : codeD sig c with
    | none => rw [hc] at h; simp at h
    | some e =>
      rw [hc] at h
      simp only at h
      obtain ⟨k1, k2⟩ := codeD_ar ha hc hv
      refine ⟨k2, ?_⟩
      by_cases h0 : m + e = 0
      · omega
      · rw [if_neg h0] at h
        have := growR_len ha u (m + e) (i + 1) (by have := codeD_ge ha hc; omega) (by rw [h]; simp only [List.length_cons, Prod.mk.injEq, and_true]; omega)
        omega
  | d :: p, c, u, m, i, hm, h, hv => by
    rw [List.cons_append, firstT_cons] at h
    cases hc : codeD sig d with
    | none => rw [hc] at h; simp at h
    | some e =>
      rw [hc] at h
      simp only at h
      by_cases h0 : m + e = 0
      · rw [if_pos h0] at h
        have := congrArg Prod.fst h
        simp at this
        omega
      · rw [if_neg h0] at h
        exact grow_code ha p c u (m + e) (i + 1) (by have := codeD_ge ha hc; omega) (by rw [h]; simp only [List.length_cons, Prod.mk.injEq, and_true]; omega) hv

theorem grow_one {sig : List Sy} (ha : ArOk sig) {t : List Int} (h : rowE sig t = 0) : ∃ T, growR sig t = [T] ∧ T.size = t.length := by
  have h1 := growR_len ha t 1 0 (by omega) (by rw [row_first.1 h]; simp)
  have h2 := growR_sizes sig t
  cases hg : growR sig t with
  | nil => rw [hg] at h1; simp at h1
  | cons T r =>
    rw [hg] at h1 h2
    obtain rfl : r = [] := List.eq_nil_of_length_eq_zero (by simp at h1; omega)
    exact ⟨T, rfl, by simpa [sizes] using h2⟩

end Go.Proofs.YtdjmjhlbjcgoiaaGreatDoor

/- Rows that are spoilt; rows of one's own that lie apart. -/
namespace Go.Proofs.YtdjmjhlbjcgoiaaGreatDoor
open Go.RowKit Go.Maps Go.BigFrame

theorem own_blk_lt {w : World} {base : Nat} {e : TypeId} {s m j : Nat} {v : Value} {xs : List Value} (h : w.ownsRow base e s v m xs) (hj : v.ownBlock = some j) : j < w.heap.size := by
  rcases h.2 with ⟨rfl, _⟩ | ⟨g', cap, cur, rfl, hb, hg, _⟩
  · cases hj
  · cases hj
    exact (Array.getElem?_eq_some_iff.1 hg).1

/-- A number joined to a row of one's own, with what becomes of its block. -/
theorem join_one (ty : TypeId) {w : World} {base : Nat} {x : Value} {xs : List Int} {c : Int} (ho : OwI w base x xs) (h1 : -9223372036854775808 ≤ c) (h2 : c ≤ 9223372036854775807) (hb : base ≤ w.heap.size) (hl : (xs.length + 1) * 8 ≤ 140737488355328) :
    ∃ v' w', (Builtin.append_ #[30, 30] ty #[x, .slice (some ⟨w.heap.size, 0, none⟩) 1 1]).run Tryz.prog (w.alloc (.cells #[.int .i64 c] 3)) = .ok v' w' ∧ OwI w' base v' (xs ++ [c]) ∧ (w.alloc (.cells #[.int .i64 c] 3)).grownBy w' x.ownBlock ∧ (v'.ownBlock = x.ownBlock ∨ v'.ownBlock = some (w.alloc (.cells #[.int .i64 c] 3)).heap.size) := by
  obtain ⟨i0, hi, hz0, hz1, hz2⟩ := info_parts info_int
  obtain ⟨v', w', hr, g2, g3, _, g5⟩ := run_append_own_at (P := Tryz.prog) (w.alloc (.cells #[.int .i64 c] 3)) base 30 ty 3 i0 _ 1 8 under_ints hi hz0 hz1 hz2 rfl (by decide) x xs.length (xs.map I64) (ownsRow_later ho.2 (below_alloc _)) ⟨w.heap.size, 0, none⟩ 1 1 [I64 c] rfl
    (fun j u hj => by
      rw [Addr.add_lit, Nat.zero_add]
      cases j with
      | zero => simp at hj; subst hj; exact cell_new rfl
      | succ j => simp at hj) (fun u hu => by simp at hu; subst hu; rfl) (by unfold maxLen; omega) (by omega) (Nat.le_trans hb (below_alloc _).size)
  refine ⟨v', w', hr, ⟨fun k y hk => ?_, ?_⟩, g3, g5⟩
  · by_cases hkl : k < xs.length
    · rw [List.getElem?_append_left hkl] at hk
      exact ho.1 k y hk
    · rw [List.getElem?_append_right (by omega)] at hk
      have hk0 : k - xs.length = 0 := by
        have := (List.getElem?_eq_some_iff.1 hk).1
        simp at this
        omega
      rw [hk0] at hk
      simp at hk
      subst hk
      exact ⟨h1, h2⟩
  · rw [List.length_append, List.map_append]
    exact g2

end Go.Proofs.YtdjmjhlbjcgoiaaGreatDoor

/- Where the term at a place ends; endOf walked. -/
namespace Go.Proofs.YtdjmjhlbjcgoiaaGreatDoor
open Go.RowKit Go.Maps

/-- A part of a row. -/
theorem Is.mid {w : World} {b off cap k m : Nat} {t : List Int} (h : Is w (.slice (some ⟨b, off, none⟩) t.length cap) t) (hk : k < t.length) (hm : k + m ≤ t.length) : Is w (.slice (some ⟨b, off + k, none⟩) m (cap - k)) ((t.drop k).take m) := by
  obtain ⟨ao, cap', e, h1, h2, h3⟩ := h
  simp only [Value.slice.injEq, true_and] at e
  obtain ⟨rfl, rfl⟩ := e
  obtain ⟨g, o, e, hg, hE⟩ := h3 (by omega)
  simp only [Option.some.injEq, Addr.mk.injEq, and_true] at e
  obtain ⟨rfl, rfl⟩ := e
  have hl : ((t.drop k).take m).length = m := by rw [List.length_take, List.length_drop]; omega
  refine ⟨some ⟨b, off + k, none⟩, cap - k, by rw [hl], by omega, by omega, fun _ => ⟨b, off + k, rfl, hg, fun j x hj => ?_⟩⟩
  have hjl := (List.getElem?_eq_some_iff.1 hj).1
  rw [List.getElem?_take_of_lt (by omega), List.getElem?_drop] at hj
  have := hE (k + j) x hj
  rw [show off + k + j * 1 = off + (k + j) * 1 by omega]
  exact this

/-- What is found at a row's head is a right term by itself. -/
theorem first_take {sig : List Sy} : ∀ (r : List Int) (m : Int) (i : Nat) (n : Int), firstT sig m i r = (n, 0) → ∃ k : Nat, n = (i : Int) + k ∧ 1 ≤ k ∧ k ≤ r.length ∧ firstT sig m i (r.take k) = (n, 0)
  | [], m, i, n, h => by simp [firstT] at h
  | c :: r, m, i, n, h => by
    rw [firstT_cons] at h
    cases hc : codeD sig c with
    | none => rw [hc] at h; simp at h
    | some e =>
      rw [hc] at h
      simp only at h
      by_cases h0 : m + e = 0
      · rw [if_pos h0] at h
        refine ⟨1, ?_, Nat.le_refl _, by simp, ?_⟩
        · have := congrArg Prod.fst h
          simp only at this
          omega
        · rw [List.take_succ_cons, List.take_zero, firstT_cons, hc]
          simp only
          rw [if_pos h0]
          exact h
      · rw [if_neg h0] at h
        obtain ⟨k, h1, h2, h3, h4⟩ := first_take r (m + e) (i + 1) n h
        refine ⟨k + 1, by omega, by omega, by simp; omega, ?_⟩
        rw [List.take_succ_cons, firstT_cons, hc]
        simp only
        rw [if_neg h0]
        exact h4

end Go.Proofs.YtdjmjhlbjcgoiaaGreatDoor

/- A term's arguments, one behind the other. -/
namespace Go.Proofs.YtdjmjhlbjcgoiaaGreatDoor
open Go.RowKit Go.Maps

/-- What stands at the head of a row of terms. -/
theorem first_part {sig : List Sy} (ha : ArOk sig) : ∀ (r : List Int) (d m : Int) (j i : Nat), 1 ≤ d → d ≤ m → firstT sig m i r = ((i : Int) + r.length, 0) →
    ∃ k : Nat, 1 ≤ k ∧ k ≤ r.length ∧ firstT sig d j r = ((j : Int) + k, 0) ∧ (m = d → k = r.length) ∧ (d < m → firstT sig (m - d) (i + k) (r.drop k) = ((i : Int) + r.length, 0))
  | [], d, m, j, i, _, _, h => by simp [firstT] at h
  | c :: r, d, m, j, i, hd, hm, h => by
    rw [firstT_cons] at h ⊢
    cases hc : codeD sig c with
    | none => rw [hc] at h; simp at h
    | some e =>
      have he := codeD_ge ha hc
      rw [hc] at h
      simp only at h ⊢
      by_cases h0 : m + e = 0
      · rw [if_pos h0] at h
        have hl : r.length = 0 := by
          have := congrArg Prod.fst h
          simp at this
          omega
        refine ⟨1, Nat.le_refl _, by simp, by rw [if_pos (by omega)]; simp, fun _ => by simp [hl], fun h1 => by omega⟩
      · rw [if_neg h0] at h
        by_cases h1 : d + e = 0
        · refine ⟨1, Nat.le_refl _, by simp, by rw [if_pos h1]; simp, fun h2 => by omega, fun h2 => ?_⟩
          rw [List.drop_succ_cons, List.drop_zero, show m - d = m + e by omega]
          exact h
        · obtain ⟨k, k1, k2, k3, k4, k5⟩ := first_part ha r (d + e) (m + e) (j + 1) (i + 1) (by omega) (by omega) (by rw [h]; simp only [List.length_cons, Prod.mk.injEq, and_true]; omega)
          refine ⟨k + 1, by omega, by simp; omega, by rw [if_neg h1, k3]; simp only [Prod.mk.injEq, and_true]; omega, fun h2 => by have := k4 (by omega); simp; omega, fun h2 => ?_⟩
          have h3 := k5 (by omega)
          rw [List.drop_succ_cons, show m - d = m + e - (d + e) by omega, show i + (k + 1) = i + 1 + k by omega, h3]
          simp only [List.length_cons, Prod.mk.injEq, and_true]
          omega

/-- A row of m terms is taken apart. -/
theorem split_first {sig : List Sy} (ha : ArOk sig) : ∀ (m : Nat) (r : List Int) (i : Nat), 1 ≤ m → firstT sig m i r = ((i : Int) + r.length, 0) → ∃ us : List (List Int), us.length = m ∧ r = us.flatten ∧ ∀ u ∈ us, rowE sig u = 0
  | 0, _, _, h, _ => absurd h (by omega)
  | m + 1, r, i, _, h => by
    obtain ⟨k, k1, k2, k3, k4, k5⟩ := first_part ha r 1 ((m + 1 : Nat) : Int) 0 i (by omega) (by omega) h
    obtain ⟨k', e1, _, _, e4⟩ := first_take r 1 0 _ k3
    have hkk : k' = k := by omega
    subst hkk
    have hr : rowE sig (r.take k') = 0 := by
      rw [row_first, e4, List.length_take]
      simp only [Prod.mk.injEq, and_true]
      omega
    by_cases hm : m = 0
    · subst hm
      have := k4 (by omega)
      refine ⟨[r], rfl, by simp, fun u hu => ?_⟩
      rw [List.mem_singleton] at hu
      subst hu
      rw [List.take_of_length_le (by omega)] at hr
      exact hr
    · have h5 := k5 (by omega)
      rw [show ((m + 1 : Nat) : Int) - 1 = (m : Int) by omega] at h5
      obtain ⟨us, u1, u2, u3⟩ := split_first ha m (r.drop k') (i + k') (by omega) (by rw [h5, List.length_drop]; simp only [Prod.mk.injEq, and_true]; omega)
      refine ⟨r.take k' :: us, by simp [u1], by rw [List.flatten_cons, ← u2, List.take_append_drop], fun u hu => ?_⟩
      rcases List.mem_cons.1 hu with rfl | hu
      · exact hr
      · exact u3 u hu

/-- Places by lengths. -/
def places : Nat → List Nat → List Int
  | _, [] => []
  | p, n :: ns => (p : Int) :: places (p + n) ns

theorem term_parts {sig : List Sy} {t : List Int} (h : termE sig t = 0) : sigE sig = 0 ∧ rowE sig t = 0 := by
  unfold termE at h
  by_cases hs : sigE sig = 0
  · rw [if_pos hs] at h; exact ⟨hs, h⟩
  · rw [if_neg hs] at h; exact absurd h hs

end Go.Proofs.YtdjmjhlbjcgoiaaGreatDoor

/- Like monomials brought together, as plain data: rows of keys (bytes) with their limbs, rising. -/
namespace Go.Proofs.YtdjmjhlbjcgoiaaGreatDoor

/-- Which of two rows of bytes comes first (of one length). -/
def cmpK : List Nat → List Nat → Int
  | [], [] => 0
  | [], _ :: _ => -1
  | _ :: _, [] => 1
  | a :: r, b :: q => if a < b then -1 else if b < a then 1 else cmpK r q

abbrev ltK (a b : List Nat) : Prop := cmpK a b < 0

theorem cmpK_self (a : List Nat) : cmpK a a = 0 := by
  induction a with
  | nil => rfl
  | cons a r ih => simp [cmpK, ih]

theorem cmpK_zero {a b : List Nat} (h : cmpK a b = 0) : a = b := by
  induction a generalizing b with
  | nil => cases b with
    | nil => rfl
    | cons b q => simp [cmpK] at h
  | cons a r ih => cases b with
    | nil => simp [cmpK] at h
    | cons b q =>
      unfold cmpK at h
      split at h
      · omega
      · split at h
        · omega
        · rw [ih h, show a = b by omega]

theorem cmpK_swap (a b : List Nat) : cmpK b a = -cmpK a b := by
  induction a generalizing b with
  | nil => cases b <;> simp [cmpK]
  | cons a r ih => cases b with
    | nil => simp [cmpK]
    | cons b q =>
      unfold cmpK
      by_cases h1 : a < b
      · rw [if_neg (by omega), if_pos h1, if_pos h1]; rfl
      · by_cases h2 : b < a
        · rw [if_pos h2, if_neg h1, if_pos h2]
        · rw [if_neg h2, if_neg h1, if_neg h1, if_neg h2, ih]

theorem ltK_trans {a b c : List Nat} (h : ltK a b) (h' : ltK b c) : ltK a c := by
  unfold ltK at *
  induction a generalizing b c with
  | nil => cases b with
    | nil => exact h'
    | cons b q => cases c with
      | nil => simp [cmpK] at h'
      | cons c s => simp [cmpK]
  | cons a r ih => cases b with
    | nil => simp [cmpK] at h
    | cons b q => cases c with
      | nil => simp [cmpK] at h'
      | cons c s =>
        unfold cmpK at h h' ⊢
        by_cases h1 : a < b
        · by_cases h2 : b < c
          · rw [if_pos (by omega)]; omega
          · rw [if_neg h2] at h'
            by_cases h3 : c < b
            · rw [if_pos h3] at h'; omega
            · rw [if_pos (by omega)]; omega
        · rw [if_neg h1] at h
          by_cases h4 : b < a
          · rw [if_pos h4] at h; omega
          · rw [if_neg h4] at h
            obtain rfl : a = b := by omega
            by_cases h2 : a < c
            · rw [if_pos h2]; omega
            · rw [if_neg h2] at h' ⊢
              by_cases h3 : c < a
              · rw [if_pos h3] at h'; omega
              · rw [if_neg h3] at h' ⊢
                exact ih h h'

theorem ltK_irrefl (a : List Nat) : ¬ ltK a a := by unfold ltK; rw [cmpK_self]; omega

theorem ltK_or {a b : List Nat} (h : ¬ a = b) (h' : ¬ ltK a b) : ltK b a := by
  unfold ltK at *
  have h1 := cmpK_swap a b
  have h2 : ¬ cmpK a b = 0 := fun e => h (cmpK_zero e)
  omega

abbrev LkY := List (List Nat × List Nat)

def Rising (L : LkY) : Prop := L.Pairwise (fun p q => ltK p.1 q.1)

/-- The limbs at a key; none: there is no such one. -/
def coefK (L : LkY) (k : List Nat) : List Nat := ((L.find? (fun p => p.1 == k)).map (·.2)).getD []

def hasK (L : LkY) (k : List Nat) : Bool := L.any (fun p => p.1 == k)

/-- Limbs laid at a key. -/
def insK : LkY → List Nat → List Nat → LkY
  | [], k, c => [(k, c)]
  | p :: r, k, c => if k = p.1 then (k, c) :: r else if ltK k p.1 then (k, c) :: p :: r else p :: insK r k c

theorem mem_insK {L : LkY} {k c : List Nat} (hL : Rising L) (q : List Nat × List Nat) : q ∈ insK L k c ↔ q = (k, c) ∨ (q ∈ L ∧ ¬ q.1 = k) := by
  induction L with
  | nil => simp [insK]
  | cons p r ih =>
    unfold Rising at hL
    rw [List.pairwise_cons] at hL
    have ih := ih hL.2
    unfold insK
    by_cases h1 : k = p.1
    · rw [if_pos h1]
      simp only [List.mem_cons]
      constructor
      · rintro (h | h)
        · exact .inl h
        · refine .inr ⟨.inr h, fun e => ?_⟩
          have := hL.1 q h
          rw [e, h1] at this
          exact ltK_irrefl _ this
      · rintro (h | ⟨h | h, h2⟩)
        · exact .inl h
        · exact absurd (by rw [h, h1]) h2
        · exact .inr h
    · rw [if_neg h1]
      by_cases h2 : ltK k p.1
      · rw [if_pos h2]
        simp only [List.mem_cons]
        constructor
        · rintro (h | h | h)
          · exact .inl h
          · exact .inr ⟨.inl h, by rw [h]; exact fun e => h1 e.symm⟩
          · refine .inr ⟨.inr h, fun e => ?_⟩
            have := hL.1 q h
            rw [e] at this
            exact ltK_irrefl _ (ltK_trans h2 this)
        · rintro (h | ⟨h | h, _⟩)
          · exact .inl h
          · exact .inr (.inl h)
          · exact .inr (.inr h)
      · rw [if_neg h2]
        simp only [List.mem_cons, ih]
        constructor
        · rintro (h | h | ⟨h, h3⟩)
          · exact .inr ⟨.inl h, by rw [h]; exact fun e => h1 e.symm⟩
          · exact .inl h
          · exact .inr ⟨.inr h, h3⟩
        · rintro (h | ⟨h | h, h3⟩)
          · exact .inr (.inl h)
          · exact .inl h
          · exact .inr (.inr ⟨h, h3⟩)

theorem rising_insK {L : LkY} {k c : List Nat} (hL : Rising L) : Rising (insK L k c) := by
  induction L with
  | nil => simp [insK, Rising]
  | cons p r ih =>
    have hL' := hL
    unfold Rising at hL
    rw [List.pairwise_cons] at hL
    unfold insK
    by_cases h1 : k = p.1
    · rw [if_pos h1]
      unfold Rising
      rw [List.pairwise_cons]
      exact ⟨fun q hq => by show ltK k q.1; rw [h1]; exact hL.1 q hq, hL.2⟩
    · rw [if_neg h1]
      by_cases h2 : ltK k p.1
      · rw [if_pos h2]
        unfold Rising
        rw [List.pairwise_cons]
        refine ⟨fun q hq => ?_, hL'⟩
        show ltK k q.1
        rcases List.mem_cons.1 hq with rfl | hq
        · exact h2
        · exact ltK_trans h2 (hL.1 q hq)
      · rw [if_neg h2]
        unfold Rising
        rw [List.pairwise_cons]
        refine ⟨fun q hq => ?_, ih hL.2⟩
        rcases (mem_insK hL.2 q).1 hq with rfl | ⟨hq, _⟩
        · exact ltK_or h1 h2
        · exact hL.1 q hq

theorem hasK_iff {L : LkY} {k : List Nat} : hasK L k = true ↔ ∃ c, (k, c) ∈ L := by
  unfold hasK
  rw [List.any_eq_true]
  constructor
  · rintro ⟨⟨k', c⟩, h, e⟩
    have : k' = k := by simpa using e
    subst this
    exact ⟨c, h⟩
  · rintro ⟨c, h⟩
    exact ⟨(k, c), h, by simp⟩

theorem length_insK {L : LkY} {k c : List Nat} (hL : Rising L) : (insK L k c).length = if hasK L k then L.length else L.length + 1 := by
  induction L with
  | nil => simp [insK, hasK]
  | cons p r ih =>
    unfold Rising at hL
    rw [List.pairwise_cons] at hL
    have ih := ih hL.2
    unfold insK
    by_cases h1 : k = p.1
    · rw [if_pos h1]
      have : hasK (p :: r) k = true := by simp [hasK, h1]
      rw [this]; simp
    · rw [if_neg h1]
      have hb : (p.1 == k) = false := by rw [beq_eq_false_iff_ne]; exact fun e => h1 e.symm
      have hc : hasK (p :: r) k = hasK r k := by simp [hasK, hb]
      by_cases h2 : ltK k p.1
      · rw [if_pos h2]
        have : hasK (p :: r) k = false := by
          rw [Bool.eq_false_iff]
          intro h
          rw [hc, hasK_iff] at h
          obtain ⟨c', h⟩ := h
          exact ltK_irrefl _ (ltK_trans h2 (hL.1 _ h))
        rw [this]; simp
      · rw [if_neg h2, hc, List.length_cons, ih]
        split <;> simp

theorem coefK_mem {L : LkY} {k c : List Nat} (hL : Rising L) (h : (k, c) ∈ L) : coefK L k = c := by
  induction L with
  | nil => cases h
  | cons p r ih =>
    unfold Rising at hL
    rw [List.pairwise_cons] at hL
    rcases List.mem_cons.1 h with rfl | h
    · simp [coefK]
    · have hb : (p.1 == k) = false := by
        rw [beq_eq_false_iff_ne]
        intro e
        have := hL.1 _ h
        rw [e] at this
        exact ltK_irrefl _ this
      have := ih hL.2 h
      unfold coefK at this ⊢
      rw [List.find?_cons, hb]
      exact this

theorem coefK_none {L : LkY} {k : List Nat} (h : hasK L k = false) : coefK L k = [] := by
  unfold coefK
  rw [List.find?_eq_none.2]
  · rfl
  · intro p hp e
    have : hasK L k = true := List.any_eq_true.2 ⟨p, hp, e⟩
    rw [h] at this
    cases this

/-- What put answers, and what it leaves. -/
def putE (L : LkY) (k c : List Nat) : Int := if addE (coefK L k) c = 0 then (if (insK L k (addL (coefK L k) c)).length ≤ 256 then 0 else 2) else addE (coefK L k) c

def putL (L : LkY) (k c : List Nat) : LkY := if addE (coefK L k) c = 0 then insK L k (addL (coefK L k) c) else L

end Go.Proofs.YtdjmjhlbjcgoiaaGreatDoor

/- Rows of exponents as bytes: packed, unpacked, raised. -/
namespace Go.Proofs.YtdjmjhlbjcgoiaaGreatDoor
open Go.RowKit

/-- A row of bytes as an array's cells. -/
def arr (ks : List Nat) : Array Value := (ks.map fun (x : Nat) => Value.int .u8 (x : Int)).toArray

theorem arr_size (ks : List Nat) : (arr ks).size = ks.length := by simp [arr]

theorem arr_get {ks : List Nat} {k x : Nat} (h : ks[k]? = some x) : (arr ks)[k]? = some (.int .u8 (x : Int)) := by simp [arr, h]

theorem arr_one (ks : List Nat) : (arr ks).all (·.oneCell') = true := by
  rw [Array.all_eq_true_iff_forall_mem]
  intro v hv
  simp only [arr, List.mem_toArray, List.mem_map] at hv
  obtain ⟨x, _, rfl⟩ := hv
  rfl

def zeros : List Nat := List.replicate 512 0

set_option maxRecDepth 100000 in
theorem zero_cells : Tryz.zeroCells160 = arr zeros := by kernel_rfl

theorem len_zeros : zeros.length = 512 := List.length_replicate

/-- Block g holds a row of bytes. -/
def Ar (w : World) (g : Nat) (ks : List Nat) : Prop := w.heap[g]? = some (.cells (arr ks) 160 (0, 0))

theorem Ar.lt {w : World} {g : Nat} {ks : List Nat} (h : Ar w g ks) : g < w.heap.size := (Array.getElem?_eq_some_iff.1 h).1

theorem Ar.cell {w : World} {g : Nat} {ks : List Nat} (h : Ar w g ks) {k x : Nat} (hk : ks[k]? = some x) : w.cell? ⟨g, k, none⟩ = some (.int .u8 (x : Int)) := by
  rw [cell_of_row w g k _ _ _ h, arr_get hk]

theorem Ar.frozen {w : World} {g : Nat} {ks : List Nat} (h : Ar w g ks) (k : Nat) : w.frozen? ⟨g, k, none⟩ = false := by
  unfold Ar at h
  simp [World.frozen?, h]

theorem Ar.set {w : World} {g : Nat} {ks : List Nat} (h : Ar w g ks) (k x : Nat) : Ar (w.setCell ⟨g, k, none⟩ (.int .u8 (x : Int))) g (ks.set k x) := by
  unfold Ar at h ⊢
  rw [setCell_eq_setRow w g k _ _ _ _ h, setRow_heap w g _ _ _ _ h]
  congr 2
  simp [arr, List.map_set]

theorem Ar.below {w w' : World} {B g : Nat} {ks : List Nat} (h : Ar w g ks) (hb : Below B w w') (hg : g < B) : Ar w' g ks := (hb.block g hg).trans h

theorem Ar.later {w w' : World} {g : Nat} {ks : List Nat} (h : Ar w g ks) (hb : Below w.heap.size w w') : Ar w' g ks := h.below hb h.lt

theorem Ar.setOther {w : World} {g g' k : Nat} {ks : List Nat} {v : Value} (h : Ar w g ks) (hne : g ≠ g') : Ar (w.setCell ⟨g', k, none⟩ v) g ks := (Below.heap_setCell w ⟨g', k, none⟩ v g hne).trans h

theorem Ar.new (w : World) (ks : List Nat) : Ar (w.alloc (.cells (arr ks) 160)) w.heap.size ks := heap_alloc_new w _

/-- The exponents as a row of 512 bytes. -/
def keyX (es : List Int) : List Nat := es.map Int.toNat ++ List.replicate (512 - es.length) 0

/-- The same, as far as some place. -/
def keyTo (es : List Int) (k : Nat) : List Nat := (es.take k).map Int.toNat ++ List.replicate (512 - k) 0

theorem keyTo_full (es : List Int) : keyTo es es.length = keyX es := by simp [keyTo, keyX]

theorem keyTo_get {es : List Int} {k : Nat} (h : k < es.length) (h' : k < 512) : (keyTo es k)[k]? = some 0 := by
  unfold keyTo
  have hl : ((es.take k).map Int.toNat).length = k := by simp; omega
  rw [List.getElem?_append_right (by omega), hl, Nat.sub_self, List.getElem?_replicate, if_pos (by omega)]

theorem keyTo_step {es : List Int} {k : Nat} {x : Int} (h : es[k]? = some x) (h' : k < 512) : (keyTo es k).set k x.toNat = keyTo es (k + 1) := by
  have hk := (List.getElem?_eq_some_iff.1 h).1
  unfold keyTo
  rw [show 512 - k = (512 - (k + 1)) + 1 by omega, List.replicate_succ, set_mid _ _ _ _ _ (by simp; omega), take_getY h]
  simp

theorem keyX_len {es : List Int} (h : es.length ≤ 512) : (keyX es).length = 512 := by simp [keyX]; omega

theorem info_arr : (Tryz.prog.info? 160).map (·.size) = some 512 := by kernel_rfl

theorem under_arr : Tryz.prog.underlying 160 = some (.array 512 5) := by kernel_rfl

theorem Ar.put {w w0 : World} {g B : Nat} {ks : List Nat} (h : Ar w g ks) (hb : Below B w0 w) (hB : B ≤ g) {k z : Nat} {V : Int} (hV : V = (z : Int)) {ys : List Nat} (hys : ks.set k z = ys) :
    Ar (w.setCell ⟨g, k, none⟩ (.int .u8 V)) g ys ∧ Below B w0 (w.setCell ⟨g, k, none⟩ (.int .u8 V)) := by
  subst hV; subst hys
  exact ⟨h.set k z, hb.setCell (p := ⟨g, k, none⟩) hB _⟩

theorem below_setRowY {B : Nat} {a w : World} (h : Below B a w) {g : Nat} (hg : B ≤ g) {cs : Array Value} : Below B a (w.setRow g cs) :=
  h.trans ⟨rfl, rfl, rfl, by simp [World.setRow], fun k hk => setRow_other w g k _ (by omega)⟩

theorem results_ct_row {fn : Func} {p u : Tmp} (h : fn.results = #[.cell p 160, .tmp u]) (tmps : Array Value) (w : World) (g : Nat) (t : TypeId) (cs : Array Value) (fr : Nat × Nat)
    (hp : tmps.getD p undef = .pointer (some ⟨g, 0, none⟩)) (hg : w.heap[g]? = some (.cells cs t fr)) (hi : cs.size = 512) :
    (results fn tmps).run Tryz.prog w = .ok (.tuple #[.agg cs, tmps.getD u undef]) w := by
  rw [results_cell_tmp h, hp]
  simp only [asAddr, Sem.run_pure, Result.andThen_ok, run_loadVar_row w g t 160 cs fr _ hg under_arr rfl (by rw [info_arr, hi])]

/-- Exponents in bounds. -/
def Small (es : List Int) : Prop := es.length ≤ 512 ∧ ∀ (k : Nat) (x : Int), es[k]? = some x → 0 ≤ x ∧ x ≤ 64

set_option maxRecDepth 100000 in
set_option maxHeartbeats 800000 in
theorem packed_any (v : Value) (es : List Int) (w : World) (h : Is w v es) (hs : Small es) :
    Calls Tryz.prog 115 #[v] w fun e w' => e = .returned (.agg (arr (keyX es))) ∧ Below w.heap.size w w' := by
  obtain ⟨ao, cap, rfl, hao, hca, q0⟩ := Row.flat h
  unfold maxLen at hca
  have h512 := hs.1
  have HS : Hid (Small es) := hs
  have HI : Hid (Is w (.slice ao es.length cap) es) := h
  clear h q0 hs
  go_enter Tryz.func115, Tryz.ntmps115
  go_wp2
  rw [zero_cells]
  go_loopw [8] (fun i wr => ∃ k : Nat, k ≤ es.length ∧ i = .int .i64 k ∧ Ar wr w.heap.size zeros ∧ Ar wr (w.heap.size + 1) (keyTo es k) ∧ Below w.heap.size w wr) (fun i _ => es.length - (intOf i).toNat)
  case atStart =>
    refine ⟨0, by omega, rfl, ?_, ?_, ?_⟩
    · exact (Ar.new w zeros).later (below_alloc _)
    · have := Ar.new (w.alloc (.cells (arr zeros) 160)) zeros
      simpa [keyTo, zeros] using this
    · exact below_step (below_alloc _) (below_alloc _)
  case round =>
    obtain ⟨k, hk, rfl, hz, hy, hbl⟩ := hrel
    have HZ : Hid (Ar wr w.heap.size zeros) := hz
    have HY : Hid (Ar wr (w.heap.size + 1) (keyTo es k)) := hy
    clear hz hy
    by_cases hlt : k < es.length
    · obtain ⟨g, off, x, rfl, hx1, hx2, hx3, hx4⟩ := (HI.out.kp (Kp.of_below hbl)).at hlt
      have HX : Hid (es[k]? = some x) := hx1
      obtain ⟨hx5, hx6⟩ := HS.out.2 k x hx1
      have hcell := HY.out.cell (keyTo_get hlt (by omega))
      have hfr := HY.out.frozen k
      have hk512 : k < 512 := by omega
      clear hx1
      have hq := HY.out.put hbl (by omega) (k := k) (z := x.toNat) (V := x) (by omega) (keyTo_step HX.out hk512)
      have HP : Hid (Ar (wr.setCell ⟨w.heap.size + 1, k, none⟩ (.int .u8 x)) (w.heap.size + 1) (keyTo es (k + 1)) ∧ Below w.heap.size w (wr.setCell ⟨w.heap.size + 1, k, none⟩ (.int .u8 x))) := hq
      clear hq
      go_wp2
      go_roundw
      case rel => exact ⟨k + 1, by omega, by go_num, HZ.out.setOther (by omega), HP.out.1, HP.out.2⟩
      case measure => simp [intOf]; omega
    · have hke : k = es.length := by omega
      subst hke
      have hy := HY.out
      rw [keyTo_full] at hy
      have HY2 : Hid (Ar wr (w.heap.size + 1) (keyX es)) := hy
      have hl2 := keyX_len h512
      clear hy HY
      go_wp2_with (first
        | (refine wpList_load_row rfl _ _ rfl (w.heap.size + 1) rfl _ _ _ _ HY2.out under_arr rfl (by rw [info_arr, arr_size, hl2]) ?_)
        | (refine wpList_store_row rfl _ _ _ rfl w.heap.size (arr (keyX es)) rfl rfl _ _ HZ.out (by rw [info_arr, arr_size, hl2]) (by rw [arr_size, arr_size, len_zeros, hl2]) (arr_one _) ?_))
      refine bodyPost_ret (results_cell_row rfl _ _ w.heap.size _ (arr (keyX es)) (0, 0) _ rfl (setRow_heap wr _ _ _ _ _ HZ.out) under_arr rfl (by rw [info_arr, arr_size, hl2])) rfl ?_
      exact ⟨rfl, below_setRowY hbl (Nat.le_refl _)⟩

/-- The bytes of two rows, added. -/
def addK (a b : List Nat) : List Nat := List.zipWith (· + ·) a b

def addTo (ks : List Nat) (es : List Int) (k : Nat) : List Nat := addK (ks.take k) ((es.take k).map Int.toNat) ++ ks.drop k

theorem addTo_get {ks : List Nat} {es : List Int} {k x : Nat} (hk : ks[k]? = some x) (h : k < es.length) : (addTo ks es k)[k]? = some x := by
  have h1 := (List.getElem?_eq_some_iff.1 hk).1
  have hl : (addK (ks.take k) ((es.take k).map Int.toNat)).length = k := by simp [addK]; omega
  unfold addTo
  rw [List.getElem?_append_right (by omega), hl, Nat.sub_self, List.getElem?_drop, Nat.add_zero, hk]

theorem addTo_step {ks : List Nat} {es : List Int} {k x : Nat} {y : Int} (hk : ks[k]? = some x) (h : es[k]? = some y) : (addTo ks es k).set k (x + y.toNat) = addTo ks es (k + 1) := by
  have h1 := (List.getElem?_eq_some_iff.1 hk).1
  have h2 := (List.getElem?_eq_some_iff.1 h).1
  have hl : (addK (ks.take k) ((es.take k).map Int.toNat)).length = k := by simp [addK]; omega
  unfold addTo
  rw [drop_getY hk, set_mid _ _ _ _ _ hl, take_getY hk, take_getY h]
  unfold addK
  rw [List.map_append, List.zipWith_append (by simp; omega)]
  simp

theorem addK_zero (ks : List Nat) : ∀ n, n = ks.length → addK ks (List.replicate n 0) = ks := by
  intro n hn
  subst hn
  induction ks with
  | nil => rfl
  | cons a r ih => simp only [List.length_cons, List.replicate_succ, addK, List.zipWith_cons_cons, Nat.add_zero]; congr 1

theorem addTo_full {ks : List Nat} {es : List Int} (hk : ks.length = 512) (h : es.length ≤ 512) : addTo ks es es.length = addK ks (keyX es) := by
  unfold addTo keyX
  conv => rhs; rw [← List.take_append_drop es.length ks]
  unfold addK
  rw [List.zipWith_append (by simp; omega), List.take_of_length_le (Nat.le_refl es.length)]
  congr 1
  exact (addK_zero _ _ (by simp; omega)).symm

/-- What raised answers. -/
def raisedE (ks : List Nat) (es : List Int) : Int := if (addK ks (keyX es)).all (fun n => decide (n ≤ 64)) then 0 else 2

def raisedK (ks : List Nat) (es : List Int) : List Nat := if (addK ks (keyX es)).all (fun n => decide (n ≤ 64)) then addK ks (keyX es) else zeros

theorem addK_get {a b : List Nat} {k x y : Nat} (h : a[k]? = some x) (h' : b[k]? = some y) : (addK a b)[k]? = some (x + y) := by
  unfold addK; rw [List.getElem?_zipWith, h, h']

theorem keyX_get {es : List Int} {k : Nat} {y : Int} (h : es[k]? = some y) : (keyX es)[k]? = some y.toNat := by
  have h2 := (List.getElem?_eq_some_iff.1 h).1
  unfold keyX
  rw [List.getElem?_append_left (by simpa using h2), List.getElem?_map, h]; rfl

theorem keyX_high {es : List Int} {k : Nat} (h : es.length ≤ k) (hk : k < 512) : (keyX es)[k]? = some 0 := by
  unfold keyX
  rw [List.getElem?_append_right (by simpa using h), List.getElem?_replicate, if_pos (by simp; omega)]

set_option maxRecDepth 100000 in
set_option maxHeartbeats 800000 in
theorem raised_any (v : Value) (ks : List Nat) (es : List Int) (w : World) (h : Is w v es) (hs : Small es) (hk : ks.length = 512) (h64 : ∀ (j x : Nat), ks[j]? = some x → x ≤ 64) :
    Calls Tryz.prog 116 #[.agg (arr ks), v] w fun e w' => e = .returned (.tuple #[.agg (arr (raisedK ks es)), .int .i64 (raisedE ks es)]) ∧ Below w.heap.size w w' := by
  obtain ⟨ao, cap, rfl, hao, hca, q0⟩ := Row.flat h
  unfold maxLen at hca
  have h512 := hs.1
  have HS : Hid (Small es) := hs
  have HI : Hid (Is w (.slice ao es.length cap) es) := h
  have HK : Hid (ks.length = 512) := hk
  have H64 : Hid (∀ (j x : Nat), ks[j]? = some x → x ≤ 64) := h64
  clear h q0 hs h64 hk
  go_enter Tryz.func116, Tryz.ntmps116
  go_wp2
  rw [zero_cells]
  go_loopw [10] (fun i wr => ∃ k : Nat, k ≤ es.length ∧ i = .int .i64 k ∧ Ar wr w.heap.size (addTo ks es k) ∧ Ar wr (w.heap.size + 1) zeros ∧ (∀ (j x : Nat) (y : Int), j < k → ks[j]? = some x → es[j]? = some y → x + y.toNat ≤ 64) ∧ Below w.heap.size w wr) (fun i _ => es.length - (intOf i).toNat)
  case atStart =>
    refine ⟨0, by omega, rfl, ?_, ?_, fun j x y hj => absurd hj (by omega), ?_⟩
    · exact (Ar.new w ks).later (below_alloc _)
    · have := Ar.new (w.alloc (.cells (arr ks) 160)) zeros
      simpa using this
    · exact below_step (below_alloc _) (below_alloc _)
  case round =>
    obtain ⟨k, hk, rfl, hy, hz, hp, hbl⟩ := hrel
    have HZ : Hid (Ar wr (w.heap.size + 1) zeros) := hz
    have HY : Hid (Ar wr w.heap.size (addTo ks es k)) := hy
    have HP : Hid (∀ (j x : Nat) (y : Int), j < k → ks[j]? = some x → es[j]? = some y → x + y.toNat ≤ 64) := hp
    clear hz hy hp
    by_cases hlt : k < es.length
    · obtain ⟨g, off, y, rfl, hx1, hx2, hx3, hx4⟩ := (HI.out.kp (Kp.of_below hbl)).at hlt
      have HX : Hid (es[k]? = some y) := hx1
      obtain ⟨hx5, hx6⟩ := HS.out.2 k y hx1
      obtain ⟨x, hx⟩ : ∃ x, ks[k]? = some x := exists_get (by have := HK.out; omega)
      have hx64 := H64.out k x hx
      have HX2 : Hid (ks[k]? = some x) := hx
      have hcell := HY.out.cell (addTo_get hx hlt)
      have hfr := HY.out.frozen k
      have hk512 : k < 512 := by omega
      have hq := HY.out.put hbl (Nat.le_refl _) (k := k) (z := x + y.toNat) (V := (x : Int) + y) (by omega) (addTo_step HX2.out HX.out)
      have HQ : Hid (Ar (wr.setCell ⟨w.heap.size, k, none⟩ (.int .u8 ((x : Int) + y))) w.heap.size (addTo ks es (k + 1)) ∧ Below w.heap.size w (wr.setCell ⟨w.heap.size, k, none⟩ (.int .u8 ((x : Int) + y)))) := hq
      clear hx1 hx hq
      by_cases hgt : (64 : Int) < (x : Int) + y
      · have HZ2 : Hid (Ar (wr.setCell ⟨w.heap.size, k, none⟩ (.int .u8 ((x : Int) + y))) (w.heap.size + 1) zeros) := HZ.out.setOther (by omega)
        have hsz : Tryz.zeroCells160.size = 512 := Tryz.zeroCells160_size
        have HF : Hid (raisedK ks es = zeros ∧ raisedE ks es = 2) := by
          have : (addK ks (keyX es)).all (fun n => decide (n ≤ 64)) = false := by
            rw [List.all_eq_false]
            exact ⟨_, List.mem_of_getElem? (addK_get HX2.out (keyX_get HX.out)), by simp; omega⟩
          exact ⟨by simp [raisedK, this], by simp [raisedE, this]⟩
        go_wp2_with (first
          | (refine wpList_store_row rfl _ _ _ rfl (w.heap.size + 1) Tryz.zeroCells160 rfl rfl _ _ HZ2.out (by rw [info_arr, hsz]) (by rw [arr_size, len_zeros, hsz]) (by rw [zero_cells]; exact arr_one _) ?_))
        refine bodyPost_ret (results_ct_row rfl _ _ (w.heap.size + 1) _ Tryz.zeroCells160 (0, 0) rfl (setRow_heap _ _ _ _ _ _ HZ2.out) hsz) rfl ?_
        refine ⟨?_, below_setRowY HQ.out.2 (by omega)⟩
        rw [HF.out.1, HF.out.2, zero_cells]
        rfl
      · go_wp2
        go_roundw
        case rel =>
          refine ⟨k + 1, by omega, by go_num, HQ.out.1, HZ.out.setOther (by omega), fun j a b hj ha hb => ?_, HQ.out.2⟩
          by_cases hjk : j = k
          · subst hjk
            rw [HX2.out] at ha; rw [HX.out] at hb; cases ha; cases hb; omega
          · exact HP.out j a b (by omega) ha hb
        case measure => simp [intOf]; omega
    · have hke : k = es.length := by omega
      subst hke
      have hy := HY.out
      rw [addTo_full HK.out h512] at hy
      have HY2 : Hid (Ar wr w.heap.size (addK ks (keyX es))) := hy
      have hl2 : (addK ks (keyX es)).length = 512 := by
        have h1 := HK.out
        have h2 := keyX_len h512
        simp [addK, h1, h2]
      have HF : Hid (raisedK ks es = addK ks (keyX es) ∧ raisedE ks es = 0) := by
        have : (addK ks (keyX es)).all (fun n => decide (n ≤ 64)) = true := by
          rw [List.all_eq_true]
          intro z hz
          obtain ⟨j, hj⟩ := List.mem_iff_getElem?.1 hz
          have hj5 : j < 512 := by have := (List.getElem?_eq_some_iff.1 hj).1; omega
          obtain ⟨x, hx⟩ : ∃ x, ks[j]? = some x := exists_get (by have := HK.out; omega)
          by_cases hje : j < es.length
          · obtain ⟨y, hy⟩ : ∃ y, es[j]? = some y := ⟨es[j], List.getElem?_eq_getElem hje⟩
            rw [addK_get hx (keyX_get hy)] at hj
            cases hj
            simpa using HP.out j x y hje hx hy
          · rw [addK_get hx (keyX_high (by omega) hj5)] at hj
            cases hj
            simpa using H64.out j x hx
        exact ⟨by simp [raisedK, this], by simp [raisedE, this]⟩
      clear hy HY
      go_wp2_with (first
        | (refine wpList_load_row rfl _ _ rfl w.heap.size rfl _ _ _ _ HY2.out under_arr rfl (by rw [info_arr, arr_size, hl2]) ?_)
        | (refine wpList_store_row rfl _ _ _ rfl (w.heap.size + 1) (arr (addK ks (keyX es))) rfl rfl _ _ HZ.out (by rw [info_arr, arr_size, hl2]) (by rw [arr_size, arr_size, len_zeros, hl2]) (arr_one _) ?_))
      refine bodyPost_ret (results_ct_row rfl _ _ (w.heap.size + 1) _ (arr (addK ks (keyX es))) (0, 0) rfl (setRow_heap wr _ _ _ _ _ HZ.out) (by rw [arr_size, hl2])) rfl ?_
      refine ⟨?_, below_setRowY hbl (by omega)⟩
      rw [HF.out.1, HF.out.2]
      rfl

end Go.Proofs.YtdjmjhlbjcgoiaaGreatDoor
