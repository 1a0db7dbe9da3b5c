/- Texts of the proof, one behind the other. -/
import Derived.Test.YtoapgbaibpkckaaGreatDoorOwn2
import Derived.Test.YtoapgbaibpkckaaGreatDoorOwn3
import Derived.Sort.QuietTacIn
import Derived.Sort.CutIn
import Derived.Deep.DeepAppendRoom
import Derived.Deep.LoopGhost
import Derived.Lib.AppendZeros
import Derived.Test.YtoapgbaibpkckaaGreatDoorOwn1
import Derived.Deep.Slices
import Derived.Ground.NamesProg
import Derived.Shelf.Sort.Plain
import Derived.Shelf.Slices.In.SortNone
import Derived.Sort.OwnSortedInts
/- The tree of a right term. -/
namespace Go.Proofs.YtoapgbaibpkckaaGreatDoor
open Go.RowKit Go.Maps Go.Shelf

attribute [local go_sem] Oper.semAt_some

/-- How many arguments a code has. -/
def arN (sig : List Sy) (c : Int) : Nat := match sig[c.toNat]? with | some s => s.2.toNat | none => 0

/-- A code more, from the back to the front: what begins first is the last one. -/
def growStep (sig : List Sy) (st : List Tr) (c : Int) : List Tr := if c < 0 then st ++ [.var] else st.take (st.length - arN sig c) ++ [.app (st.drop (st.length - arN sig c)).reverse]

def growR (sig : List Sy) : List Int → List Tr
  | [] => []
  | c :: u => growStep sig (growR sig u) c

theorem sizes_rev : ∀ ts : List Tr, sizes ts.reverse = sizes ts
  | [] => rfl
  | t :: ts => by
    rw [List.reverse_cons, sizes_app, sizes_rev ts]
    simp only [sizes]
    omega

theorem growStep_sizes (sig : List Sy) (st : List Tr) (c : Int) : sizes (growStep sig st c) = sizes st + 1 := by
  unfold growStep
  split
  · rw [sizes_app]; simp [sizes, Tr.size]
  · have h1 := sizes_app (st.take (st.length - arN sig c)) (st.drop (st.length - arN sig c))
    rw [List.take_append_drop] at h1
    rw [sizes_app]
    simp only [sizes, Tr.size, sizes_rev]
    omega

theorem growR_sizes (sig : List Sy) : ∀ u : List Int, sizes (growR sig u) = u.length
  | [] => rfl
  | c :: u => by
    show sizes (growStep sig (growR sig u) c) = _
    rw [growStep_sizes, growR_sizes sig u, List.length_cons]

theorem codeD_ar {sig : List Sy} (ha : ArOk sig) {c e : Int} (h : codeD sig c = some e) (hc : ¬ c < 0) : e = (arN sig c : Int) - 1 ∧ c.toNat < sig.length := by
  unfold codeD at h
  by_cases h9 : c < -1048576
  · omega
  · rw [if_neg h9, if_neg hc] at h
    cases hs : sig[c.toNat]? with
    | none => rw [hs] at h; cases h
    | some s =>
      rw [hs] at h
      have := ha s (List.mem_of_getElem? hs)
      simp only [Option.some.injEq] at h
      unfold arN
      rw [hs]
      simp only
      exact ⟨by omega, (List.getElem?_eq_some_iff.1 hs).1⟩

/-- The terms that a row is made of, and that each code finds its arguments. -/
theorem growR_len {sig : List Sy} (ha : ArOk sig) : ∀ (u : List Int) (m : Int) (i : Nat), 1 ≤ m → firstT sig m i u = ((i : Int) + u.length, 0) → ((growR sig u).length : Int) = m
  | [], m, i, hm, h => by simp [firstT] at h
  | c :: u, m, i, hm, h => by
    rw [firstT_cons] at h
    cases hc : codeD sig c with
    | none => rw [hc] at h; simp at h
    | some e =>
      rw [hc] at h
      simp only at h
      have he := codeD_ge ha hc
      have hlen : ((growR sig u).length : Int) = m + e := by
        by_cases h0 : m + e = 0
        · rw [if_pos h0] at h
          have := congrArg Prod.fst h
          simp only [List.length_cons] at this
          obtain rfl : u = [] := List.eq_nil_of_length_eq_zero (by omega)
          show ((0 : Nat) : Int) = _
          omega
        · rw [if_neg h0] at h
          exact growR_len ha u (m + e) (i + 1) (by omega) (by rw [h]; simp only [List.length_cons, Prod.mk.injEq, and_true]; omega)
      show ((growStep sig (growR sig u) c).length : Int) = m
      unfold growStep
      by_cases hv : c < 0
      · rw [if_pos hv, List.length_append]
        have he1 : e = -1 := by
          have hc2 := hc
          unfold codeD at hc2
          by_cases h9 : c < -1048576
          · rw [if_pos h9] at hc2; cases hc2
          · rw [if_neg h9, if_pos hv] at hc2; cases hc2; rfl
        simp only [List.length_cons, List.length_nil]
        omega
      · rw [if_neg hv, List.length_append, List.length_take]
        have := (codeD_ar ha hc hv).1
        simp only [List.length_cons, List.length_nil]
        omega

/-- Each code of a right term: it is one, and its arguments are there. -/
theorem grow_code {sig : List Sy} (ha : ArOk sig) : ∀ (p : List Int) (c : Int) (u : List Int) (m : Int) (i : Nat), 1 ≤ m → firstT sig m i (p ++ c :: u) = ((i : Int) + (p ++ c :: u).length, 0) → ¬ c < 0 → c.toNat < sig.length ∧ arN sig c ≤ (growR sig u).length
  | [], c, u, m, i, hm, h, hv => by
    rw [List.nil_append] at h
    have hl := growR_len ha (c :: u) m i hm h
    rw [firstT_cons] at h
    cases hc : codeD sig c with
    | none => rw [hc] at h; simp at h
    | some e =>
      rw [hc] at h
      simp only at h
      obtain ⟨k1, k2⟩ := codeD_ar ha hc hv
      refine ⟨k2, ?_⟩
      by_cases h0 : m + e = 0
      · omega
      · rw [if_neg h0] at h
        have := growR_len ha u (m + e) (i + 1) (by have := codeD_ge ha hc; omega) (by rw [h]; simp only [List.length_cons, Prod.mk.injEq, and_true]; omega)
        omega
  | d :: p, c, u, m, i, hm, h, hv => by
    rw [List.cons_append, firstT_cons] at h
    cases hc : codeD sig d with
    | none => rw [hc] at h; simp at h
    | some e =>
      rw [hc] at h
      simp only at h
      by_cases h0 : m + e = 0
      · rw [if_pos h0] at h
        have := congrArg Prod.fst h
        simp at this
        omega
      · rw [if_neg h0] at h
        exact grow_code ha p c u (m + e) (i + 1) (by have := codeD_ge ha hc; omega) (by rw [h]; simp only [List.length_cons, Prod.mk.injEq, and_true]; omega) hv

theorem grow_one {sig : List Sy} (ha : ArOk sig) {t : List Int} (h : rowE sig t = 0) : ∃ T, growR sig t = [T] ∧ T.size = t.length := by
  have h1 := growR_len ha t 1 0 (by omega) (by rw [row_first.1 h]; simp)
  have h2 := growR_sizes sig t
  cases hg : growR sig t with
  | nil => rw [hg] at h1; simp at h1
  | cons T r =>
    rw [hg] at h1 h2
    obtain rfl : r = [] := List.eq_nil_of_length_eq_zero (by simp at h1; omega)
    exact ⟨T, rfl, by simpa [sizes] using h2⟩

theorem own_cut {w : World} {base : Nat} {e : TypeId} {ao : Option Addr} {n cap k : Nat} {vals : List Value} (h : w.ownsRow base e 1 (.slice ao n cap) n vals) (hk : k ≤ n) : w.ownsRow base e 1 (.slice ao k cap) k (vals.take k) := by
  have h1 := h.1
  refine ⟨by rw [List.length_take]; omega, ?_⟩
  rcases h.2 with ⟨hv, hn⟩ | ⟨g, cp, cur, hv, hb, hg, hc, hm, hs, ht⟩
  · simp only [Value.slice.injEq] at hv
    obtain ⟨rfl, rfl, rfl⟩ := hv
    obtain rfl : k = 0 := by omega
    exact .inl ⟨rfl, rfl⟩
  · simp only [Value.slice.injEq] at hv
    obtain ⟨rfl, _, rfl⟩ := hv
    refine .inr ⟨g, cap, cur, rfl, hb, hg, by omega, hm, hs, ?_⟩
    rw [Nat.mul_one] at ht ⊢
    rw [← ht, List.take_take, Nat.min_eq_left hk]

theorem frozen_same {w w' : World} {a : Addr} (h : w'.heap[a.block]? = w.heap[a.block]?) : w'.frozen? a = w.frozen? a := by
  unfold World.frozen?
  rw [h]

theorem cell_putObj {W : World} {l : Nat} {o o' : Obj} {a : Addr} {x : Value} (hl : W.heap[l]? = some o) (ho : o.isCells = false) (h : W.cell? a = some x) : (W.putObj l o').cell? a = some x := by
  have hne : a.block ≠ l := by
    rintro rfl
    unfold World.cell? at h
    rw [hl] at h
    cases o <;> simp_all [Obj.isCells]
  rw [World.cell?_of_block (World.putObj_heap_other hne)]
  exact h

end Go.Proofs.YtoapgbaibpkckaaGreatDoor

/- grow walked. -/
namespace Go.Proofs.YtoapgbaibpkckaaGreatDoor
open Go.RowKit Go.Maps Go.Shelf

attribute [local go_sem] Oper.semAt_some

section
variable {F : Fence} {n : Nat} {P : Program} {w w' : World} {ops : Array Oper} {rest : List Oper} {o : Oper} {a : Act} {Q : Exit → Act → World → Prop}

theorem operIn_append_run {K : Act → World → Prop} (s x : Operand) (t : TypeId) (hop : o.op = .call { callee := .builtin .append, args := #[s, x], argTypes := #[t, t] }) (v u : Value) {v' : Value} (hs : a.eval s = v) (hx : a.eval x = u)
    (hr : (Builtin.append_ #[t, t] o.type #[v, u]).run P w = .ok v' w') (h : K (a.put o.dst v') w') : o.wpIn F n P a w K Q := by
  unfold Oper.wpIn
  refine ⟨?_, ?_⟩
  · simp [Oper.about, hop, resolve, Target.leads, Sem.run_pure]
  · rw [Oper.semAt_plain F _ _ (by rw [hop]; intro c hc; cases hc)]
    simp [execOp, hop, resolve, invoke, builtin, hs, hx, hr, Result.andThen]
    exact h

theorem wpAnyIn_round {md : Region.Mode} (l : Nat) (hnd : (ops.all fun o => match o.op with | .defer _ => false | _ => true) = true) :
    ∀ (fuel : Nat) (listed : Array Bool) (a : Act) (w : World), wpAnyIn F n P md ops Q fuel listed a w → wpAnyIn (F.inRound l) n P md ops Q fuel listed a w := by
  intro fuel
  induction fuel with
  | zero => intro listed a w h; exact h
  | succ fuel ih =>
    intro listed a w h
    refine ⟨h.1, fun i hi => ?_⟩
    have h1 := wpOpIn_mono (fun a w h => ih (listed.setIfInBounds i true) a w h) (h.2 i hi)
    unfold wpOpIn at h1 ⊢
    cases ho : ops[i]? with
    | none => simp only [ho] at h1; exact h1
    | some o =>
      simp only [ho] at h1 ⊢
      have hno : ∀ c, o.op ≠ .defer c := fun c hc => by
        obtain ⟨hl, he⟩ := Array.getElem?_eq_some_iff.1 ho
        have h2 := Array.all_eq_true.1 hnd i hl
        rw [he, hc] at h2
        cases h2
      split
      · rename_i hw
        rw [if_pos hw] at h1
        unfold Oper.wpIn at h1 ⊢
        rw [Oper.semAt_plain _ _ _ hno] at h1 ⊢
        refine ⟨h1.1, ?_⟩
        have h3 := h1.2
        generalize (execOp a.eval o).run P w = r at h3 ⊢
        cases r with
        | ok x w' => cases x <;> exact h3
        | halt x w' => cases x <;> exact h3
      · rename_i hw
        rw [if_neg hw] at h1
        exact h1

end

theorem cell_newg' {w : World} {t : TypeId} {x : Value} {g : Nat} (hg : g = w.heap.size) (_h : x = x) : (w.alloc (.cells #[x] t)).cell? ⟨g, 0, none⟩ = some x := by
  subst hg
  rw [cell_of_row _ _ _ _ _ _ (heap_alloc_new _ _)]
  rfl

theorem frozen_newg {w : World} {t : TypeId} {x : Value} {g : Nat} (hg : g = w.heap.size) : (w.alloc (.cells #[x] t)).frozen? ⟨g, 0, none⟩ = false := by
  subst hg
  simp

theorem drop_rev {t : List Int} {k : Nat} (hk : k < t.length) : ∃ c, t.reverse[k]? = some c ∧ t.drop (t.length - (k + 1)) = c :: t.drop (t.length - k) ∧ t = t.take (t.length - (k + 1)) ++ c :: t.drop (t.length - k) := by
  have hj : t.length - (k + 1) < t.length := by omega
  refine ⟨t[t.length - (k + 1)], ?_, ?_, ?_⟩
  · rw [List.getElem?_reverse hk, show t.length - 1 - k = t.length - (k + 1) by omega]
    exact List.getElem?_eq_getElem hj
  · rw [List.drop_eq_getElem_cons hj, show t.length - (k + 1) + 1 = t.length - k by omega]
  · have h1 := List.take_append_drop (t.length - (k + 1)) t
    rw [List.drop_eq_getElem_cons hj, show t.length - (k + 1) + 1 = t.length - k by omega] at h1
    exact h1.symm

end Go.Proofs.YtoapgbaibpkckaaGreatDoor

/- Lists of rows: of one's own, held against each other, joined. -/
namespace Go.Proofs.YtoapgbaibpkckaaGreatDoor
open Go.RowKit Go.Maps Go.BigFrame

theorem rs_of_own {w : World} {base b2 : Nat} {v : Value} {vs : List Value} {l : List (List Int)} (h : w.ownsRow base 36 1 v l.length vs) (hr : OwR w b2 vs l) (hl : ∀ t ∈ l, t.length * 8 ≤ 140737488351232) : Rs w v l := by
  have h2 := h
  rcases h2.2 with ⟨rfl, hn⟩ | ⟨g, cap, cur, rfl, hb, hg, hc, hm, hs, ht⟩
  · obtain rfl := List.eq_nil_of_length_eq_zero hn
    exact Row.nil (by simp [maxLen])
  · refine ⟨_, cap, rfl, hc, hm, fun _ => ⟨g, 0, rfl, (Array.getElem?_eq_some_iff.1 hg).1, fun k t hk => ?_⟩⟩
    have hlt : k < l.length := (List.getElem?_eq_some_iff.1 hk).1
    obtain ⟨u, hu⟩ : ∃ u, vs[k]? = some u := ⟨_, List.getElem?_eq_getElem (by rw [hr.1]; exact hlt)⟩
    refine ⟨hl t (List.mem_of_getElem? hk), u, ?_, (hr.2 k u t hu hk).is⟩
    rw [Nat.zero_add, Nat.mul_one, World.ownsRow.cellAt h k (by omega)]
    exact hu

theorem join_row (ty : TypeId) {w : World} {base n : Nat} {x u : Value} {vs : List Value} (ho : w.ownsRow base 36 1 x n vs) (hb : base ≤ w.heap.size) (hl : (n + 1) * 24 ≤ 140737488355328) (hu : u.oneCell' = true) :
    ∃ v' w', (Builtin.append_ #[41, 41] ty #[x, .slice (some ⟨w.heap.size, 0, none⟩) 1 1]).run Tryz.prog (w.alloc (.cells #[u] 36)) = .ok v' w' ∧ w'.ownsRow base 36 1 v' (n + 1) (vs ++ [u]) ∧ (w.alloc (.cells #[u] 36)).grownBy w' x.ownBlock := by
  obtain ⟨i1, hi1, hy0, hy1, hy2⟩ := info_parts info_ints
  obtain ⟨v', w', hr, h2, h3, _, _⟩ := run_append_own_at (P := Tryz.prog) (w.alloc (.cells #[u] 36)) base 41 ty 36 i1 _ 1 24 under_rows hi1 hy0 hy1 hy2 rfl (by decide) x n vs (ownsRow_later ho (below_alloc _)) ⟨w.heap.size, 0, none⟩ 1 1 [u] rfl
    (fun j y hj => by
      rw [Addr.add_lit, Nat.zero_add]
      cases j with
      | zero =>
        simp at hj
        subst hj
        exact cell_new rfl
      | succ j => simp at hj) (fun y hy => by simp at hy; subst hy; exact hu) (by unfold maxLen; omega) (by omega) (Nat.le_trans hb (below_alloc _).size)
  exact ⟨v', w', hr, h2, h3⟩

end Go.Proofs.YtoapgbaibpkckaaGreatDoor

/- Rows that are spoilt; rows of one's own that lie apart. -/
namespace Go.Proofs.YtoapgbaibpkckaaGreatDoor
open Go.RowKit Go.Maps Go.BigFrame

/-- Slices that lie in unlike blocks. -/
def Dis (v u : Value) : Prop := ∀ g, v.ownBlock = some g → u.ownBlock ≠ some g

theorem Dis.symm {v u : Value} (h : Dis v u) : Dis u v := fun g h1 h2 => h g h2 h1

theorem Dis.keep {v u : Value} (h : Dis v u) : v.ownBlock = none ∨ v.ownBlock ≠ u.ownBlock := by
  cases hv : v.ownBlock with
  | none => exact .inl rfl
  | some g => exact .inr fun e => h g hv e.symm

theorem own_blk_lt {w : World} {base : Nat} {e : TypeId} {s m j : Nat} {v : Value} {xs : List Value} (h : w.ownsRow base e s v m xs) (hj : v.ownBlock = some j) : j < w.heap.size := by
  rcases h.2 with ⟨rfl, _⟩ | ⟨g', cap, cur, rfl, hb, hg, _⟩
  · cases hj
  · cases hj
    exact (Array.getElem?_eq_some_iff.1 hg).1

theorem Dis.grow {w w2 : World} {base : Nat} {v u u' : Value} {xs : List Int} (h : Dis v u) (ho : OwI w base v xs) (hs : w.heap.size ≤ w2.heap.size) (hu : u'.ownBlock = u.ownBlock ∨ u'.ownBlock = some w2.heap.size) : Dis v u' := fun g h1 h2 => by
  rcases hu with hu | hu
  · rw [hu] at h2
    exact h g h1 h2
  · have := own_blk_lt ho.2 h1
    rw [hu] at h2
    cases h2
    omega

/-- A number joined to a row of one's own, with what becomes of its block. -/
theorem join_one (ty : TypeId) {w : World} {base : Nat} {x : Value} {xs : List Int} {c : Int} (ho : OwI w base x xs) (h1 : -9223372036854775808 ≤ c) (h2 : c ≤ 9223372036854775807) (hb : base ≤ w.heap.size) (hl : (xs.length + 1) * 8 ≤ 140737488355328) :
    ∃ v' w', (Builtin.append_ #[36, 36] ty #[x, .slice (some ⟨w.heap.size, 0, none⟩) 1 1]).run Tryz.prog (w.alloc (.cells #[.int .i64 c] 3)) = .ok v' w' ∧ OwI w' base v' (xs ++ [c]) ∧ (w.alloc (.cells #[.int .i64 c] 3)).grownBy w' x.ownBlock ∧ (v'.ownBlock = x.ownBlock ∨ v'.ownBlock = some (w.alloc (.cells #[.int .i64 c] 3)).heap.size) := by
  obtain ⟨i0, hi, hz0, hz1, hz2⟩ := info_parts info_int
  obtain ⟨v', w', hr, g2, g3, _, g5⟩ := run_append_own_at (P := Tryz.prog) (w.alloc (.cells #[.int .i64 c] 3)) base 36 ty 3 i0 _ 1 8 under_ints hi hz0 hz1 hz2 rfl (by decide) x xs.length (xs.map I64) (ownsRow_later ho.2 (below_alloc _)) ⟨w.heap.size, 0, none⟩ 1 1 [I64 c] rfl
    (fun j u hj => by
      rw [Addr.add_lit, Nat.zero_add]
      cases j with
      | zero => simp at hj; subst hj; exact cell_new rfl
      | succ j => simp at hj) (fun u hu => by simp at hu; subst hu; rfl) (by unfold maxLen; omega) (by omega) (Nat.le_trans hb (below_alloc _).size)
  refine ⟨v', w', hr, ⟨fun k y hk => ?_, ?_⟩, g3, g5⟩
  · by_cases hkl : k < xs.length
    · rw [List.getElem?_append_left hkl] at hk
      exact ho.1 k y hk
    · rw [List.getElem?_append_right (by omega)] at hk
      have hk0 : k - xs.length = 0 := by
        have := (List.getElem?_eq_some_iff.1 hk).1
        simp at this
        omega
      rw [hk0] at hk
      simp at hk
      subst hk
      exact ⟨h1, h2⟩
  · rw [List.length_append, List.map_append]
    exact g2

end Go.Proofs.YtoapgbaibpkckaaGreatDoor

/- Where the term at a place ends; endOf walked. -/
namespace Go.Proofs.YtoapgbaibpkckaaGreatDoor
open Go.RowKit Go.Maps

/-- A part of a row. -/
theorem Is.mid {w : World} {b off cap k m : Nat} {t : List Int} (h : Is w (.slice (some ⟨b, off, none⟩) t.length cap) t) (hk : k < t.length) (hm : k + m ≤ t.length) : Is w (.slice (some ⟨b, off + k, none⟩) m (cap - k)) ((t.drop k).take m) := by
  obtain ⟨ao, cap', e, h1, h2, h3⟩ := h
  simp only [Value.slice.injEq, true_and] at e
  obtain ⟨rfl, rfl⟩ := e
  obtain ⟨g, o, e, hg, hE⟩ := h3 (by omega)
  simp only [Option.some.injEq, Addr.mk.injEq, and_true] at e
  obtain ⟨rfl, rfl⟩ := e
  have hl : ((t.drop k).take m).length = m := by rw [List.length_take, List.length_drop]; omega
  refine ⟨some ⟨b, off + k, none⟩, cap - k, by rw [hl], by omega, by omega, fun _ => ⟨b, off + k, rfl, hg, fun j x hj => ?_⟩⟩
  have hjl := (List.getElem?_eq_some_iff.1 hj).1
  rw [List.getElem?_take_of_lt (by omega), List.getElem?_drop] at hj
  have := hE (k + j) x hj
  rw [show off + k + j * 1 = off + (k + j) * 1 by omega]
  exact this

/-- What is found at a row's head is a right term by itself. -/
theorem first_take {sig : List Sy} : ∀ (r : List Int) (m : Int) (i : Nat) (n : Int), firstT sig m i r = (n, 0) → ∃ k : Nat, n = (i : Int) + k ∧ 1 ≤ k ∧ k ≤ r.length ∧ firstT sig m i (r.take k) = (n, 0)
  | [], m, i, n, h => by simp [firstT] at h
  | c :: r, m, i, n, h => by
    rw [firstT_cons] at h
    cases hc : codeD sig c with
    | none => rw [hc] at h; simp at h
    | some e =>
      rw [hc] at h
      simp only at h
      by_cases h0 : m + e = 0
      · rw [if_pos h0] at h
        refine ⟨1, ?_, Nat.le_refl _, by simp, ?_⟩
        · have := congrArg Prod.fst h
          simp only at this
          omega
        · rw [List.take_succ_cons, List.take_zero, firstT_cons, hc]
          simp only
          rw [if_pos h0]
          exact h
      · rw [if_neg h0] at h
        obtain ⟨k, h1, h2, h3, h4⟩ := first_take r (m + e) (i + 1) n h
        refine ⟨k + 1, by omega, by omega, by simp; omega, ?_⟩
        rw [List.take_succ_cons, firstT_cons, hc]
        simp only
        rw [if_neg h0]
        exact h4

/-- Where the term at a place ends, and what is wrong. -/
def endP (sig : List Sy) (t : List Int) (p : Int) : Int × Int := if p < 0 ∨ (t.length : Int) ≤ p then (0, 33) else (p + (firstT sig 1 0 (t.drop p.toNat)).1, (firstT sig 1 0 (t.drop p.toNat)).2)

theorem endP_ok {sig : List Sy} {t : List Int} {p n : Int} (h : endP sig t p = (n, 0)) : ∃ k m : Nat, p = k ∧ k < t.length ∧ 1 ≤ m ∧ n = ((k + m : Nat) : Int) ∧ k + m ≤ t.length ∧ rowE sig ((t.drop k).take m) = 0 := by
  unfold endP at h
  by_cases hp : p < 0 ∨ (t.length : Int) ≤ p
  · rw [if_pos hp] at h
    simp at h
  · rw [if_neg hp] at h
    obtain ⟨k, rfl⟩ : ∃ k : Nat, p = k := ⟨p.toNat, by omega⟩
    rw [Int.toNat_natCast] at h
    simp only [Prod.mk.injEq] at h
    obtain ⟨m, h1, h2, h3, h4⟩ := first_take (t.drop k) 1 0 (firstT sig 1 0 (t.drop k)).1 (Prod.ext rfl h.2)
    simp only [Int.natCast_zero, Int.zero_add] at h1
    rw [List.length_drop] at h3
    refine ⟨k, m, rfl, by omega, h2, by omega, by omega, ?_⟩
    rw [row_first, h4, List.length_take, List.length_drop]
    simp only [Prod.mk.injEq, and_true]
    rw [h1]
    omega

end Go.Proofs.YtoapgbaibpkckaaGreatDoor

/- Kids and Sub walked. -/
namespace Go.Proofs.YtoapgbaibpkckaaGreatDoor
open Go.RowKit Go.Maps

theorem empty_ints (w : World) {base : Nat} (hb : base ≤ w.heap.size) : (w.alloc (.cells #[] 3)).ownsRow base 3 1 (.slice (some ⟨w.heap.size, 0, none⟩) 0 0) 0 [] :=
  ⟨rfl, .inr ⟨w.heap.size, 0, #[], rfl, hb, heap_alloc_new _ _, Nat.le_refl _, by simp [maxLen], by simp, by simp⟩⟩

set_option maxRecDepth 100000 in
set_option maxHeartbeats 800000 in
theorem cloneI_any (v : Value) (t : List Int) (w : World) (h : Is w v t) (h0 : 0 < t.length) (hl : t.length * 8 ≤ 140737488355328) :
    Calls Tryz.prog 61 #[v] w fun e w' => ∃ v', e = .returned v' ∧ OwI w' w.heap.size v' t ∧ Below w.heap.size w w' := by
  have hq : ∀ (W : World) (a : Option Addr) (n c n' c' : Nat), (binOp .eql 36 (.slice a n c) (.slice none n' c')).run Tryz.prog W = .ok (.bool a.isNone) W := fun W a n c n' c' => Lib.run_eql_slice_nil W _ _ a n c n' c' under_ints
  obtain ⟨ao, cap, rfl, hao, hca, q0⟩ := Row.flat h
  obtain ⟨g, off, c0, rfl, _⟩ := h.at h0
  obtain ⟨v', w', hr, ho, hg⟩ := join_ints 36 (w := w.alloc (.cells #[] 3)) (base := w.heap.size) (x := .slice (some ⟨w.heap.size, 0, none⟩) 0 0) (xs := []) ⟨fun k x hk => (by simp at hk), empty_ints w (Nat.le_refl _)⟩ (h.kp (Kp.of_below (below_alloc _))) (below_alloc _).size (by simp; omega)
  rw [List.nil_append] at ho
  have HR := hid hr
  have HO := hid ho
  have HB := hid (grown_below (below_alloc _) hg (Nat.le_refl _))
  clear hr ho hg q0 h
  go_enter Tryz.func61, Tryz.ntmps61
  go_wp2_with (first
    | (at_builtin; refine wpList_append_run rfl _ _ _ rfl _ _ rfl rfl HR.out ?_))
  go_ret
  exact ⟨_, rfl, HO.out, HB.out⟩

/-- What is wrong with a term and a place; the term there; its arguments' places. -/
def placeE (sig : List Sy) (t : List Int) (p : Int) : Int := if termE sig t = 0 then (endP sig t p).2 else termE sig t

def subL (sig : List Sy) (t : List Int) (p : Int) : List Int := if placeE sig t p = 0 then (t.drop p.toNat).take ((endP sig t p).1.toNat - p.toNat) else []

theorem placeE_ok {sig : List Sy} {t : List Int} {p : Int} (h : placeE sig t p = 0) : ArOk sig ∧ rowE sig t = 0 ∧ ∃ k m : Nat, p = k ∧ k < t.length ∧ 1 ≤ m ∧ endP sig t p = (((k + m : Nat) : Int), 0) ∧ k + m ≤ t.length ∧ subL sig t p = (t.drop k).take m ∧ rowE sig ((t.drop k).take m) = 0 := by
  have h0 := h
  unfold placeE at h
  by_cases ht : termE sig t = 0
  · rw [if_pos ht] at h
    have hsg : sigE sig = 0 := by
      unfold termE at ht
      by_cases hs : sigE sig = 0
      · exact hs
      · rw [if_neg hs] at ht; exact ht
    have hrw : rowE sig t = 0 := by unfold termE at ht; rw [if_pos hsg] at ht; exact ht
    obtain ⟨k, m, h1, h2, h3, h4, h5, h6⟩ := endP_ok (Prod.ext rfl h : endP sig t p = ((endP sig t p).1, 0))
    refine ⟨sigE_ok hsg, hrw, k, m, h1, h2, h3, Prod.ext h4 h, h5, ?_, h6⟩
    unfold subL
    rw [if_pos h0, h4, h1, Int.toNat_natCast, Int.toNat_natCast, show k + m - k = m by omega]
  · rw [if_neg ht] at h
    exact absurd h ht

end Go.Proofs.YtoapgbaibpkckaaGreatDoor

/- A term's arguments, one behind the other. -/
namespace Go.Proofs.YtoapgbaibpkckaaGreatDoor
open Go.RowKit Go.Maps

/-- What stands at the head of a row of terms. -/
theorem first_part {sig : List Sy} (ha : ArOk sig) : ∀ (r : List Int) (d m : Int) (j i : Nat), 1 ≤ d → d ≤ m → firstT sig m i r = ((i : Int) + r.length, 0) →
    ∃ k : Nat, 1 ≤ k ∧ k ≤ r.length ∧ firstT sig d j r = ((j : Int) + k, 0) ∧ (m = d → k = r.length) ∧ (d < m → firstT sig (m - d) (i + k) (r.drop k) = ((i : Int) + r.length, 0))
  | [], d, m, j, i, _, _, h => by simp [firstT] at h
  | c :: r, d, m, j, i, hd, hm, h => by
    rw [firstT_cons] at h ⊢
    cases hc : codeD sig c with
    | none => rw [hc] at h; simp at h
    | some e =>
      have he := codeD_ge ha hc
      rw [hc] at h
      simp only at h ⊢
      by_cases h0 : m + e = 0
      · rw [if_pos h0] at h
        have hl : r.length = 0 := by
          have := congrArg Prod.fst h
          simp at this
          omega
        refine ⟨1, Nat.le_refl _, by simp, by rw [if_pos (by omega)]; simp, fun _ => by simp [hl], fun h1 => by omega⟩
      · rw [if_neg h0] at h
        by_cases h1 : d + e = 0
        · refine ⟨1, Nat.le_refl _, by simp, by rw [if_pos h1]; simp, fun h2 => by omega, fun h2 => ?_⟩
          rw [List.drop_succ_cons, List.drop_zero, show m - d = m + e by omega]
          exact h
        · obtain ⟨k, k1, k2, k3, k4, k5⟩ := first_part ha r (d + e) (m + e) (j + 1) (i + 1) (by omega) (by omega) (by rw [h]; simp only [List.length_cons, Prod.mk.injEq, and_true]; omega)
          refine ⟨k + 1, by omega, by simp; omega, by rw [if_neg h1, k3]; simp only [Prod.mk.injEq, and_true]; omega, fun h2 => by have := k4 (by omega); simp; omega, fun h2 => ?_⟩
          have h3 := k5 (by omega)
          rw [List.drop_succ_cons, show m - d = m + e - (d + e) by omega, show i + (k + 1) = i + 1 + k by omega, h3]
          simp only [List.length_cons, Prod.mk.injEq, and_true]
          omega

/-- Places by lengths. -/
def places : Nat → List Nat → List Int
  | _, [] => []
  | p, n :: ns => (p : Int) :: places (p + n) ns

theorem term_parts {sig : List Sy} {t : List Int} (h : termE sig t = 0) : sigE sig = 0 ∧ rowE sig t = 0 := by
  unfold termE at h
  by_cases hs : sigE sig = 0
  · rw [if_pos hs] at h; exact ⟨hs, h⟩
  · rw [if_neg hs] at h; exact absurd h hs

end Go.Proofs.YtoapgbaibpkckaaGreatDoor

/- The places of a term, plainly: what is above a place, where the arguments stand. -/
namespace Go.Proofs.YtoapgbaibpkckaaGreatDoor
open Go.RowKit Go.Maps

/-- How many nodes the term at a place has. -/
def nodes (sig : List Sy) (t : List Int) (i : Nat) : Nat := (firstT sig 1 0 (t.drop i)).1.toNat

theorem first_more {sig : List Sy} (q : List Int) : ∀ (r : List Int) (m : Int) (i : Nat) (n : Int), firstT sig m i r = (n, 0) → firstT sig m i (r ++ q) = (n, 0)
  | [], m, i, n, h => by simp [firstT] at h
  | c :: r, m, i, n, h => by
    rw [List.cons_append, firstT_cons]
    rw [firstT_cons] at h
    cases hc : codeD sig c with
    | none => rw [hc] at h; simp at h
    | some e =>
      rw [hc] at h
      simp only at h ⊢
      by_cases h0 : m + e = 0
      · rw [if_pos h0] at h ⊢; exact h
      · rw [if_neg h0] at h ⊢; exact first_more q r (m + e) (i + 1) n h

theorem first_at {sig : List Sy} (ha : ArOk sig) : ∀ (v : List Int) (m : Int) (j i : Nat), 1 ≤ m → firstT sig m j v = ((j : Int) + v.length, 0) → i < v.length → ∃ m' : Int, 1 ≤ m' ∧ firstT sig m' (j + i) (v.drop i) = ((j : Int) + v.length, 0)
  | v, m, j, 0, hm, h, _ => ⟨m, hm, h⟩
  | [], m, j, i + 1, _, _, hi => by simp at hi
  | c :: v, m, j, i + 1, hm, h, hi => by
    rw [firstT_cons] at h
    cases hc : codeD sig c with
    | none => rw [hc] at h; simp at h
    | some e =>
      have he := codeD_ge ha hc
      rw [hc] at h
      simp only at h
      by_cases h0 : m + e = 0
      · rw [if_pos h0] at h
        have := congrArg Prod.fst h
        simp only [List.length_cons] at this hi
        omega
      · rw [if_neg h0] at h
        obtain ⟨m', h1, h2⟩ := first_at ha v (m + e) (j + 1) i (by omega) (by rw [h]; simp only [List.length_cons, Prod.mk.injEq, and_true]; omega) (by simpa using hi)
        refine ⟨m', h1, ?_⟩
        rw [List.drop_succ_cons, show j + (i + 1) = j + 1 + i by omega, h2]
        simp only [List.length_cons, Prod.mk.injEq, and_true]
        omega

/-- The term at a place of a right term. -/
theorem at_place {sig : List Sy} (ha : ArOk sig) {v : List Int} (h : rowE sig v = 0) {i : Nat} (hi : i < v.length) :
    1 ≤ nodes sig v i ∧ i + nodes sig v i ≤ v.length ∧ firstT sig 1 0 (v.drop i) = ((nodes sig v i : Int), 0) ∧ rowE sig ((v.drop i).take (nodes sig v i)) = 0 := by
  obtain ⟨m', h1, h2⟩ := first_at ha v 1 0 i (by omega) (by rw [row_first.1 h]; simp) hi
  obtain ⟨k, k1, k2, k3, _, _⟩ := first_part ha (v.drop i) 1 m' 0 (0 + i) (by omega) h1 (by rw [h2, List.length_drop]; simp only [Prod.mk.injEq, and_true]; omega)
  have hn : nodes sig v i = k := by unfold nodes; rw [k3]; simp
  rw [hn]
  rw [List.length_drop] at k2
  have k3' : firstT sig 1 0 (v.drop i) = ((k : Int), 0) := by rw [k3]; simp
  refine ⟨k1, by omega, k3', ?_⟩
  obtain ⟨k', e1, _, _, e4⟩ := first_take (v.drop i) 1 0 _ k3'
  have : k' = k := by omega
  subst this
  rw [row_first, e4, List.length_take, List.length_drop]
  simp only [Prod.mk.injEq, and_true]
  omega

end Go.Proofs.YtoapgbaibpkckaaGreatDoor

/- The document's End and place walked. -/
namespace Go.Proofs.YtoapgbaibpkckaaGreatDoor
open Go.RowKit Go.Maps Go.BigFrame

theorem codeD_neg {sig : List Sy} {c e : Int} (h : codeD sig c = some e) (hc : c < 0) : e = -1 := by
  unfold codeD at h
  split at h
  · cases h
  · first
    | (rw [if_pos hc] at h; cases h; rfl)
    | (cases h; rfl)

theorem codeD_get {sig : List Sy} {c : Nat} {e : Int} (h : codeD sig (c : Int) = some e) : ∃ s, sig[c]? = some s ∧ e = s.2 - 1 := by
  unfold codeD at h
  rw [if_neg (by omega), if_neg (by omega), Int.toNat_natCast] at h
  cases hs : sig[c]? with
  | none => rw [hs] at h; cases h
  | some s =>
    rw [hs] at h
    cases h
    exact ⟨s, rfl, rfl⟩

set_option maxRecDepth 100000 in
set_option maxHeartbeats 1600000 in
theorem refEnd_any (sv v : Value) (sig : List Sy) (t : List Int) (k n : Nat) (w : World) (hs : Sg w sv sig) (h : Is w v t) (ha : ArOk sig) (hb : t.length * 8 ≤ 140737488351232) (hn : firstT sig 1 0 (t.drop k) = ((n : Int), 0)) :
    Calls Tryz.prog 36 #[sv, v, .int .i64 k] w fun e w' => e = .returned (.int .i64 ((k + n : Nat) : Int)) ∧ w' = w := by
  obtain ⟨so, sc, rfl, hso, hsc, _⟩ := Row.flat hs
  obtain ⟨ao, cap, rfl, hao, hca, q0⟩ := Row.flat h
  unfold maxLen at hca hsc
  have HS := hid hs
  have HT := hid h
  have HA := hid ha
  have HN := hid hn
  have hkl : k < t.length := by
    by_cases hk : k < t.length
    · exact hk
    · rw [List.drop_of_length_le (by omega)] at hn
      simp [firstT] at hn
  clear hs h q0 ha hn
  go_enter Tryz.func36, Tryz.ntmps36
  go_wp2
  go_loopw [2, 7] (fun a x wr => ∃ (j : Nat) (m : Int), a = .int .i64 ((k + j : Nat) : Int) ∧ x = .int .i64 m ∧ k + j ≤ t.length ∧ ((0 < m ∧ firstT sig m j (t.drop (k + j)) = ((n : Int), 0)) ∨ (m = 0 ∧ j = n)) ∧ m ≤ 1 + 1000 * (j : Int) ∧ wr = w) (fun a _ _ => t.length + 1 - (intOf a).toNat)
  case atStart => exact ⟨0, 1, rfl, rfl, by omega, .inl ⟨by omega, HN.out⟩, by omega, rfl⟩
  case round =>
    obtain ⟨j, m, rfl, rfl, hkj, hft, hm2, hw⟩ := hrel
    have hw8 := hw.symm
    subst hw8
    clear hw HN
    rcases hft with ⟨hm0, hft⟩ | ⟨rfl, rfl⟩
    · have hlt : k + j < t.length := by
        by_cases hk : k + j < t.length
        · exact hk
        · rw [List.drop_of_length_le (by omega)] at hft
          simp [firstT] at hft
      obtain ⟨g, off, c, rfl, hx1, hx2, hx3, hx4⟩ := HT.out.at hlt
      rw [drop_get hx1, firstT_cons] at hft
      cases hcd : codeD sig c with
      | none => rw [hcd] at hft; simp at hft
      | some e =>
        have hge := codeD_ge HA.out hcd
        have HD : Hid ((0 < m + e ∧ firstT sig (m + e) (j + 1) (t.drop (k + (j + 1))) = ((n : Int), 0)) ∨ (m + e = 0 ∧ j + 1 = n)) := by
          rw [hcd] at hft
          simp only at hft
          by_cases h0 : m + e = 0
          · rw [if_pos h0] at hft
            have := congrArg Prod.fst hft
            simp only at this
            exact .inr ⟨h0, by omega⟩
          · rw [if_neg h0] at hft
            exact .inl ⟨by omega, hft⟩
        clear hft
        have hwk : IntKind.i64.wrap ((k : Int) + (j : Int) + 1) = ((k + (j + 1) : Nat) : Int) := by rw [IntWalk.i64_in _ ⟨by omega, by omega⟩]; omega
        by_cases hc0 : c < 0
        · have he := codeD_neg hcd hc0
          subst he
          have hcn : ¬ 0 ≤ c := by omega
          have hwm : IntKind.i64.wrap (m - 1) = m + -1 := by rw [IntWalk.i64_in _ ⟨by omega, by omega⟩]; omega
          clear hcd hx1
          go_wp2
          go_roundw
          case rel => exact ⟨j + 1, m + -1, by go_num, rfl, by omega, HD.out, by omega, trivial⟩
          case measure => simp [intOf]; omega
        · obtain ⟨cn, rfl⟩ : ∃ cn : Nat, c = cn := ⟨c.toNat, by omega⟩
          have hcn : (0 : Int) ≤ (cn : Int) := by omega
          obtain ⟨s, hsg, he⟩ := codeD_get hcd
          have hcl := (List.getElem?_eq_some_iff.1 hsg).1
          obtain ⟨g2, off2, nm, ar, rfl, hs1, hs2, hs3, hs4, hs5, hs6⟩ := HS.out.at (k := cn) hcl
          rw [hsg] at hs1
          cases hs1
          have har := HA.out _ (List.mem_of_getElem? hsg)
          simp only at har he
          subst he
          have hwm1 : IntKind.i64.wrap (m - 1) = m - 1 := IntWalk.i64_in _ ⟨by omega, by omega⟩
          have hwm : IntKind.i64.wrap (m - 1 + ar) = m + (ar - 1) := by rw [IntWalk.i64_in _ ⟨by omega, by omega⟩]; omega
          clear hsg hx1 hcd
          go_wp2
          go_roundw
          case rel => exact ⟨j + 1, m + (ar - 1), by go_num, rfl, by omega, HD.out, by omega, trivial⟩
          case measure => simp [intOf]; omega
    · go_wp2
      go_ret
      exact ⟨rfl, rfl⟩

/-- What is wrong with a place. -/
theorem place_eq {sig : List Sy} {t : List Int} {p : Int} (h : termE sig t = 0) : placeE sig t p = if p < 0 ∨ (t.length : Int) ≤ p then 33 else 0 := by
  unfold placeE
  rw [if_pos h]
  unfold endP
  by_cases hp : p < 0 ∨ (t.length : Int) ≤ p
  · rw [if_pos hp, if_pos hp]
  · rw [if_neg hp, if_neg hp]
    obtain ⟨k, rfl⟩ : ∃ k : Nat, p = k := ⟨p.toNat, by omega⟩
    have hk : k < t.length := by omega
    obtain ⟨h1, h2⟩ := term_parts h
    obtain ⟨_, _, h3, _⟩ := at_place (sigE_ok h1) h2 hk
    rw [Int.toNat_natCast, h3]

theorem place_in {sig : List Sy} {t : List Int} {k : Nat} (h : termE sig t = 0) (hk : k < t.length) : placeE sig t k = 0 := by
  rw [place_eq h, if_neg (by omega)]

end Go.Proofs.YtoapgbaibpkckaaGreatDoor

/- The document's Kids, Sub, Above, Vars walked. -/
namespace Go.Proofs.YtoapgbaibpkckaaGreatDoor
open Go.RowKit Go.Maps Go.BigFrame

theorem first_right {sig : List Sy} {u : List Int} (h : rowE sig u = 0) (q : List Int) : firstT sig 1 0 (u ++ q) = ((u.length : Int), 0) := first_more q u 1 0 _ (by rw [row_first.1 h])

end Go.Proofs.YtoapgbaibpkckaaGreatDoor

/- What the law file's helpers do: same, lent, kept, spoil, three, which. -/
namespace Go.Proofs.YtoapgbaibpkckaaGreatDoor
open Go.RowKit Go.Maps Go.BigFrame

theorem join_two (ty : TypeId) {w : World} {base : Nat} {x u : Value} {xs es : List Int} (ho : OwI w base x xs) (hs : Is w u es) (hb : base ≤ w.heap.size) (hl : (xs.length + es.length) * 8 ≤ 140737488355328) :
    ∃ v' w', (Builtin.append_ #[36, 36] ty #[x, u]).run Tryz.prog w = .ok v' w' ∧ OwI w' base v' (xs ++ es) ∧ w.grownBy w' x.ownBlock ∧ (v'.ownBlock = x.ownBlock ∨ v'.ownBlock = some w.heap.size) := by
  obtain ⟨i0, hi, hz0, hz1, hz2⟩ := info_parts info_int
  have hZ : ZI es := fun k x hk => by
    obtain ⟨ao, cap, rfl, _, _, hx⟩ := Row.flat hs
    obtain ⟨_, _, y, _, hy, h1, h2, _⟩ := hx k (List.getElem?_eq_some_iff.1 hk).1
    rw [hk] at hy
    cases hy
    exact ⟨h1, h2⟩
  have hZ2 : ZI (xs ++ es) := fun k y hk => by
    by_cases hkl : k < xs.length
    · rw [List.getElem?_append_left hkl] at hk
      exact ho.1 k y hk
    · rw [List.getElem?_append_right (by omega)] at hk
      exact hZ _ y hk
  obtain ⟨ao, cap, rfl, hc, hm, hx⟩ := hs
  by_cases h0 : es.length = 0
  · obtain rfl : es = [] := List.eq_nil_of_length_eq_zero h0
    obtain ⟨bo, bc, rfl, hbc, _⟩ := ho.shape
    refine ⟨_, w, run_append_nothing w 36 36 ty 3 i0 under_ints hi _ xs.length bc hbc _ ?_, by rw [List.append_nil]; exact ho, World.grownBy.refl _ _, .inl rfl⟩
    cases ao with
    | none => exact Src.ofNil w under_ints _
    | some a => exact Src.ofSlice w under_ints a 0 _ [] (by simp) (fun j u hj => (by simp at hj)) (fun u hu => (by simp at hu))
  · obtain ⟨g', off, rfl, hg, hcell⟩ := hx (by omega)
    obtain ⟨v', w', hr, h2, h3, _, h5⟩ := run_append_own_at (P := Tryz.prog) w base 36 ty 3 i0 _ 1 8 under_ints hi hz0 hz1 hz2 rfl (by decide) _ xs.length (xs.map I64) ho.2 ⟨g', off, none⟩ es.length cap (es.map I64) (by simp) (fun j u hj => by
      rw [List.getElem?_map] at hj
      cases hk : es[j]? with
      | none => rw [hk] at hj; simp at hj
      | some x =>
        rw [hk] at hj
        simp at hj
        subst hj
        rw [Addr.add_lit]
        have := (hcell j x hk).2.2
        rw [Nat.mul_one] at this
        exact this) (fun u hu => by obtain ⟨x, _, rfl⟩ := List.mem_map.1 hu; rfl) (by unfold maxLen; omega) (by omega) hb
    refine ⟨v', w', hr, ⟨hZ2, ?_⟩, h3, h5⟩
    rw [List.length_append, List.map_append]
    exact h2

theorem cutI {w : World} {base g n cap : Nat} {xs ys : List Int} (h : OwI w base (.slice (some ⟨g, 0, none⟩) n cap) (xs ++ ys)) : Is w (.slice (some ⟨g, 0, none⟩) xs.length cap) xs := by
  obtain ⟨ao, cp, hv, hc, hm, hx⟩ := h.is
  simp only [Value.slice.injEq] at hv
  obtain ⟨rfl, _, rfl⟩ := hv
  rw [List.length_append] at hc
  refine ⟨_, cap, rfl, by omega, hm, fun h0 => ?_⟩
  obtain ⟨g', off, e, hg, hcell⟩ := hx (by rw [List.length_append]; omega)
  simp only [Option.some.injEq, Addr.mk.injEq, and_true] at e
  obtain ⟨rfl, rfl⟩ := e
  exact ⟨g, 0, rfl, hg, fun k x hk => hcell k x (by rw [List.getElem?_append_left (List.getElem?_eq_some_iff.1 hk).1]; exact hk)⟩

end Go.Proofs.YtoapgbaibpkckaaGreatDoor

/- Terms with a part replaced, plainly. -/
namespace Go.Proofs.YtoapgbaibpkckaaGreatDoor
open Go.RowKit Go.Maps Go.BigFrame

theorem right_len {sig : List Sy} {u : List Int} (h : rowE sig u = 0) : 0 < u.length := by
  cases u with
  | nil => simp [rowE, firstT] at h
  | cons c u => simp

end Go.Proofs.YtoapgbaibpkckaaGreatDoor

/- Canon, plainly: it is blind to a renaming, and numbers what it numbered the same again. -/
namespace Go.Proofs.YtoapgbaibpkckaaGreatDoor
open Go.RowKit Go.Maps

/-- A code whose variable has another number. -/
def reC (f : Int → Int) (c : Int) : Int := if c < 0 then -1 - f (-1 - c) else c
def reK (f : Int → Int) (m : Met) : Met := m.map fun p => (f p.1, p.2)

/-- What one holds the other holds. -/
def Ext (m m' : Met) : Prop := ∀ n i, m.lookup n = some i → m'.lookup n = some i

theorem ext_num (m : Met) (n : Int) : Ext m (numN m n).2 := fun k i hk => by
  unfold numN
  cases hn : m.lookup n with
  | some j => exact hk
  | none =>
    have e : k ≠ n := fun e => by rw [e, hn] at hk; cases hk
    show List.lookup k ((n, (m.length : Int)) :: m) = _
    rw [List.lookup_cons, show (k == n) = false by simpa using e]
    exact hk

theorem val_num (m : Met) (n : Int) : (numN m n).2.lookup n = some (numN m n).1 := by
  unfold numN
  cases hn : m.lookup n with
  | some j => exact hn
  | none =>
    show List.lookup n ((n, (m.length : Int)) :: m) = _
    rw [List.lookup_cons, show (n == n) = true by simp]

theorem ext_ren : ∀ (t : List Int) (m : Met), Ext m (renG numN m t).2
  | [], _ => fun _ _ h => h
  | c :: t, m => fun n i h => by
    unfold renG
    split
    · exact ext_ren t _ n i (ext_num m (-1 - c) n i h)
    · exact ext_ren t m n i h

/-- The number that a variable has in the end. -/
def numF (F : Met) (n : Int) : Int := (F.lookup n).getD 0

theorem ren_map (F : Met) : ∀ (t : List Int) (m : Met), Ext (renG numN m t).2 F → (renG numN m t).1 = t.map (reC (numF F)) ∧ ∀ c ∈ t, c < 0 → (F.lookup (-1 - c)).isSome = true
  | [], _, _ => ⟨rfl, fun c hc => (by cases hc)⟩
  | c :: t, m, h => by
    by_cases hc : c < 0
    · have e : renG numN m (c :: t) = ((-1 - (numN m (-1 - c)).1) :: (renG numN (numN m (-1 - c)).2 t).1, (renG numN (numN m (-1 - c)).2 t).2) := by simp only [renG, if_pos hc]
      rw [e] at h
      obtain ⟨h1, h2⟩ := ren_map F t (numN m (-1 - c)).2 h
      have hv := h _ _ (ext_ren t _ _ _ (val_num m (-1 - c)))
      refine ⟨?_, fun x hx hx0 => ?_⟩
      · rw [e, List.map_cons, ← h1]
        simp only [reC, if_pos hc, numF, hv, Option.getD_some]
      · cases hx with
        | head => rw [hv]; rfl
        | tail _ hx => exact h2 x hx hx0
    · have e : renG numN m (c :: t) = (c :: (renG numN m t).1, (renG numN m t).2) := by simp only [renG, if_neg hc]
      rw [e] at h
      obtain ⟨h1, h2⟩ := ren_map F t m h
      refine ⟨?_, fun x hx hx0 => ?_⟩
      · rw [e, List.map_cons, ← h1]
        simp only [reC, if_neg hc]
      · cases hx with
        | head => exact absurd hx0 hc
        | tail _ hx => exact h2 x hx hx0

/-- Unlike variables have unlike numbers, none below 0, none from the count on. -/
def Apt (m : Met) : Prop := (∀ a b i, m.lookup a = some i → m.lookup b = some i → a = b) ∧ ∀ p ∈ m, 0 ≤ p.2 ∧ p.2 < (m.length : Int)

theorem apt_num {m : Met} (h : Apt m) (n : Int) : Apt (numN m n).2 := by
  refine ⟨?_, (numN_in h.2).2⟩
  unfold numN
  cases hn : m.lookup n with
  | some j => exact h.1
  | none =>
    intro a b i ha hb
    rw [List.lookup_cons] at ha hb
    by_cases ea : a = n
    · by_cases eb : b = n
      · rw [ea, eb]
      · subst ea
        rw [show (b == a) = false by simpa using eb] at hb
        simp at ha
        have := h.2 _ (lookup_mem hb)
        simp only at this
        omega
    · rw [show (a == n) = false by simpa using ea] at ha
      by_cases eb : b = n
      · subst eb
        simp at hb
        have := h.2 _ (lookup_mem ha)
        simp only at this
        omega
      · rw [show (b == n) = false by simpa using eb] at hb
        exact h.1 a b i ha hb

theorem apt_ren : ∀ (t : List Int) (m : Met), Apt m → Apt (renG numN m t).2
  | [], _, h => h
  | c :: t, m, h => by
    unfold renG
    split
    · exact apt_ren t _ (apt_num h _)
    · exact apt_ren t m h

end Go.Proofs.YtoapgbaibpkckaaGreatDoor

/- Canon as the document numbers: by a row of the codes met. -/
namespace Go.Proofs.YtoapgbaibpkckaaGreatDoor
open Go.RowKit Go.Maps

/-- The number of a variable by a row of codes met, and the row then. -/
def docN (met : List Int) (n : Int) : Int × List Int := if -1 - n ∈ met then ((met.idxOf (-1 - n) : Nat), met) else ((met.length : Nat), met ++ [-1 - n])

def canD : List Int → List (List Int) → List (List Int)
  | _, [] => []
  | met, t :: l => (renG docN met t).1 :: canD (renG docN met t).2 l

/-- The map and the row hold the same. -/
def Rel (m : Met) (met : List Int) : Prop := m.length = met.length ∧ ∀ n : Int, m.lookup n = if -1 - n ∈ met then some ((met.idxOf (-1 - n) : Nat) : Int) else none

theorem rel_num {m : Met} {met : List Int} (h : Rel m met) (n : Int) : (numN m n).1 = (docN met n).1 ∧ Rel (numN m n).2 (docN met n).2 := by
  unfold numN docN
  rw [h.2 n]
  by_cases hn : -1 - n ∈ met
  · rw [if_pos hn, if_pos hn]
    exact ⟨rfl, h⟩
  · rw [if_neg hn, if_neg hn]
    refine ⟨by show ((m.length : Nat) : Int) = _; rw [h.1], ?_, fun k => ?_⟩
    · show ((n, (m.length : Int)) :: m).length = (met ++ [-1 - n]).length
      rw [List.length_cons, List.length_append, h.1]
      rfl
    · show List.lookup k ((n, (m.length : Int)) :: m) = if -1 - k ∈ met ++ [-1 - n] then some (((met ++ [-1 - n]).idxOf (-1 - k) : Nat) : Int) else none
      rw [List.lookup_cons]
      by_cases e : k = n
      · subst e
        rw [show (k == k) = true by simp, if_pos (by simp), List.idxOf_append, if_neg hn, h.1]
        simp
      · rw [show (k == n) = false by simpa using e]
        show List.lookup k m = _
        rw [h.2 k]
        by_cases hk : -1 - k ∈ met
        · rw [if_pos hk, if_pos (List.mem_append_left _ hk), List.idxOf_append, if_pos hk]
        · rw [if_neg hk, if_neg (by
            intro hh
            rcases List.mem_append.1 hh with hh | hh
            · exact hk hh
            · simp at hh
              omega)]

theorem rel_ren : ∀ (t : List Int) {m : Met} {met : List Int}, Rel m met → (renG numN m t).1 = (renG docN met t).1 ∧ Rel (renG numN m t).2 (renG docN met t).2
  | [], _, _, h => ⟨rfl, h⟩
  | c :: t, m, met, h => by
    by_cases hc : c < 0
    · obtain ⟨h1, h2⟩ := rel_num h (-1 - c)
      obtain ⟨h3, h4⟩ := rel_ren t h2
      simp only [renG, if_pos hc]
      exact ⟨by rw [h1, h3], h4⟩
    · obtain ⟨h3, h4⟩ := rel_ren t h
      simp only [renG, if_neg hc]
      exact ⟨by rw [h3], h4⟩

theorem rel_can : ∀ (l : List (List Int)) {m : Met} {met : List Int}, Rel m met → canG m l = canD met l
  | [], _, _, _ => rfl
  | t :: l, m, met, h => by
    obtain ⟨h1, h2⟩ := rel_ren t h
    unfold canG canD
    rw [h1, rel_can l h2]

/-- Both number alike. -/
theorem canL_doc (l : List (List Int)) : canL l = canD [] l := rel_can l ⟨rfl, fun n => (by simp)⟩

end Go.Proofs.YtoapgbaibpkckaaGreatDoor

/- When two rules number their variables alike, plainly. -/
namespace Go.Proofs.YtoapgbaibpkckaaGreatDoor
open Go.RowKit Go.Maps

theorem met_once : ∀ (t m : List Int), m.Nodup → (metA m t).Nodup
  | [], m, h => h
  | c :: t, m, h => by
    unfold metA
    split
    · exact met_once t m h
    · rename_i hn
      refine met_once t (m ++ [c]) ?_
      rw [List.nodup_append]
      refine ⟨h, by simp, ?_⟩
      intro a ha b hb e
      simp at hb
      subst hb
      subst e
      exact hn (.inr ha)

end Go.Proofs.YtoapgbaibpkckaaGreatDoor

/- bindAlike and argumentPairs walked. -/
namespace Go.Proofs.YtoapgbaibpkckaaGreatDoor
open Go.RowKit Go.Maps Go.BigFrame

/-- Pairs of trees. -/
def prC (xs : List (Value × Value)) : List Value := xs.flatMap fun p => [p.1, p.2]

theorem prC_len : ∀ xs : List (Value × Value), (prC xs).length = xs.length * 2
  | [] => rfl
  | p :: xs => by
    have := prC_len xs
    simp only [prC, List.flatMap_cons, List.length_append, List.length_cons, List.length_nil] at this ⊢
    omega

theorem prC_app (xs ys : List (Value × Value)) : prC (xs ++ ys) = prC xs ++ prC ys := by simp [prC, List.flatMap_append]

theorem prC_at : ∀ (xs : List (Value × Value)) (k : Nat) (p : Value × Value), xs[k]? = some p → (prC xs)[k * 2]? = some p.1 ∧ (prC xs)[k * 2 + 1]? = some p.2
  | [], k, p, h => by simp at h
  | q :: xs, 0, p, h => by
    simp only [List.getElem?_cons_zero, Option.some.injEq] at h
    subst h
    exact ⟨rfl, rfl⟩
  | q :: xs, k + 1, p, h => by
    rw [List.getElem?_cons_succ] at h
    have := prC_at xs k p h
    refine ⟨?_, ?_⟩
    · rw [show (k + 1) * 2 = k * 2 + 1 + 1 by omega]
      exact this.1
    · rw [show (k + 1) * 2 + 1 = k * 2 + 1 + 1 + 1 by omega]
      exact this.2

end Go.Proofs.YtoapgbaibpkckaaGreatDoor

/- slices.Sort at []int laid; risingBinds of package match walked. -/
namespace Go.Proofs.YtoapgbaibpkckaaGreatDoor
open Go.RowKit Go.Maps

def sortI (xs : List Int) : List Int := xs.mergeSort fun x y => decide (x ≤ y)

theorem sortI_len (xs : List Int) : (sortI xs).length = xs.length := by unfold sortI; simp

theorem sortI_mem (xs : List Int) (x : Int) : x ∈ sortI xs ↔ x ∈ xs := by unfold sortI; simp

def Tryz.sortLayI_ren : Go.Shelf.Ren := ⟨fun | 189 => 84 | 125 => 113 | 257 => 112 | 128 => 137 | 129 => 138 | 294 => 129 | 295 => 130 | 296 => 131 | 297 => 132 | 298 => 133 | 299 => 134 | 216 => 86 | 300 => 135 | 301 => 136 | 328 => 152 | 329 => 153 | 330 => 154 | 331 => 155 | 332 => 156 | 215 => 114 | 343 => 163 | n => n, fun | 28 => 36 | 3 => 3 | 46 => 111 | 0 => 0 | 51 => 156 | 53 => 158 | 4 => 4 | 183 => 150 | 182 => 149 | 131 => 93 | 5 => 5 | 9 => 9 | 218 => 179 | 222 => 183 | 228 => 197 | 229 => 198 | n => n, fun | n => n⟩
theorem Tryz.sortLayI : Go.Proofs.Lays.n189 Tryz.prog Tryz.sortLayI_ren := {
  mixed := by kernel_rfl
  f125 := Tryz.func113.trans (congrArg some (by kernel_rfl))
  f128 := Tryz.func137.trans (congrArg some (by kernel_rfl))
  f129 := Tryz.func138.trans (congrArg some (by kernel_rfl))
  f189 := Tryz.func84.trans (congrArg some (by kernel_rfl))
  f215 := Tryz.func114.trans (congrArg some (by kernel_rfl))
  f216 := Tryz.func86.trans (congrArg some (by kernel_rfl))
  f257 := Tryz.func112.trans (congrArg some (by kernel_rfl))
  f294 := Tryz.func129.trans (congrArg some (by kernel_rfl))
  f295 := Tryz.func130.trans (congrArg some (by kernel_rfl))
  f296 := Tryz.func131.trans (congrArg some (by kernel_rfl))
  f297 := Tryz.func132.trans (congrArg some (by kernel_rfl))
  f298 := Tryz.func133.trans (congrArg some (by kernel_rfl))
  f299 := Tryz.func134.trans (congrArg some (by kernel_rfl))
  f300 := Tryz.func135.trans (congrArg some (by kernel_rfl))
  f301 := Tryz.func136.trans (congrArg some (by kernel_rfl))
  f328 := Tryz.func152.trans (congrArg some (by kernel_rfl))
  f329 := Tryz.func153.trans (congrArg some (by kernel_rfl))
  f330 := Tryz.func154.trans (congrArg some (by kernel_rfl))
  f331 := Tryz.func155.trans (congrArg some (by kernel_rfl))
  f332 := Tryz.func156.trans (congrArg some (by kernel_rfl))
  f343 := Tryz.func163.trans (congrArg some (by kernel_rfl))
  t0 := Tryz.underlying0
  a0 := Tryz.isAgg0
  z0 := Tryz.sizeOf0
  v0 := Tryz.zeroValue0
  t3 := Tryz.underlying3
  a3 := Tryz.isAgg3
  z3 := Tryz.sizeOf3
  v3 := Tryz.zeroValue3
  t4 := Tryz.underlying4
  a4 := Tryz.isAgg4
  z4 := Tryz.sizeOf4
  v4 := Tryz.zeroValue4
  t5 := Tryz.underlying5
  a5 := Tryz.isAgg5
  z5 := Tryz.sizeOf5
  v5 := Tryz.zeroValue5
  t9 := Tryz.underlying9
  a9 := Tryz.isAgg9
  z9 := Tryz.sizeOf9
  v9 := Tryz.zeroValue9
  t28 := Tryz.underlying36
  a28 := Tryz.isAgg36
  z28 := Tryz.sizeOf36
  v28 := Tryz.zeroValue36
  t46 := Tryz.underlying111
  a46 := Tryz.isAgg111
  z46 := Tryz.sizeOf111
  v46 := Tryz.zeroValue111
  t51 := Tryz.underlying156
  a51 := Tryz.isAgg156
  z51 := Tryz.sizeOf156
  v51 := Tryz.zeroValue156
  t53 := Tryz.underlying158
  a53 := Tryz.isAgg158
  z53 := Tryz.sizeOf158
  v53 := Tryz.zeroValue158
  t131 := Tryz.underlying93
  a131 := Tryz.isAgg93
  z131 := Tryz.sizeOf93
  v131 := Tryz.zeroValue93
  t182 := Tryz.underlying149
  a182 := Tryz.isAgg149
  z182 := Tryz.sizeOf149
  v182 := Tryz.zeroValue149
  t183 := Tryz.underlying150
  a183 := Tryz.isAgg150
  z183 := Tryz.sizeOf150
  v183 := Tryz.zeroValue150
  t218 := Tryz.underlying179
  a218 := Tryz.isAgg179
  z218 := Tryz.sizeOf179
  v218 := Tryz.zeroValue179
  t222 := Tryz.underlying183
  a222 := Tryz.isAgg183
  z222 := Tryz.sizeOf183
  v222 := Tryz.zeroValue183
  t228 := Tryz.underlying197
  a228 := Tryz.isAgg197
  z228 := Tryz.sizeOf197
  v228 := Tryz.zeroValue197
  t229 := Tryz.underlying198
  a229 := Tryz.isAgg198
  z229 := Tryz.sizeOf198
  v229 := Tryz.zeroValue198 }

set_option maxRecDepth 100000 in
set_option maxHeartbeats 800000 in
theorem sortI_any (v : Value) (xs : List Int) (w : World) (base : Nat) (ho : OwI w base v xs) (hn : xs.length < 4611686018427387904) :
    Calls Tryz.prog 84 #[v] w fun e w' => e = .returned (.tuple #[]) ∧ OwI w' base v (sortI xs) ∧ w.grownBy w' v.ownBlock := by
  have hz : ZI (sortI xs) := fun k x hk => by
    obtain ⟨j, hj⟩ := List.getElem?_of_mem ((sortI_mem xs x).1 (List.mem_of_getElem? hk))
    exact ho.1 j x hj
  rcases ho.2.2 with ⟨rfl, h0⟩ | ⟨g, cap, cur, rfl, hb, hg, hc, hm, hs, ht⟩
  · obtain rfl : xs = [] := List.eq_nil_of_length_eq_zero h0
    have hcon := Any.slices_Sort_int_none Tryz.sortLayI none 0 w
    change Calls Tryz.prog 84 _ _ _ at hcon
    refine hcon.mono ?_
    rintro e w' ⟨rfl, rfl⟩
    exact ⟨rfl, by simpa [sortI] using ho, World.grownBy.refl _ _⟩
  · rw [Nat.mul_one] at ht
    have hcon := Any.slices_Sort_int Tryz.sortLayI g 0 cap xs w (holds_of_blockI hg ht) (Array.getElem?_eq_some_iff.1 hg).1 hn
    change Calls Tryz.prog 84 _ _ _ at hcon
    refine hcon.mono ?_
    rintro e w' ⟨rfl, n, os, rfl⟩
    refine ⟨rfl, ⟨hz, ?_⟩, grownBy_sortedI _⟩
    have := ownsRow_sortedI (n := n) (os := os) (sortI_len xs) hb hg hc hm hs
    rw [sortI_len]
    exact this

end Go.Proofs.YtoapgbaibpkckaaGreatDoor

/- Rows that rise, plainly. -/
namespace Go.Proofs.YtoapgbaibpkckaaGreatDoor
open Go.RowKit Go.Maps

theorem rise_eq : ∀ {a b : List Int}, a.Pairwise (· < ·) → b.Pairwise (· < ·) → (∀ x, x ∈ a ↔ x ∈ b) → a = b
  | [], [], _, _, _ => rfl
  | [], y :: b, _, _, h => absurd ((h y).2 (by simp)) (by simp)
  | x :: a, [], _, _, h => absurd ((h x).1 (by simp)) (by simp)
  | x :: a, y :: b, ha, hb, h => by
    rw [List.pairwise_cons] at ha hb
    have hxy : x = y := by
      rcases List.mem_cons.1 ((h x).1 (by simp)) with e | e
      · exact e
      · rcases List.mem_cons.1 ((h y).2 (by simp)) with e2 | e2
        · exact e2.symm
        · have := hb.1 x e
          have := ha.1 y e2
          omega
    subst hxy
    rw [rise_eq ha.2 hb.2 fun z => ?_]
    constructor
    · intro hz
      rcases List.mem_cons.1 ((h z).1 (by simp [hz])) with e | e
      · have := ha.1 z hz; omega
      · exact e
    · intro hz
      rcases List.mem_cons.1 ((h z).2 (by simp [hz])) with e | e
      · have := hb.1 z hz; omega
      · exact e

end Go.Proofs.YtoapgbaibpkckaaGreatDoor

/- areTerms of package match walked. -/
namespace Go.Proofs.YtoapgbaibpkckaaGreatDoor
open Go.RowKit Go.Maps

def termsB (sig : List Sy) (l : List (List Int)) : Bool := l.all fun t => decide (termE sig t = 0)

end Go.Proofs.YtoapgbaibpkckaaGreatDoor

/- When binds make a pattern a term, plainly. -/
namespace Go.Proofs.YtoapgbaibpkckaaGreatDoor
open Go.RowKit Go.Maps

theorem laidL_app (f : Int → Option (List Int)) (a b : List Int) : laidL f (a ++ b) = laidL f a ++ laidL f b := by
  unfold laidL
  rw [List.flatMap_append]

theorem laidL_cons (f : Int → Option (List Int)) (c : Int) (b : List Int) : laidL f (c :: b) = piece f c ++ laidL f b := by
  unfold laidL
  rw [List.flatMap_cons]

/-- A pair of places: a pattern's tree and a term's. -/
structure Pr where
  P : Tr
  q1 : Nat
  T : Tr
  q2 : Nat

end Go.Proofs.YtoapgbaibpkckaaGreatDoor

/- boundRows: what its round reads. -/
namespace Go.Proofs.YtoapgbaibpkckaaGreatDoor
open Go.RowKit Go.Maps Go.BigFrame

/-- How many nodes wait. -/
def wait (ds : List Pr) : Nat := (ds.map fun d => d.P.size).sum

end Go.Proofs.YtoapgbaibpkckaaGreatDoor

/- What the binds of a match make of the pattern, plainly. -/
namespace Go.Proofs.YtoapgbaibpkckaaGreatDoor
open Go.RowKit Go.Maps

theorem first_codes2 {sig : List Sy} : ∀ (t : List Int) (m : Int) (i : Nat), firstT sig m i t = ((i : Int) + t.length, 0) → ∀ c ∈ t, codeD sig c ≠ none
  | [], _, _, _, c, hc => by simp at hc
  | a :: t, m, i, h, c, hc => by
    unfold firstT at h
    cases ha : codeD sig a with
    | none => rw [ha] at h; simp at h
    | some x =>
      rw [ha] at h
      simp only at h
      by_cases h0 : m + x = 0
      · rw [if_pos h0] at h
        have h2 := congrArg Prod.fst h
        simp only [List.length_cons] at h2
        have h3 : t.length = 0 := by omega
        obtain rfl := List.eq_nil_of_length_eq_zero h3
        rw [List.mem_singleton] at hc
        subst hc
        rw [ha]
        simp
      · rw [if_neg h0] at h
        rcases List.mem_cons.1 hc with rfl | hc
        · rw [ha]; simp
        · refine first_codes2 t (m + x) (i + 1) ?_ c hc
          rw [h]
          simp only [List.length_cons]
          congr 1
          push_cast
          omega


theorem row_var {sig : List Sy} {c : Int} (h0 : c < 0) (h1 : -1048576 ≤ c) : rowE sig [c] = 0 := by
  rw [row_first]
  unfold firstT
  rw [codeD_var h1 h0]
  simp

theorem codes_of {sig : List Sy} {p : List Int} (h : rowE sig p = 0) {c : Int} (hc : c ∈ p) : -1048576 ≤ c := by
  have h1 := row_first.1 h
  have h2 := first_codes2 p 1 0 (by rw [h1]; simp) c hc
  by_cases h3 : c < -1048576
  · exact absurd (codeD_none (.inr h3)) h2
  · omega

end Go.Proofs.YtoapgbaibpkckaaGreatDoor
