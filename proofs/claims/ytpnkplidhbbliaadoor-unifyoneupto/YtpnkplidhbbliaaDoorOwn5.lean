/- Texts of the proof, one behind the other. -/
import Derived.Test.YtpnkplidhbbliaaDoorOwn2
import Derived.Test.YtpnkplidhbbliaaDoorOwn4
import Derived.Sort.QuietTacIn
import Derived.Sort.CutIn
import Derived.Deep.DeepAppendRoom
import Derived.Test.YtpnkplidhbbliaaDoorOwn3
/- The tree of a right term. -/
namespace Go.Proofs.YtpnkplidhbbliaaDoor
open Go.RowKit Go.Maps Go.Shelf

attribute [local go_sem] Oper.semAt_some

/-- How many arguments a code has. -/
def arN (sig : List Sy) (c : Int) : Nat := match sig[c.toNat]? with | some s => s.2.toNat | none => 0

/-- A code more, from the back to the front: what begins first is the last one. -/
def growStep (sig : List Sy) (st : List Tr) (c : Int) : List Tr := if c < 0 then st ++ [.var] else st.take (st.length - arN sig c) ++ [.app (st.drop (st.length - arN sig c)).reverse]

def growR (sig : List Sy) : List Int → List Tr
  | [] => []
  | c :: u => growStep sig (growR sig u) c

theorem sizes_rev : ∀ ts : List Tr, sizes ts.reverse = sizes ts
  | [] => rfl
  | t :: ts => by
    rw [List.reverse_cons, sizes_app, sizes_rev ts]
    simp only [sizes]
    omega

theorem growStep_sizes (sig : List Sy) (st : List Tr) (c : Int) : sizes (growStep sig st c) = sizes st + 1 := by
  unfold growStep
  split
  · rw [sizes_app]; simp [sizes, Tr.size]
  · have h1 := sizes_app (st.take (st.length - arN sig c)) (st.drop (st.length - arN sig c))
    rw [List.take_append_drop] at h1
    rw [sizes_app]
    simp only [sizes, Tr.size, sizes_rev]
    omega

theorem growR_sizes (sig : List Sy) : ∀ u : List Int, sizes (growR sig u) = u.length
  | [] => rfl
  | c :: u => by
    show sizes (growStep sig (growR sig u) c) = _
    rw [growStep_sizes, growR_sizes sig u, List.length_cons]

theorem codeD_ar {sig : List Sy} (ha : ArOk sig) {c e : Int} (h : codeD sig c = some e) (hc : ¬ c < 0) : e = (arN sig c : Int) - 1 ∧ c.toNat < sig.length := by
  unfold codeD at h
  by_cases h9 : c < -1048576
  · omega
  · rw [if_neg h9, if_neg hc] at h
    cases hs : sig[c.toNat]? with
    | none => rw [hs] at h; cases h
    | some s =>
      rw [hs] at h
      have := ha s (List.mem_of_getElem? hs)
      simp only [Option.some.injEq] at h
      unfold arN
      rw [hs]
      simp only
      exact ⟨by omega, (List.getElem?_eq_some_iff.1 hs).1⟩

/-- The terms that a row is made of, and that each code finds its arguments. -/
theorem growR_len {sig : List Sy} (ha : ArOk sig) : ∀ (u : List Int) (m : Int) (i : Nat), 1 ≤ m → firstT sig m i u = ((i : Int) + u.length, 0) → ((growR sig u).length : Int) = m
  | [], m, i, hm, h => by simp [firstT] at h
  | c :: u, m, i, hm, h => by
    rw [firstT_cons] at h
    cases hc : codeD sig c with
    | none => rw [hc] at h; simp at h
    | some e =>
      rw [hc] at h
      simp only at h
      have he := codeD_ge ha hc
      have hlen : ((growR sig u).length : Int) = m + e := by
        by_cases h0 : m + e = 0
        · rw [if_pos h0] at h
          have := congrArg Prod.fst h
          simp only [List.length_cons] at this
          obtain rfl : u = [] := List.eq_nil_of_length_eq_zero (by omega)
          show ((0 : Nat) : Int) = _
          omega
        · rw [if_neg h0] at h
          exact growR_len ha u (m + e) (i + 1) (by omega) (by rw [h]; simp only [List.length_cons, Prod.mk.injEq, and_true]; omega)
      show ((growStep sig (growR sig u) c).length : Int) = m
      unfold growStep
      by_cases hv : c < 0
      · rw [if_pos hv, List.length_append]
        have he1 : e = -1 := by
          have hc2 := hc
          unfold codeD at hc2
          by_cases h9 : c < -1048576
          · rw [if_pos h9] at hc2; cases hc2
          · rw [if_neg h9, if_pos hv] at hc2; cases hc2; rfl
        simp only [List.length_cons, List.length_nil]
        omega
      · rw [if_neg hv, List.length_append, List.length_take]
        have := (codeD_ar ha hc hv).1
        simp only [List.length_cons, List.length_nil]
        omega

/-- Each code of a right term: it is one, and its arguments are there. -/
theorem grow_code {sig : List Sy} (ha : ArOk sig) : ∀ (p : List Int) (c : Int) (u : List Int) (m : Int) (i : Nat), 1 ≤ m → firstT sig m i (p ++ c :: u) = ((i : Int) + (p ++ c :: u).length, 0) → ¬ c < 0 → c.toNat < sig.length ∧ arN sig c ≤ (growR sig u).length
  | [], c, u, m, i, hm, h, hv => by
    rw [List.nil_append] at h
    have hl := growR_len ha (c :: u) m i hm h
    rw [firstT_cons] at h
    cases hc : codeD sig c with
    | none => rw [hc] at h; simp at h
    | some e =>
      rw [hc] at h
      simp only at h
      obtain ⟨k1, k2⟩ := codeD_ar ha hc hv
      refine ⟨k2, ?_⟩
      by_cases h0 : m + e = 0
      · omega
      · rw [if_neg h0] at h
        have := growR_len ha u (m + e) (i + 1) (by have := codeD_ge ha hc; omega) (by rw [h]; simp only [List.length_cons, Prod.mk.injEq, and_true]; omega)
        omega
  | d :: p, c, u, m, i, hm, h, hv => by
    rw [List.cons_append, firstT_cons] at h
    cases hc : codeD sig d with
    | none => rw [hc] at h; simp at h
    | some e =>
      rw [hc] at h
      simp only at h
      by_cases h0 : m + e = 0
      · rw [if_pos h0] at h
        have := congrArg Prod.fst h
        simp at this
        omega
      · rw [if_neg h0] at h
        exact grow_code ha p c u (m + e) (i + 1) (by have := codeD_ge ha hc; omega) (by rw [h]; simp only [List.length_cons, Prod.mk.injEq, and_true]; omega) hv

theorem grow_one {sig : List Sy} (ha : ArOk sig) {t : List Int} (h : rowE sig t = 0) : ∃ T, growR sig t = [T] ∧ T.size = t.length := by
  have h1 := growR_len ha t 1 0 (by omega) (by rw [row_first.1 h]; simp)
  have h2 := growR_sizes sig t
  cases hg : growR sig t with
  | nil => rw [hg] at h1; simp at h1
  | cons T r =>
    rw [hg] at h1 h2
    obtain rfl : r = [] := List.eq_nil_of_length_eq_zero (by simp at h1; omega)
    exact ⟨T, rfl, by simpa [sizes] using h2⟩

theorem own_rdv {w : World} {base : Nat} {e : TypeId} {v : Value} {vals : List Value} (h : w.ownsRow base e 1 v vals.length vals) : RdV w v vals := by
  rcases h.2 with ⟨rfl, hn⟩ | ⟨g, cap, cur, hv, hb, hg, hc, hm, hs, ht⟩
  · exact .inl ⟨rfl, List.eq_nil_of_length_eq_zero hn⟩
  · subst hv
    refine .inr ⟨g, 0, cap, rfl, fun j u hj => ?_⟩
    have hlt := (List.getElem?_eq_some_iff.1 hj).1
    rw [Nat.zero_add, World.ownsRow.cellAt h j (by omega)]
    exact hj

theorem own_cut {w : World} {base : Nat} {e : TypeId} {ao : Option Addr} {n cap k : Nat} {vals : List Value} (h : w.ownsRow base e 1 (.slice ao n cap) n vals) (hk : k ≤ n) : w.ownsRow base e 1 (.slice ao k cap) k (vals.take k) := by
  have h1 := h.1
  refine ⟨by rw [List.length_take]; omega, ?_⟩
  rcases h.2 with ⟨hv, hn⟩ | ⟨g, cp, cur, hv, hb, hg, hc, hm, hs, ht⟩
  · simp only [Value.slice.injEq] at hv
    obtain ⟨rfl, rfl, rfl⟩ := hv
    obtain rfl : k = 0 := by omega
    exact .inl ⟨rfl, rfl⟩
  · simp only [Value.slice.injEq] at hv
    obtain ⟨rfl, _, rfl⟩ := hv
    refine .inr ⟨g, cap, cur, rfl, hb, hg, by omega, hm, hs, ?_⟩
    rw [Nat.mul_one] at ht ⊢
    rw [← ht, List.take_take, Nat.min_eq_left hk]

theorem frozen_same {w w' : World} {a : Addr} (h : w'.heap[a.block]? = w.heap[a.block]?) : w'.frozen? a = w.frozen? a := by
  unfold World.frozen?
  rw [h]

theorem cell_putObj {W : World} {l : Nat} {o o' : Obj} {a : Addr} {x : Value} (hl : W.heap[l]? = some o) (ho : o.isCells = false) (h : W.cell? a = some x) : (W.putObj l o').cell? a = some x := by
  have hne : a.block ≠ l := by
    rintro rfl
    unfold World.cell? at h
    rw [hl] at h
    cases o <;> simp_all [Obj.isCells]
  rw [World.cell?_of_block (World.putObj_heap_other hne)]
  exact h

end Go.Proofs.YtpnkplidhbbliaaDoor

/- grow walked. -/
namespace Go.Proofs.YtpnkplidhbbliaaDoor
open Go.RowKit Go.Maps Go.Shelf

attribute [local go_sem] Oper.semAt_some

section
variable {F : Fence} {n : Nat} {P : Program} {w w' : World} {ops : Array Oper} {rest : List Oper} {o : Oper} {a : Act} {Q : Exit → Act → World → Prop}

theorem wpListIn_append_run (hg : o.guard = none) (s x : Operand) (t : TypeId) (hop : o.op = .call { callee := .builtin .append, args := #[s, x], argTypes := #[t, t] }) (v u : Value) {v' : Value} (hs : a.eval s = v) (hx : a.eval x = u)
    (hr : (Builtin.append_ #[t, t] o.type #[v, u]).run P w = .ok v' w') (h : wpListIn F n P ops Q rest (a.put o.dst v') w') : wpListIn F n P ops Q (o :: rest) a w := by
  refine wpListIn_plain hg fun K hK => ?_
  unfold Oper.wpIn
  refine ⟨?_, ?_⟩
  · simp [Oper.about, hop, resolve, Target.leads, Sem.run_pure]
  · rw [Oper.semAt_plain F _ _ (by rw [hop]; intro c hc; cases hc)]
    simp [execOp, hop, resolve, invoke, builtin, hs, hx, hr, Result.andThen]
    exact hK _ _ h

theorem operIn_append_run {K : Act → World → Prop} (s x : Operand) (t : TypeId) (hop : o.op = .call { callee := .builtin .append, args := #[s, x], argTypes := #[t, t] }) (v u : Value) {v' : Value} (hs : a.eval s = v) (hx : a.eval x = u)
    (hr : (Builtin.append_ #[t, t] o.type #[v, u]).run P w = .ok v' w') (h : K (a.put o.dst v') w') : o.wpIn F n P a w K Q := by
  unfold Oper.wpIn
  refine ⟨?_, ?_⟩
  · simp [Oper.about, hop, resolve, Target.leads, Sem.run_pure]
  · rw [Oper.semAt_plain F _ _ (by rw [hop]; intro c hc; cases hc)]
    simp [execOp, hop, resolve, invoke, builtin, hs, hx, hr, Result.andThen]
    exact h

theorem wpAnyIn_round {md : Region.Mode} (l : Nat) (hnd : (ops.all fun o => match o.op with | .defer _ => false | _ => true) = true) :
    ∀ (fuel : Nat) (listed : Array Bool) (a : Act) (w : World), wpAnyIn F n P md ops Q fuel listed a w → wpAnyIn (F.inRound l) n P md ops Q fuel listed a w := by
  intro fuel
  induction fuel with
  | zero => intro listed a w h; exact h
  | succ fuel ih =>
    intro listed a w h
    refine ⟨h.1, fun i hi => ?_⟩
    have h1 := wpOpIn_mono (fun a w h => ih (listed.setIfInBounds i true) a w h) (h.2 i hi)
    unfold wpOpIn at h1 ⊢
    cases ho : ops[i]? with
    | none => simp only [ho] at h1; exact h1
    | some o =>
      simp only [ho] at h1 ⊢
      have hno : ∀ c, o.op ≠ .defer c := fun c hc => by
        obtain ⟨hl, he⟩ := Array.getElem?_eq_some_iff.1 ho
        have h2 := Array.all_eq_true.1 hnd i hl
        rw [he, hc] at h2
        cases h2
      split
      · rename_i hw
        rw [if_pos hw] at h1
        unfold Oper.wpIn at h1 ⊢
        rw [Oper.semAt_plain _ _ _ hno] at h1 ⊢
        refine ⟨h1.1, ?_⟩
        have h3 := h1.2
        generalize (execOp a.eval o).run P w = r at h3 ⊢
        cases r with
        | ok x w' => cases x <;> exact h3
        | halt x w' => cases x <;> exact h3
      · rename_i hw
        rw [if_neg hw] at h1
        exact h1

end

theorem cell_newg' {w : World} {t : TypeId} {x : Value} {g : Nat} (hg : g = w.heap.size) (_h : x = x) : (w.alloc (.cells #[x] t)).cell? ⟨g, 0, none⟩ = some x := by
  subst hg
  rw [cell_of_row _ _ _ _ _ _ (heap_alloc_new _ _)]
  rfl

theorem frozen_newg {w : World} {t : TypeId} {x : Value} {g : Nat} (hg : g = w.heap.size) : (w.alloc (.cells #[x] t)).frozen? ⟨g, 0, none⟩ = false := by
  subst hg
  simp

theorem drop_rev {t : List Int} {k : Nat} (hk : k < t.length) : ∃ c, t.reverse[k]? = some c ∧ t.drop (t.length - (k + 1)) = c :: t.drop (t.length - k) ∧ t = t.take (t.length - (k + 1)) ++ c :: t.drop (t.length - k) := by
  have hj : t.length - (k + 1) < t.length := by omega
  refine ⟨t[t.length - (k + 1)], ?_, ?_, ?_⟩
  · rw [List.getElem?_reverse hk, show t.length - 1 - k = t.length - (k + 1) by omega]
    exact List.getElem?_eq_getElem hj
  · rw [List.drop_eq_getElem_cons hj, show t.length - (k + 1) + 1 = t.length - k by omega]
  · have h1 := List.take_append_drop (t.length - (k + 1)) t
    rw [List.drop_eq_getElem_cons hj, show t.length - (k + 1) + 1 = t.length - k by omega] at h1
    exact h1.symm

/-- The frame of a round. -/
def growA (sv v : Value) (B : Nat) (t : List Int) (k : Nat) : Act :=
  { tmps := #[sv, v, .pointer (some ⟨B, 0, none⟩), undef, .nilIface, .pointer (some ⟨B + 1, 0, none⟩), undef, .int .i64 (t.reverse[k]?.getD 0), undef, undef, v, .func (.func 77) #[] #[.pointer (some ⟨B + 1 + 1, 0, none⟩)], .int .i64 ((t.length - 1 - k : Nat) : Int), .int .i64 (t.reverse[k]?.getD 0), undef, undef, undef, undef, undef, undef, undef, undef, undef, undef, undef, undef, undef, undef, undef, undef, undef, undef, undef, undef, undef, undef, undef, undef, undef, undef, undef, undef, undef, undef, undef], defers := [] }

end Go.Proofs.YtpnkplidhbbliaaDoor

/- The calls of the examples, one by one. -/
namespace Go.Proofs.YtpnkplidhbbliaaDoor
open Go.RowKit Go.Maps Go.BigFrame

theorem call_apply (w : World) (v1 : Value) (hs : Sg w v1 sumS) (hT : Tabs w) :
    Calls Tryd.prog 17 #[v1, .slice (some ⟨w.heap.size + 1 + 1, 0, none⟩) 2 2, .slice (some ⟨w.heap.size + 1 + 1 + 1, 0, none⟩) 3 3]
      ((((w.alloc (Obj.cells #[Value.int IntKind.i64 1, Value.int IntKind.i64 (-2)] 3)).alloc (Obj.cells #[Value.int IntKind.i64 0] 3)).alloc (Obj.cells #[Value.int IntKind.i64 0, Value.slice (some ⟨w.heap.size, 0, none⟩) 2 2, Value.int IntKind.i64 1, Value.slice (some ⟨w.heap.size + 1, 0, none⟩) 1 1] 31)).alloc (Obj.cells #[Value.int IntKind.i64 2, Value.int IntKind.i64 (-1), Value.int IntKind.i64 (-2)] 3))
      fun e w' => ∃ v', e = .returned (.tuple #[v', .int .i64 0]) ∧ Is w' v' [2, 1, -2, 0] ∧ Below w.heap.size w w' := by
  obtain ⟨W, hW⟩ : ∃ W, W = ((((w.alloc (Obj.cells #[Value.int IntKind.i64 1, Value.int IntKind.i64 (-2)] 3)).alloc (Obj.cells #[Value.int IntKind.i64 0] 3)).alloc (Obj.cells #[Value.int IntKind.i64 0, Value.slice (some ⟨w.heap.size, 0, none⟩) 2 2, Value.int IntKind.i64 1, Value.slice (some ⟨w.heap.size + 1, 0, none⟩) 1 1] 31)).alloc (Obj.cells #[Value.int IntKind.i64 2, Value.int IntKind.i64 (-1), Value.int IntKind.i64 (-2)] 3)) := ⟨_, rfl⟩
  obtain ⟨h1, h2, h3⟩ := w_apply w W hW
  rw [← hW]
  refine (apply_any v1 _ _ sumS [(0, [1, -2]), (1, [0])] [2, -1, -2] W (hs.kp (Kp.of_below h3)) h2 h1 (hT.below h3) (by decide)).mono ?_
  rintro e w' ⟨v', rfl, ho, hb⟩
  rw [applyE_1]
  rw [applyL_1] at ho
  exact ⟨v', rfl, ho.is, below_step h3 hb⟩

theorem call_shift (w : World) : Calls Tryd.prog 19 #[.slice (some ⟨w.heap.size, 0, none⟩) 3 3, .int .i64 3] (w.alloc (Obj.cells #[Value.int IntKind.i64 2, Value.int IntKind.i64 (-1), Value.int IntKind.i64 (-2)] 3))
    fun e w' => ∃ v', e = .returned (.tuple #[v', .int .i64 0]) ∧ Is w' v' [2, -4, -5] ∧ Below w.heap.size w w' := by
  refine (shift_any _ [2, -1, -2] 3 _ (is_new w [2, -1, -2] _ (by decide) (by decide)) (by decide) (by omega) (by omega)).mono ?_
  rintro e w' ⟨v', rfl, ho, hb⟩
  rw [shift_1]
  rw [shift_2] at ho
  exact ⟨v', rfl, ho.is, below_step (below_alloc _) hb⟩

theorem call_shift2 (w : World) : Calls Tryd.prog 19 #[.slice (some ⟨w.heap.size, 0, none⟩) 1 1, .int .i64 (-3)] (w.alloc (Obj.cells #[Value.int IntKind.i64 (-3)] 3))
    fun e w' => ∃ v', e = .returned (.tuple #[v', .int .i64 40]) ∧ Below w.heap.size w w' := by
  refine (shift_any _ [-3] (-3) _ (is_new w [-3] _ (by decide) (by decide)) (by decide) (by omega) (by omega)).mono ?_
  rintro e w' ⟨v', rfl, ho, hb⟩
  rw [shift_3]
  exact ⟨v', rfl, below_step (below_alloc _) hb⟩

theorem call_check1 (w : World) (v1 : Value) (hs : Sg w v1 sumS) (hT : Tabs w) :
    Calls Tryd.prog 28 #[v1, .slice (some ⟨w.heap.size + 1 + 1, 0, none⟩) 2 2]
      (((w.alloc (Obj.cells #[Value.int IntKind.i64 0] 3)).alloc (Obj.cells #[Value.int IntKind.i64 0] 3)).alloc (Obj.cells #[Value.int IntKind.i64 2, Value.slice (some ⟨w.heap.size, 0, none⟩) 1 1, Value.int IntKind.i64 2, Value.slice (some ⟨w.heap.size + 1, 0, none⟩) 1 1] 31))
      fun e w' => e = .returned (.int .i64 41) ∧ Below w.heap.size w w' := by
  obtain ⟨W, hW⟩ : ∃ W, W = (((w.alloc (Obj.cells #[Value.int IntKind.i64 0] 3)).alloc (Obj.cells #[Value.int IntKind.i64 0] 3)).alloc (Obj.cells #[Value.int IntKind.i64 2, Value.slice (some ⟨w.heap.size, 0, none⟩) 1 1, Value.int IntKind.i64 2, Value.slice (some ⟨w.heap.size + 1, 0, none⟩) 1 1] 31)) := ⟨_, rfl⟩
  have hsz : W.heap.size = w.heap.size + 3 := by rw [hW]; simp
  have h3 : Below w.heap.size w W := by rw [hW]; exact b1 (b1 (b1 b0))
  have i1 : Is W (.slice (some ⟨w.heap.size, 0, none⟩) 1 1) [0] := by
    refine is_lit (p := [0]) (by omega) (by decide) ⟨ei (by omega) (by omega) ?_, trivial⟩ <;> (rw [hW]; repeat (first | (refine cell_newg ?_ rfl; simp; done) | refine cell_old ?_))
  have i2 : Is W (.slice (some ⟨w.heap.size + 1, 0, none⟩) 1 1) [0] := by
    refine is_lit (p := [0]) (by omega) (by decide) ⟨ei (by omega) (by omega) ?_, trivial⟩ <;> (rw [hW]; repeat (first | (refine cell_newg ?_ rfl; simp; done) | refine cell_old ?_))
  have i3 : Bs W (.slice (some ⟨w.heap.size + 1 + 1, 0, none⟩) 2 2) [(2, [0]), (2, [0])] := by
    refine bs_lit (p := [(2, [0]), (2, [0])]) (by omega) (by decide) ⟨⟨by decide, by decide, by decide, ?_, _, ?_, i1⟩, ⟨by decide, by decide, by decide, ?_, _, ?_, i2⟩, trivial⟩ <;> (rw [hW]; repeat (first | (refine cell_newg ?_ rfl; simp; done) | refine cell_old ?_))
  rw [← hW]
  refine (substCheck_any v1 _ sumS [(2, [0]), (2, [0])] W (hs.kp (Kp.of_below h3)) i3 (hT.below h3)).mono ?_
  rintro e w' ⟨rfl, hb⟩
  rw [bindE_1]
  exact ⟨rfl, below_step h3 hb⟩

theorem call_check2 (w : World) (v1 : Value) (hs : Sg w v1 sumS) (hT : Tabs w) :
    Calls Tryd.prog 28 #[v1, .slice (some ⟨w.heap.size + 1, 0, none⟩) 1 1]
      ((w.alloc (Obj.cells #[Value.int IntKind.i64 1] 3)).alloc (Obj.cells #[Value.int IntKind.i64 0, Value.slice (some ⟨w.heap.size, 0, none⟩) 1 1] 31))
      fun e w' => e = .returned (.int .i64 31) ∧ Below w.heap.size w w' := by
  obtain ⟨W, hW⟩ : ∃ W, W = ((w.alloc (Obj.cells #[Value.int IntKind.i64 1] 3)).alloc (Obj.cells #[Value.int IntKind.i64 0, Value.slice (some ⟨w.heap.size, 0, none⟩) 1 1] 31)) := ⟨_, rfl⟩
  have hsz : W.heap.size = w.heap.size + 2 := by rw [hW]; simp
  have h3 : Below w.heap.size w W := by rw [hW]; exact b1 (b1 b0)
  have i1 : Is W (.slice (some ⟨w.heap.size, 0, none⟩) 1 1) [1] := by
    refine is_lit (p := [1]) (by omega) (by decide) ⟨ei (by omega) (by omega) ?_, trivial⟩ <;> (rw [hW]; repeat (first | (refine cell_newg ?_ rfl; simp; done) | refine cell_old ?_))
  have i3 : Bs W (.slice (some ⟨w.heap.size + 1, 0, none⟩) 1 1) [(0, [1])] := by
    refine bs_lit (p := [(0, [1])]) (by omega) (by decide) ⟨⟨by decide, by decide, by decide, ?_, _, ?_, i1⟩, trivial⟩ <;> (rw [hW]; repeat (first | (refine cell_newg ?_ rfl; simp; done) | refine cell_old ?_))
  rw [← hW]
  refine (substCheck_any v1 _ sumS [(0, [1])] W (hs.kp (Kp.of_below h3)) i3 (hT.below h3)).mono ?_
  rintro e w' ⟨rfl, hb⟩
  rw [bindE_2]
  exact ⟨rfl, below_step h3 hb⟩

end Go.Proofs.YtpnkplidhbbliaaDoor

/- The examples come out true. -/
namespace Go.Proofs.YtpnkplidhbbliaaDoor
open Go.RowKit Go.Maps Go.BigFrame

end Go.Proofs.YtpnkplidhbbliaaDoor

/- Lists of rows: of one's own, held against each other, joined. -/
namespace Go.Proofs.YtpnkplidhbbliaaDoor
open Go.RowKit Go.Maps Go.BigFrame

theorem rs_of_own {w : World} {base b2 : Nat} {v : Value} {vs : List Value} {l : List (List Int)} (h : w.ownsRow base 23 1 v l.length vs) (hr : OwR w b2 vs l) (hl : ∀ t ∈ l, t.length * 8 ≤ 140737488351232) : Rs w v l := by
  have h2 := h
  rcases h2.2 with ⟨rfl, hn⟩ | ⟨g, cap, cur, rfl, hb, hg, hc, hm, hs, ht⟩
  · obtain rfl := List.eq_nil_of_length_eq_zero hn
    exact Row.nil (by simp [maxLen])
  · refine ⟨_, cap, rfl, hc, hm, fun _ => ⟨g, 0, rfl, (Array.getElem?_eq_some_iff.1 hg).1, fun k t hk => ?_⟩⟩
    have hlt : k < l.length := (List.getElem?_eq_some_iff.1 hk).1
    obtain ⟨u, hu⟩ : ∃ u, vs[k]? = some u := ⟨_, List.getElem?_eq_getElem (by rw [hr.1]; exact hlt)⟩
    refine ⟨hl t (List.mem_of_getElem? hk), u, ?_, (hr.2 k u t hu hk).is⟩
    rw [Nat.zero_add, Nat.mul_one, World.ownsRow.cellAt h k (by omega)]
    exact hu

theorem renG_length {σ : Type} (φ : σ → Int → Int × σ) : ∀ (t : List Int) (s : σ), (renG φ s t).1.length = t.length
  | [], s => rfl
  | c :: t, s => by
    unfold renG
    split
    · simp only [List.length_cons, renG_length φ t]
    · simp only [List.length_cons, renG_length φ t]

theorem canG_lens : ∀ (l : List (List Int)) (m : Met), (canG m l).map List.length = l.map List.length
  | [], _ => rfl
  | t :: l, m => by
    unfold canG
    rw [List.map_cons, List.map_cons, canG_lens l, renG_length]

theorem canL_length (l : List (List Int)) : (canL l).length = l.length := by
  have := congrArg List.length (canG_lens l [])
  simpa [canL] using this

/-- Rows of the same lengths are as small. -/
theorem lens_small {l k : List (List Int)} (h : k.map List.length = l.map List.length) (hl : ∀ t ∈ l, t.length * 8 ≤ 140737488351232) : ∀ t ∈ k, t.length * 8 ≤ 140737488351232 := by
  intro t ht
  have h1 : t.length ∈ k.map List.length := List.mem_map.2 ⟨t, ht, rfl⟩
  rw [h] at h1
  obtain ⟨u, hu, e⟩ := List.mem_map.1 h1
  rw [← e]
  exact hl u hu

theorem Rs.small {w : World} {v : Value} {l : List (List Int)} (h : Rs w v l) : ∀ t ∈ l, t.length * 8 ≤ 140737488351232 := fun t ht => by
  obtain ⟨ao, cap, rfl, _, _, hx⟩ := Row.flat h
  obtain ⟨k, hk, rfl⟩ := List.getElem_of_mem ht
  obtain ⟨g, off, x, _, hm, h3, _⟩ := hx k hk
  rw [List.getElem?_eq_getElem hk] at hm
  cases hm
  exact h3

theorem join_row (ty : TypeId) {w : World} {base n : Nat} {x u : Value} {vs : List Value} (ho : w.ownsRow base 23 1 x n vs) (hb : base ≤ w.heap.size) (hl : (n + 1) * 24 ≤ 140737488355328) (hu : u.oneCell' = true) :
    ∃ v' w', (Builtin.append_ #[78, 78] ty #[x, .slice (some ⟨w.heap.size, 0, none⟩) 1 1]).run Tryd.prog (w.alloc (.cells #[u] 23)) = .ok v' w' ∧ w'.ownsRow base 23 1 v' (n + 1) (vs ++ [u]) ∧ (w.alloc (.cells #[u] 23)).grownBy w' x.ownBlock := by
  obtain ⟨i1, hi1, hy0, hy1, hy2⟩ := info_parts info_ints
  obtain ⟨v', w', hr, h2, h3, _, _⟩ := run_append_own_at (P := Tryd.prog) (w.alloc (.cells #[u] 23)) base 78 ty 23 i1 _ 1 24 under_rows hi1 hy0 hy1 hy2 rfl (by decide) x n vs (ownsRow_later ho (below_alloc _)) ⟨w.heap.size, 0, none⟩ 1 1 [u] rfl
    (fun j y hj => by
      rw [Addr.add_lit, Nat.zero_add]
      cases j with
      | zero =>
        simp at hj
        subst hj
        exact cell_new rfl
      | succ j => simp at hj) (fun y hy => by simp at hy; subst hy; exact hu) (by unfold maxLen; omega) (by omega) (Nat.le_trans hb (below_alloc _).size)
  exact ⟨v', w', hr, h2, h3⟩

end Go.Proofs.YtpnkplidhbbliaaDoor

/- Rows that are spoilt; rows of one's own that lie apart. -/
namespace Go.Proofs.YtpnkplidhbbliaaDoor
open Go.RowKit Go.Maps Go.BigFrame

/-- One element more behind such a slice. -/
theorem append_spl (t ty e : TypeId) (i : TypeInfo) (z : Value) (bytes : Nat) (ht : Tryd.prog.underlying t = some (.slice e)) (hi : Tryd.prog.info? e = some i) (hz : i.zero = some z) (hsize : i.size = 1) (hby : i.bytes = bytes) (hzs : z.cells.size = 1)
    {w : World} {b T : Nat} {ao : Option Addr} {n cap : Nat} (h : RowS w b T e (.slice ao n cap) n) {ad : Addr} {c : Nat} {x : Value} (hx : w.cell? ad = some x) (h1 : x.oneCell' = true) (hbytes : (n + 1) * bytes ≤ 140737488355328) (hn : n + 1 ≤ maxLen) :
    ∃ g' cap' w', (Builtin.append_ #[t, t] ty #[.slice ao n cap, .slice (some ad) 1 c]).run Tryd.prog w = .ok (.slice (some ⟨g', 0, none⟩) (n + 1) cap') w' ∧ Shp w' g' e cap' ∧ n + 1 ≤ cap' ∧ cap' ≤ maxLen ∧
      ((b ≤ g' ∧ g' < T) ∨ w.heap.size ≤ g') ∧ Spl b T w w' ∧ ∀ (gp : Nat) (e' : TypeId) (m : Nat), Shp w gp e' m → e' ≠ e → w'.heap[gp]? = w.heap[gp]? := by
  have hnews : ∀ (j : Nat) (u : Value), [x][j]? = some u → w.cell? (ad.add j) = some u := fun j u hj => by
    cases j with
    | zero => simp at hj; subst hj; simpa [Addr.add] using hx
    | succ j => simp at hj
  have hone : ∀ u ∈ [x], u.oneCell' = true := fun u hu => by simp at hu; subst hu; exact h1
  have old : ∀ w', w.grownBy w' none → Spl b T w w' ∧ ∀ (gp : Nat) (e' : TypeId) (m : Nat), Shp w gp e' m → e' ≠ e → w'.heap[gp]? = w.heap[gp]? := fun w' hg => by
    have hbl : Below w.heap.size w w' := ⟨hg.os, hg.tape, hg.output, hg.size, fun k hk => hg.block k hk (by simp)⟩
    exact ⟨Spl.below hbl, fun gp e' m hs _ => hbl.block gp hs.lt⟩
  have new : ∀ (v' : Value) (w' : World) (xs : List Value), w'.ownsRow w.heap.size e 1 v' (n + 1) xs → ∃ g' cap', v' = .slice (some ⟨g', 0, none⟩) (n + 1) cap' ∧ Shp w' g' e cap' ∧ n + 1 ≤ cap' ∧ cap' ≤ maxLen ∧ w.heap.size ≤ g' := fun v' w' xs ho => by
    rcases ho.2 with ⟨_, h0⟩ | ⟨g, cap', cur, hv, hb, hg, hc, hm, hs, _⟩
    · omega
    · exact ⟨g, cap', hv, ⟨cur, hg, by omega⟩, hc, hm, hb⟩
  rcases h with ⟨hv, rfl⟩ | ⟨g, cap', hv, hb1, hb2, hsh, hc, hm⟩
  · rw [hv]
    obtain ⟨v', w', hr, ho, hg, _⟩ := run_append_own (P := Tryd.prog) w w.heap.size t ty e i z 1 bytes ht hi hz hsize hby hzs (by decide) (.slice none 0 0) 0 [] (World.ownsRow_nil w _ e 1) ad 1 c [x] rfl hnews hone (by unfold maxLen; omega) hbytes (Nat.le_refl _)
    obtain ⟨g', cap', rfl, hs', h2, h3, h4⟩ := new v' w' _ ho
    exact ⟨g', cap', w', hr, hs', h2, h3, .inr h4, (old w' hg).1, (old w' hg).2⟩
  · simp only [Value.slice.injEq, true_and] at hv
    obtain ⟨rfl, rfl⟩ := hv
    obtain ⟨cur, hg, hcs⟩ := hsh
    have hown : w.ownsRow b e 1 (.slice (some ⟨g, 0, none⟩) n cap) n (cur.toList.take n) := by
      refine ⟨by rw [List.length_take, Array.length_toList]; omega, .inr ⟨g, cap, cur, rfl, hb1, hg, hc, hm, by omega, by rw [Nat.mul_one]⟩⟩
    by_cases hroom : n + 1 ≤ cap
    · obtain ⟨w', hr, ho, hgr⟩ := run_append_own_spare (P := Tryd.prog) w b t ty e i 1 ht hi hsize g n cap _ hown ad 1 c [x] rfl hnews hone hroom
      have hs' : Shp w' g e cap := by
        rcases ho.2 with ⟨h0, _⟩ | ⟨g2, cap2, cur2, hv2, _, hg2, _, _, hs2, _⟩
        · cases h0
        · simp only [Value.slice.injEq, Option.some.injEq, Addr.mk.injEq, and_true, true_and] at hv2
          obtain ⟨rfl, rfl⟩ := hv2
          exact ⟨cur2, hg2, by omega⟩
      refine ⟨g, cap, w', hr, hs', hroom, hm, .inl ⟨hb1, hb2⟩, ⟨hgr.os, hgr.tape, hgr.output, hgr.size, fun k hk hbk => hgr.block k hk (by simp; omega), fun k e' m hk => ?_⟩, fun gp e' m hk hne => hgr.block gp hk.lt ?_⟩
      · by_cases hkg : k = g
        · subst hkg
          obtain ⟨cur3, hg3, hn3⟩ := hk
          rw [hg] at hg3
          simp only [Option.some.injEq, Obj.cells.injEq] at hg3
          obtain ⟨rfl, rfl, _⟩ := hg3
          rw [← hn3, hcs]
          exact hs'
        · have hlt := hk.lt
          obtain ⟨cur3, hg3, hn3⟩ := hk
          exact ⟨cur3, by rw [hgr.block k hlt (by simp; exact hkg)]; exact hg3, hn3⟩
      · have := hk.ne ⟨cur, hg, hcs⟩ hne
        simpa using this
    · obtain ⟨v', w', hr, ho, hgr⟩ := run_append_arg_grows (P := Tryd.prog) w t ty e i z 1 bytes ht hi hz hsize hby hzs (by decide) ⟨g, 0, none⟩ n cap (cur.toList.take n) (by rw [List.length_take, Array.length_toList]; omega) (fun j u hj => by
        have hj2 := (List.getElem?_eq_some_iff.1 hj).1
        rw [List.length_take, Array.length_toList] at hj2
        rw [Addr.add_lit, Nat.zero_add, cell_of_row _ _ _ _ _ _ hg]
        rw [List.getElem?_take_of_lt (by omega)] at hj
        simpa using hj) ad 1 c [x] rfl hnews (by omega) (by unfold maxLen at hn ⊢; omega) hbytes
      obtain ⟨g', cap', rfl, hs', h2, h3, h4⟩ := new v' w' _ ho
      exact ⟨g', cap', w', hr, hs', h2, h3, .inr h4, (old w' hgr).1, (old w' hgr).2⟩

theorem after_append {b t gp m : Nat} {e e' : TypeId} {w wn w4 wo : World} {o : Obj} (h : Spl b t w wn) (hg : wn.heap[gp]? = wo.heap[gp]?) (h4 : Spl b t (wn.alloc o) w4) (hk : ∀ (gp : Nat) (e' : TypeId) (m : Nat), Shp (wn.alloc o) gp e' m → e' ≠ e → w4.heap[gp]? = (wn.alloc o).heap[gp]?) (hs : Shp w gp e' m) (hne : e' ≠ e) :
    Spl b t w w4 ∧ w4.heap[gp]? = wo.heap[gp]? := by
  have h5 := h.trans (Spl.below (below_alloc o))
  refine ⟨h5.trans h4, ?_⟩
  rw [hk gp e' m (h5.shape _ _ _ hs) hne, (below_alloc o).block gp (h.shape _ _ _ hs).lt]
  exact hg

/-- Slices that lie in unlike blocks. -/
def Dis (v u : Value) : Prop := ∀ g, v.ownBlock = some g → u.ownBlock ≠ some g

theorem Dis.symm {v u : Value} (h : Dis v u) : Dis u v := fun g h1 h2 => h g h2 h1

theorem Dis.keep {v u : Value} (h : Dis v u) : v.ownBlock = none ∨ v.ownBlock ≠ u.ownBlock := by
  cases hv : v.ownBlock with
  | none => exact .inl rfl
  | some g => exact .inr fun e => h g hv e.symm

theorem own_blk_lt {w : World} {base : Nat} {e : TypeId} {s m j : Nat} {v : Value} {xs : List Value} (h : w.ownsRow base e s v m xs) (hj : v.ownBlock = some j) : j < w.heap.size := by
  rcases h.2 with ⟨rfl, _⟩ | ⟨g', cap, cur, rfl, hb, hg, _⟩
  · cases hj
  · cases hj
    exact (Array.getElem?_eq_some_iff.1 hg).1

theorem Dis.grow {w w2 : World} {base : Nat} {v u u' : Value} {xs : List Int} (h : Dis v u) (ho : OwI w base v xs) (hs : w.heap.size ≤ w2.heap.size) (hu : u'.ownBlock = u.ownBlock ∨ u'.ownBlock = some w2.heap.size) : Dis v u' := fun g h1 h2 => by
  rcases hu with hu | hu
  · rw [hu] at h2
    exact h g h1 h2
  · have := own_blk_lt ho.2 h1
    rw [hu] at h2
    cases h2
    omega

/-- A number joined to a row of one's own, with what becomes of its block. -/
theorem join_one (ty : TypeId) {w : World} {base : Nat} {x : Value} {xs : List Int} {c : Int} (ho : OwI w base x xs) (h1 : -9223372036854775808 ≤ c) (h2 : c ≤ 9223372036854775807) (hb : base ≤ w.heap.size) (hl : (xs.length + 1) * 8 ≤ 140737488355328) :
    ∃ v' w', (Builtin.append_ #[23, 23] ty #[x, .slice (some ⟨w.heap.size, 0, none⟩) 1 1]).run Tryd.prog (w.alloc (.cells #[.int .i64 c] 3)) = .ok v' w' ∧ OwI w' base v' (xs ++ [c]) ∧ (w.alloc (.cells #[.int .i64 c] 3)).grownBy w' x.ownBlock ∧ (v'.ownBlock = x.ownBlock ∨ v'.ownBlock = some (w.alloc (.cells #[.int .i64 c] 3)).heap.size) := by
  obtain ⟨i0, hi, hz0, hz1, hz2⟩ := info_parts info_int
  obtain ⟨v', w', hr, g2, g3, _, g5⟩ := run_append_own_at (P := Tryd.prog) (w.alloc (.cells #[.int .i64 c] 3)) base 23 ty 3 i0 _ 1 8 under_ints hi hz0 hz1 hz2 rfl (by decide) x xs.length (xs.map I64) (ownsRow_later ho.2 (below_alloc _)) ⟨w.heap.size, 0, none⟩ 1 1 [I64 c] rfl
    (fun j u hj => by
      rw [Addr.add_lit, Nat.zero_add]
      cases j with
      | zero => simp at hj; subst hj; exact cell_new rfl
      | succ j => simp at hj) (fun u hu => by simp at hu; subst hu; rfl) (by unfold maxLen; omega) (by omega) (Nat.le_trans hb (below_alloc _).size)
  refine ⟨v', w', hr, ⟨fun k y hk => ?_, ?_⟩, g3, g5⟩
  · by_cases hkl : k < xs.length
    · rw [List.getElem?_append_left hkl] at hk
      exact ho.1 k y hk
    · rw [List.getElem?_append_right (by omega)] at hk
      have hk0 : k - xs.length = 0 := by
        have := (List.getElem?_eq_some_iff.1 hk).1
        simp at this
        omega
      rw [hk0] at hk
      simp at hk
      subst hk
      exact ⟨h1, h2⟩
  · rw [List.length_append, List.map_append]
    exact g2

end Go.Proofs.YtpnkplidhbbliaaDoor

/- kidsOf walked. -/
namespace Go.Proofs.YtpnkplidhbbliaaDoor
open Go.RowKit Go.Maps

/-- The places of trees that stand one behind the other. -/
def kidsGo : Nat → List Tr → List Int
  | _, [] => []
  | p, t :: ts => (p : Int) :: kidsGo (p + t.size) ts

theorem kidsGo_app : ∀ (p : Nat) (a b : List Tr), kidsGo p (a ++ b) = kidsGo p a ++ kidsGo (p + sizes a) b
  | p, [], b => by simp [kidsGo, sizes]
  | p, t :: a, b => by simp only [List.cons_append, kidsGo, kidsGo_app (p + t.size) a b, sizes, Nat.add_assoc]

theorem kidsGo_len : ∀ (p : Nat) (a : List Tr), (kidsGo p a).length = a.length
  | _, [] => rfl
  | p, t :: a => by simp only [kidsGo, List.length_cons, kidsGo_len (p + t.size) a]

def kidsR (p : Nat) : Tr → List Int
  | .var => []
  | .app ts => kidsGo (p + 1) ts

end Go.Proofs.YtpnkplidhbbliaaDoor

/- Where the term at a place ends; endOf walked. -/
namespace Go.Proofs.YtpnkplidhbbliaaDoor
open Go.RowKit Go.Maps

/-- A part of a row. -/
theorem Is.mid {w : World} {b off cap k m : Nat} {t : List Int} (h : Is w (.slice (some ⟨b, off, none⟩) t.length cap) t) (hk : k < t.length) (hm : k + m ≤ t.length) : Is w (.slice (some ⟨b, off + k, none⟩) m (cap - k)) ((t.drop k).take m) := by
  obtain ⟨ao, cap', e, h1, h2, h3⟩ := h
  simp only [Value.slice.injEq, true_and] at e
  obtain ⟨rfl, rfl⟩ := e
  obtain ⟨g, o, e, hg, hE⟩ := h3 (by omega)
  simp only [Option.some.injEq, Addr.mk.injEq, and_true] at e
  obtain ⟨rfl, rfl⟩ := e
  have hl : ((t.drop k).take m).length = m := by rw [List.length_take, List.length_drop]; omega
  refine ⟨some ⟨b, off + k, none⟩, cap - k, by rw [hl], by omega, by omega, fun _ => ⟨b, off + k, rfl, hg, fun j x hj => ?_⟩⟩
  have hjl := (List.getElem?_eq_some_iff.1 hj).1
  rw [List.getElem?_take_of_lt (by omega), List.getElem?_drop] at hj
  have := hE (k + j) x hj
  rw [show off + k + j * 1 = off + (k + j) * 1 by omega]
  exact this

/-- What is found at a row's head is a right term by itself. -/
theorem first_take {sig : List Sy} : ∀ (r : List Int) (m : Int) (i : Nat) (n : Int), firstT sig m i r = (n, 0) → ∃ k : Nat, n = (i : Int) + k ∧ 1 ≤ k ∧ k ≤ r.length ∧ firstT sig m i (r.take k) = (n, 0)
  | [], m, i, n, h => by simp [firstT] at h
  | c :: r, m, i, n, h => by
    rw [firstT_cons] at h
    cases hc : codeD sig c with
    | none => rw [hc] at h; simp at h
    | some e =>
      rw [hc] at h
      simp only at h
      by_cases h0 : m + e = 0
      · rw [if_pos h0] at h
        refine ⟨1, ?_, Nat.le_refl _, by simp, ?_⟩
        · have := congrArg Prod.fst h
          simp only at this
          omega
        · rw [List.take_succ_cons, List.take_zero, firstT_cons, hc]
          simp only
          rw [if_pos h0]
          exact h
      · rw [if_neg h0] at h
        obtain ⟨k, h1, h2, h3, h4⟩ := first_take r (m + e) (i + 1) n h
        refine ⟨k + 1, by omega, by omega, by simp; omega, ?_⟩
        rw [List.take_succ_cons, firstT_cons, hc]
        simp only
        rw [if_neg h0]
        exact h4

/-- Where the term at a place ends, and what is wrong. -/
def endP (sig : List Sy) (t : List Int) (p : Int) : Int × Int := if p < 0 ∨ (t.length : Int) ≤ p then (0, 33) else (p + (firstT sig 1 0 (t.drop p.toNat)).1, (firstT sig 1 0 (t.drop p.toNat)).2)

theorem endP_ok {sig : List Sy} {t : List Int} {p n : Int} (h : endP sig t p = (n, 0)) : ∃ k m : Nat, p = k ∧ k < t.length ∧ 1 ≤ m ∧ n = ((k + m : Nat) : Int) ∧ k + m ≤ t.length ∧ rowE sig ((t.drop k).take m) = 0 := by
  unfold endP at h
  by_cases hp : p < 0 ∨ (t.length : Int) ≤ p
  · rw [if_pos hp] at h
    simp at h
  · rw [if_neg hp] at h
    obtain ⟨k, rfl⟩ : ∃ k : Nat, p = k := ⟨p.toNat, by omega⟩
    rw [Int.toNat_natCast] at h
    simp only [Prod.mk.injEq] at h
    obtain ⟨m, h1, h2, h3, h4⟩ := first_take (t.drop k) 1 0 (firstT sig 1 0 (t.drop k)).1 (Prod.ext rfl h.2)
    simp only [Int.natCast_zero, Int.zero_add] at h1
    rw [List.length_drop] at h3
    refine ⟨k, m, rfl, by omega, h2, by omega, by omega, ?_⟩
    rw [row_first, h4, List.length_take, List.length_drop]
    simp only [Prod.mk.injEq, and_true]
    rw [h1]
    omega

theorem first_rng {sig : List Sy} : ∀ (r : List Int) (m : Int) (i : Nat), 0 ≤ (firstT sig m i r).1 ∧ (firstT sig m i r).1 ≤ (i : Int) + r.length
  | [], m, i => by simp [firstT]
  | c :: r, m, i => by
    rw [firstT_cons]
    cases hc : codeD sig c with
    | none => simp; omega
    | some e =>
      simp only
      by_cases h0 : m + e = 0
      · rw [if_pos h0]; simp; omega
      · rw [if_neg h0]
        have := first_rng (sig := sig) r (m + e) (i + 1)
        simp only [List.length_cons]
        omega

end Go.Proofs.YtpnkplidhbbliaaDoor

/- Kids and Sub walked. -/
namespace Go.Proofs.YtpnkplidhbbliaaDoor
open Go.RowKit Go.Maps

theorem empty_ints (w : World) {base : Nat} (hb : base ≤ w.heap.size) : (w.alloc (.cells #[] 3)).ownsRow base 3 1 (.slice (some ⟨w.heap.size, 0, none⟩) 0 0) 0 [] :=
  ⟨rfl, .inr ⟨w.heap.size, 0, #[], rfl, hb, heap_alloc_new _ _, Nat.le_refl _, by simp [maxLen], by simp, by simp⟩⟩

/-- What is wrong with a term and a place; the term there; its arguments' places. -/
def placeE (sig : List Sy) (t : List Int) (p : Int) : Int := if termE sig t = 0 then (endP sig t p).2 else termE sig t

def subL (sig : List Sy) (t : List Int) (p : Int) : List Int := if placeE sig t p = 0 then (t.drop p.toNat).take ((endP sig t p).1.toNat - p.toNat) else []

def kidsL (sig : List Sy) (t : List Int) (p : Int) : List Int := match growR sig (subL sig t p) with | [T] => kidsR p.toNat T | _ => []

theorem placeE_ok {sig : List Sy} {t : List Int} {p : Int} (h : placeE sig t p = 0) : ArOk sig ∧ rowE sig t = 0 ∧ ∃ k m : Nat, p = k ∧ k < t.length ∧ 1 ≤ m ∧ endP sig t p = (((k + m : Nat) : Int), 0) ∧ k + m ≤ t.length ∧ subL sig t p = (t.drop k).take m ∧ rowE sig ((t.drop k).take m) = 0 := by
  have h0 := h
  unfold placeE at h
  by_cases ht : termE sig t = 0
  · rw [if_pos ht] at h
    have hsg : sigE sig = 0 := by
      unfold termE at ht
      by_cases hs : sigE sig = 0
      · exact hs
      · rw [if_neg hs] at ht; exact ht
    have hrw : rowE sig t = 0 := by unfold termE at ht; rw [if_pos hsg] at ht; exact ht
    obtain ⟨k, m, h1, h2, h3, h4, h5, h6⟩ := endP_ok (Prod.ext rfl h : endP sig t p = ((endP sig t p).1, 0))
    refine ⟨sigE_ok hsg, hrw, k, m, h1, h2, h3, Prod.ext h4 h, h5, ?_, h6⟩
    unfold subL
    rw [if_pos h0, h4, h1, Int.toNat_natCast, Int.toNat_natCast, show k + m - k = m by omega]
  · rw [if_neg ht] at h
    exact absurd h ht

theorem kidsL_bad {sig : List Sy} {t : List Int} {p : Int} (h : placeE sig t p ≠ 0) : kidsL sig t p = [] := by
  unfold kidsL subL
  rw [if_neg h]
  rfl

theorem subL_bad {sig : List Sy} {t : List Int} {p : Int} (h : placeE sig t p ≠ 0) : subL sig t p = [] := by
  unfold subL
  rw [if_neg h]

end Go.Proofs.YtpnkplidhbbliaaDoor

/- A term's arguments, one behind the other. -/
namespace Go.Proofs.YtpnkplidhbbliaaDoor
open Go.RowKit Go.Maps

/-- What stands at the head of a row of terms. -/
theorem first_part {sig : List Sy} (ha : ArOk sig) : ∀ (r : List Int) (d m : Int) (j i : Nat), 1 ≤ d → d ≤ m → firstT sig m i r = ((i : Int) + r.length, 0) →
    ∃ k : Nat, 1 ≤ k ∧ k ≤ r.length ∧ firstT sig d j r = ((j : Int) + k, 0) ∧ (m = d → k = r.length) ∧ (d < m → firstT sig (m - d) (i + k) (r.drop k) = ((i : Int) + r.length, 0))
  | [], d, m, j, i, _, _, h => by simp [firstT] at h
  | c :: r, d, m, j, i, hd, hm, h => by
    rw [firstT_cons] at h ⊢
    cases hc : codeD sig c with
    | none => rw [hc] at h; simp at h
    | some e =>
      have he := codeD_ge ha hc
      rw [hc] at h
      simp only at h ⊢
      by_cases h0 : m + e = 0
      · rw [if_pos h0] at h
        have hl : r.length = 0 := by
          have := congrArg Prod.fst h
          simp at this
          omega
        refine ⟨1, Nat.le_refl _, by simp, by rw [if_pos (by omega)]; simp, fun _ => by simp [hl], fun h1 => by omega⟩
      · rw [if_neg h0] at h
        by_cases h1 : d + e = 0
        · refine ⟨1, Nat.le_refl _, by simp, by rw [if_pos h1]; simp, fun h2 => by omega, fun h2 => ?_⟩
          rw [List.drop_succ_cons, List.drop_zero, show m - d = m + e by omega]
          exact h
        · obtain ⟨k, k1, k2, k3, k4, k5⟩ := first_part ha r (d + e) (m + e) (j + 1) (i + 1) (by omega) (by omega) (by rw [h]; simp only [List.length_cons, Prod.mk.injEq, and_true]; omega)
          refine ⟨k + 1, by omega, by simp; omega, by rw [if_neg h1, k3]; simp only [Prod.mk.injEq, and_true]; omega, fun h2 => by have := k4 (by omega); simp; omega, fun h2 => ?_⟩
          have h3 := k5 (by omega)
          rw [List.drop_succ_cons, show m - d = m + e - (d + e) by omega, show i + (k + 1) = i + 1 + k by omega, h3]
          simp only [List.length_cons, Prod.mk.injEq, and_true]
          omega

/-- A row of m terms is taken apart. -/
theorem split_first {sig : List Sy} (ha : ArOk sig) : ∀ (m : Nat) (r : List Int) (i : Nat), 1 ≤ m → firstT sig m i r = ((i : Int) + r.length, 0) → ∃ us : List (List Int), us.length = m ∧ r = us.flatten ∧ ∀ u ∈ us, rowE sig u = 0
  | 0, _, _, h, _ => absurd h (by omega)
  | m + 1, r, i, _, h => by
    obtain ⟨k, k1, k2, k3, k4, k5⟩ := first_part ha r 1 ((m + 1 : Nat) : Int) 0 i (by omega) (by omega) h
    obtain ⟨k', e1, _, _, e4⟩ := first_take r 1 0 _ k3
    have hkk : k' = k := by omega
    subst hkk
    have hr : rowE sig (r.take k') = 0 := by
      rw [row_first, e4, List.length_take]
      simp only [Prod.mk.injEq, and_true]
      omega
    by_cases hm : m = 0
    · subst hm
      have := k4 (by omega)
      refine ⟨[r], rfl, by simp, fun u hu => ?_⟩
      rw [List.mem_singleton] at hu
      subst hu
      rw [List.take_of_length_le (by omega)] at hr
      exact hr
    · have h5 := k5 (by omega)
      rw [show ((m + 1 : Nat) : Int) - 1 = (m : Int) by omega] at h5
      obtain ⟨us, u1, u2, u3⟩ := split_first ha m (r.drop k') (i + k') (by omega) (by rw [h5, List.length_drop]; simp only [Prod.mk.injEq, and_true]; omega)
      refine ⟨r.take k' :: us, by simp [u1], by rw [List.flatten_cons, ← u2, List.take_append_drop], fun u hu => ?_⟩
      rcases List.mem_cons.1 hu with rfl | hu
      · exact hr
      · exact u3 u hu

/-- What grows of a row behind another one. -/
theorem grow_behind {sig : List Sy} (ha : ArOk sig) (v : List Int) : ∀ (u p : List Int), firstT sig 1 0 (p ++ u) = (((p ++ u).length : Int), 0) → growR sig (u ++ v) = growR sig v ++ growR sig u
  | [], p, _ => by simp [growR]
  | c :: u, p, h => by
    have ih := grow_behind ha v u (p ++ [c]) (by simpa using h)
    show growStep sig (growR sig (u ++ v)) c = growR sig v ++ growStep sig (growR sig u) c
    rw [ih]
    unfold growStep
    by_cases hc : c < 0
    · rw [if_pos hc, if_pos hc, List.append_assoc]
    · rw [if_neg hc, if_neg hc]
      obtain ⟨_, h2⟩ := grow_code ha p c u 1 0 (by omega) (by rw [h]; simp) hc
      rw [List.length_append, show (growR sig v).length + (growR sig u).length - arN sig c = (growR sig v).length + ((growR sig u).length - arN sig c) by omega, List.take_length_add_append, List.drop_length_add_append, List.append_assoc]

/-- The trees of terms one behind the other. -/
theorem grow_flat {sig : List Sy} (ha : ArOk sig) : ∀ us : List (List Int), (∀ u ∈ us, rowE sig u = 0) → (growR sig us.flatten).reverse.map Tr.size = us.map List.length
  | [], _ => by simp [growR]
  | u :: us, h => by
    obtain ⟨T, h1, h2⟩ := grow_one ha (h u (by simp))
    have h3 := grow_behind ha us.flatten u [] (by rw [List.nil_append]; exact row_first.1 (h u (by simp)))
    rw [List.flatten_cons, h3, h1, List.reverse_append, List.map_append, grow_flat ha us (fun x hx => h x (by simp [hx]))]
    simp [h2]

/-- Places by lengths. -/
def places : Nat → List Nat → List Int
  | _, [] => []
  | p, n :: ns => (p : Int) :: places (p + n) ns

theorem kids_places : ∀ (p : Nat) (ts : List Tr), kidsGo p ts = places p (ts.map Tr.size)
  | _, [] => rfl
  | p, t :: ts => by simp only [kidsGo, List.map_cons, places, kids_places (p + t.size) ts]

theorem places_len : ∀ (p : Nat) (ns : List Nat), (places p ns).length = ns.length
  | _, [] => rfl
  | p, n :: ns => by simp only [places, List.length_cons, places_len (p + n) ns]

theorem places_at : ∀ (us : List (List Int)) (p k : Nat), k < us.length → (places p (us.map List.length))[k]? = some ((p + (us.take k).flatten.length : Nat) : Int)
  | [], _, k, h => by simp at h
  | u :: us, p, 0, _ => by simp [places]
  | u :: us, p, k + 1, h => by
    rw [List.map_cons, places, List.getElem?_cons_succ, places_at us (p + u.length) k (by simpa using h), List.take_succ_cons, List.flatten_cons, List.length_append]
    simp only [Option.some.injEq]
    omega

/-- A symbol's arguments. -/
theorem kids_split {sig : List Sy} (ha : ArOk sig) {c : Int} {r : List Int} (h : rowE sig (c :: r) = 0) (hc : ¬ c < 0) :
    ∃ us : List (List Int), r = us.flatten ∧ (∀ u ∈ us, rowE sig u = 0) ∧ ∃ T, growR sig (c :: r) = [T] ∧ kidsR 0 T = places 1 (us.map List.length) := by
  have h1 := row_first.1 h
  rw [firstT_cons] at h1
  cases hd : codeD sig c with
  | none => rw [hd] at h1; simp at h1
  | some e =>
    rw [hd] at h1
    simp only at h1
    obtain ⟨k1, _⟩ := codeD_ar ha hd hc
    obtain ⟨us, u1, u2, u3⟩ : ∃ us : List (List Int), us.length = arN sig c ∧ r = us.flatten ∧ ∀ u ∈ us, rowE sig u = 0 := by
      by_cases h0 : 1 + e = 0
      · rw [if_pos h0] at h1
        have hl : r.length = 0 := by
          have := congrArg Prod.fst h1
          simp at this
          omega
        exact ⟨[], by simp; omega, by rw [List.eq_nil_of_length_eq_zero hl]; rfl, fun u hu => by cases hu⟩
      · rw [if_neg h0, show (1 : Int) + e = (arN sig c : Int) by omega] at h1
        exact split_first ha _ r (0 + 1) (by omega) (by rw [h1]; simp only [List.length_cons, Prod.mk.injEq, and_true]; omega)
    have hg := grow_flat ha us u3
    have hl : (growR sig r).length = arN sig c := by
      have := congrArg List.length hg
      rw [List.length_map, List.length_map, List.length_reverse, ← u2] at this
      omega
    refine ⟨us, u2, u3, .app (growR sig r).reverse, ?_, ?_⟩
    · show growStep sig (growR sig r) c = _
      unfold growStep
      rw [if_neg hc, hl, Nat.sub_self, List.take_zero, List.drop_zero, List.nil_append]
    · rw [kidsR, kids_places, u2, hg]

theorem term_parts {sig : List Sy} {t : List Int} (h : termE sig t = 0) : sigE sig = 0 ∧ rowE sig t = 0 := by
  unfold termE at h
  by_cases hs : sigE sig = 0
  · rw [if_pos hs] at h; exact ⟨hs, h⟩
  · rw [if_neg hs] at h; exact absurd h hs

/-- The term that stands at a place. -/
theorem sub_at {sig : List Sy} {t p u q : List Int} (ht : termE sig t = 0) (hu : rowE sig u = 0) (he : t = p ++ (u ++ q)) : placeE sig t p.length = 0 ∧ subL sig t p.length = u := by
  have ha := sigE_ok (term_parts ht).1
  have h1 := first_app ha u 1 0 (by omega) (by rw [row_first.1 hu]; simp) 1 0 q (by omega)
  rw [if_pos rfl] at h1
  have hul : 0 < u.length := by
    cases u with
    | nil => simp [rowE, firstT] at hu
    | cons c u => simp
  have h2 : endP sig t p.length = (((p.length + u.length : Nat) : Int), 0) := by
    unfold endP
    rw [if_neg (by rw [he, List.length_append, List.length_append]; omega), Int.toNat_natCast, he, List.drop_left, h1]
    simp only [Prod.mk.injEq, and_true]
    omega
  have h3 : placeE sig t p.length = 0 := by unfold placeE; rw [if_pos ht, h2]
  refine ⟨h3, ?_⟩
  unfold subL
  rw [if_pos h3, h2, Int.toNat_natCast, Int.toNat_natCast, show p.length + u.length - p.length = u.length by omega, he, List.drop_left, List.take_left]

/-- The arguments of a right term's root. -/
theorem root_kids {sig : List Sy} {c : Int} {r : List Int} (ht : termE sig (c :: r) = 0) (hc : ¬ c < 0) :
    placeE sig (c :: r) 0 = 0 ∧ ∃ us : List (List Int), r = us.flatten ∧ (∀ u ∈ us, rowE sig u = 0) ∧ kidsL sig (c :: r) 0 = places 1 (us.map List.length) := by
  obtain ⟨hs, hr⟩ := term_parts ht
  obtain ⟨h1, h2⟩ := sub_at (p := []) (q := []) ht hr (by simp)
  obtain ⟨us, u1, u2, T, u3, u4⟩ := kids_split (sigE_ok hs) hr hc
  refine ⟨h1, us, u1, u2, ?_⟩
  have h3 : subL sig (c :: r) 0 = c :: r := h2
  unfold kidsL
  rw [h3, u3]
  exact u4

/-- Where a substitution meets none of the variables, nothing is done. -/
theorem laid_unmet (f : Int → Option (List Int)) (t : List Int) (h : ∀ c ∈ t, c < 0 → f (-1 - c) = none) : laidL f t = t := by
  unfold laidL
  induction t with
  | nil => rfl
  | cons c t ih =>
    rw [List.flatMap_cons, ih (fun x hx => h x (by simp [hx]))]
    have : piece f c = [c] := by
      unfold piece
      by_cases hc : c < 0
      · simp [hc, h c (by simp) hc]
      · simp [hc]
    rw [this]
    rfl

end Go.Proofs.YtpnkplidhbbliaaDoor
