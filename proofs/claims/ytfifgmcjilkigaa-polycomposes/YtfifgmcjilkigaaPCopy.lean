/- copied of the law file: monomials of one's own. -/
import Derived.Test.YtfifgmcjilkigaaPFrame
import Derived.Deep.Upon
namespace Go.Proofs.Ytfifgmcjilkigaa
open Go.RowKit Go.Maps

theorem step_append_run {P : Program} {ops : Array Oper} {o : Oper} {a : Act} {w w' : World} {v' : Value} {K : Act → World → Prop} {Q : Exit → Act → World → Prop} {E : Prop} (hgd : o.guard = none) (s x : Operand) (t : TypeId)
    (ho : o.op = .call { callee := .builtin .append, args := #[s, x], argTypes := #[t, t] }) (v u : Value) (hs : a.eval s = v) (hx : a.eval x = u)
    (hr : (Builtin.append_ #[t, t] o.type #[v, u]).run P w = .ok v' w') (hK : K (a.put o.dst v') w') :
    if Region.wanted o (yielded ops a.tmps) = true then Oper.wp P o a w K Q else E := by
  have hw : Region.wanted o (yielded ops a.tmps) = true := by simp [Region.wanted, hgd]
  rw [if_pos hw]
  unfold Oper.wp execOp
  simp only [ho, resolve, invoke, builtin, Sem.run_bind, Sem.run_pure, Result.andThen_ok, List.map_toArray, List.map_cons, List.map_nil, hs, hx, hr]
  exact hK

theorem info_u32c : (Try.prog.info? 43).map (fun i => (i.zero, i.size, i.bytes)) = some (some (.int .u32 0), 1, 4) := by kernel_rfl
theorem under_u32s : Try.prog.underlying 36 = some (.slice 43) := by kernel_rfl

/-- Limbs appended to a row of one's own without any. -/
theorem copy_limbs (ty : TypeId) {w : World} {base g : Nat} {u : Value} {c : List Nat} (ho : w.ownsRow base 43 1 (.slice (some ⟨g, 0, none⟩) 0 0) 0 []) (hs : Sl w u c) (hb : base ≤ w.heap.size) (hl : c.length * 4 ≤ 140737488355328) :
    ∃ v' w', (Builtin.append_ #[36, 36] ty #[.slice (some ⟨g, 0, none⟩) 0 0, u]).run Try.prog w = .ok v' w' ∧ Ow w' base v' c ∧ w.grownBy w' (some g) := by
  obtain ⟨i0, hi, hz0, hz1, hz2⟩ := info_parts info_u32c
  obtain ⟨hlim, ao, cap, rfl, hc, hm, hx⟩ := hs
  by_cases h0 : c.length = 0
  · obtain rfl : c = [] := List.eq_nil_of_length_eq_zero h0
    refine ⟨_, w, run_append_nothing w 36 36 ty 43 i0 under_u32s hi _ 0 0 (Nat.le_refl _) _ ?_, ⟨hlim, ho⟩, World.grownBy.refl _ _⟩
    cases ao with
    | none => exact Src.ofNil w under_u32s _
    | some a => exact Src.ofSlice w under_u32s a 0 _ [] (by simp) (fun j u hj => (by simp at hj)) (fun u hu => (by simp at hu))
  · obtain ⟨g', off, rfl, hg, hcell⟩ := hx (by omega)
    obtain ⟨v', w', hr, h2, h3, _, _⟩ := run_append_own_at (P := Try.prog) w base 36 ty 43 i0 _ 1 4 under_u32s hi hz0 hz1 hz2 rfl (by decide) _ 0 [] ho ⟨g', off, none⟩ c.length cap (c.map fun (x : Nat) => Value.int .u32 (x : Int)) (by simp) (fun j u hj => by
      rw [List.getElem?_map] at hj
      cases hk : c[j]? with
      | none => rw [hk] at hj; simp at hj
      | some x =>
        rw [hk] at hj
        simp at hj
        subst hj
        rw [Addr.add_lit]
        exact hcell j x hk) (fun u hu => by obtain ⟨x, _, rfl⟩ := List.mem_map.1 hu; rfl) (by unfold maxLen at hm ⊢; omega) (by omega) hb
    refine ⟨v', w', hr, ⟨hlim, ?_⟩, h3⟩
    rw [Nat.zero_add, List.nil_append] at h2
    exact h2

theorem copy_ints (ty : TypeId) {w : World} {base g : Nat} {u : Value} {es : List Int} (ho : w.ownsRow base 3 1 (.slice (some ⟨g, 0, none⟩) 0 0) 0 []) (hs : Is w u es) (hb : base ≤ w.heap.size) (hl : es.length * 8 ≤ 140737488355328) :
    ∃ v' w', (Builtin.append_ #[44, 44] ty #[.slice (some ⟨g, 0, none⟩) 0 0, u]).run Try.prog w = .ok v' w' ∧ OwI w' base v' es ∧ w.grownBy w' (some g) := by
  obtain ⟨i0, hi, hz0, hz1, hz2⟩ := info_parts info_int
  have hZ : ZI es := fun k x hk => by
    obtain ⟨ao, cap, rfl, _, _, hx⟩ := Row.flat hs
    obtain ⟨_, _, y, _, hy, h1, h2, _⟩ := hx k (List.getElem?_eq_some_iff.1 hk).1
    rw [hk] at hy
    cases hy
    exact ⟨h1, h2⟩
  obtain ⟨ao, cap, rfl, hc, hm, hx⟩ := hs
  by_cases h0 : es.length = 0
  · obtain rfl : es = [] := List.eq_nil_of_length_eq_zero h0
    refine ⟨_, w, run_append_nothing w 44 44 ty 3 i0 under_ints hi _ 0 0 (Nat.le_refl _) _ ?_, ⟨hZ, ho⟩, World.grownBy.refl _ _⟩
    cases ao with
    | none => exact Src.ofNil w under_ints _
    | some a => exact Src.ofSlice w under_ints a 0 _ [] (by simp) (fun j u hj => (by simp at hj)) (fun u hu => (by simp at hu))
  · obtain ⟨g', off, rfl, hg, hcell⟩ := hx (by omega)
    obtain ⟨v', w', hr, h2, h3, _, _⟩ := run_append_own_at (P := Try.prog) w base 44 ty 3 i0 _ 1 8 under_ints hi hz0 hz1 hz2 rfl (by decide) _ 0 [] ho ⟨g', off, none⟩ es.length cap (es.map I64) (by simp) (fun j u hj => by
      rw [List.getElem?_map] at hj
      cases hk : es[j]? with
      | none => rw [hk] at hj; simp at hj
      | some x =>
        rw [hk] at hj
        simp at hj
        subst hj
        rw [Addr.add_lit]
        have := (hcell j x hk).2.2
        rw [Nat.mul_one] at this
        exact this) (fun u hu => by obtain ⟨x, _, rfl⟩ := List.mem_map.1 hu; rfl) (by unfold maxLen at hm ⊢; omega) (by omega) hb
    refine ⟨v', w', hr, ⟨hZ, ?_⟩, h3⟩
    rw [Nat.zero_add, List.nil_append] at h2
    exact h2

/-- A row without elements, just laid. -/
theorem empty_row {w : World} {base : Nat} (t : TypeId) (hb : base ≤ w.heap.size) : (w.alloc (.cells #[] t)).ownsRow base t 1 (.slice (some ⟨w.heap.size, 0, none⟩) 0 0) 0 [] := by
  refine ⟨rfl, .inr ⟨w.heap.size, 0, #[], rfl, hb, heap_alloc_new _ _, Nat.le_refl _, Nat.zero_le _, rfl, rfl⟩⟩

theorem grown_below {w0 w w' : World} {g : Nat} (hB : Below w0.heap.size w0 w) (hg : w.grownBy w' (some g)) (h : w0.heap.size ≤ g) : Below w0.heap.size w0 w' := hB.grown hg hB.size (fun k hk => by cases hk; exact h)

end Go.Proofs.Ytfifgmcjilkigaa
