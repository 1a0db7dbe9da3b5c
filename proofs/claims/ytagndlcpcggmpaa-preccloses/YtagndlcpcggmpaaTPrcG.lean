/- Rows of pairs of one's own. -/
import Derived.Test.YtagndlcpcggmpaaTPrcS
namespace Go.Proofs.Ytagndlcpcggmpaa
open Go.RowKit Go.Maps

/-- The cells of a row of pairs. -/
def cellsQ (ps : List (Int × Int)) : List Value := ps.flatMap fun x => [.int .i64 x.1, .int .i64 x.2]

theorem cellsQ_len (ps : List (Int × Int)) : (cellsQ ps).length = ps.length * 2 := by
  induction ps with
  | nil => rfl
  | cons x ps ih =>
    unfold cellsQ at ih ⊢
    rw [List.flatMap_cons, List.length_append, ih]
    simp only [List.length_cons, List.length_nil]
    omega

theorem cellsQ_append (ps qs : List (Int × Int)) : cellsQ (ps ++ qs) = cellsQ ps ++ cellsQ qs := List.flatMap_append

theorem cellsQ_at : ∀ {ps : List (Int × Int)} {k : Nat} {x : Int × Int}, ps[k]? = some x → (cellsQ ps)[k * 2]? = some (.int .i64 x.1) ∧ (cellsQ ps)[k * 2 + 1]? = some (.int .i64 x.2)
  | [], k, x, h => by simp at h
  | y :: ps, 0, x, h => by
    simp only [List.getElem?_cons_zero, Option.some.injEq] at h
    subst h
    exact ⟨rfl, rfl⟩
  | y :: ps, k + 1, x, h => by
    simp only [List.getElem?_cons_succ] at h
    have ih := cellsQ_at h
    have e : cellsQ (y :: ps) = .int .i64 y.1 :: .int .i64 y.2 :: cellsQ ps := rfl
    rw [e, show (k + 1) * 2 = k * 2 + 1 + 1 by omega]
    simpa using ih

def Bd64 (ps : List (Int × Int)) : Prop := ∀ (k : Nat) (x : Int × Int), ps[k]? = some x → (-9223372036854775808 ≤ x.1 ∧ x.1 ≤ 9223372036854775807) ∧ (-9223372036854775808 ≤ x.2 ∧ x.2 ≤ 9223372036854775807)

theorem Bd64.append {ps qs : List (Int × Int)} (h : Bd64 ps) (k : Bd64 qs) : Bd64 (ps ++ qs) := fun i x hx => by
  rw [List.getElem?_append] at hx
  split at hx
  · exact h _ _ hx
  · exact k _ _ hx

theorem Prs.bd {w : World} {v : Value} {ps : List (Int × Int)} (h : Prs w v ps) : Bd64 ps := fun k x hk => by
  obtain ⟨ao, cap, rfl, _, _, hx⟩ := Row.flat h
  obtain ⟨_, _, y, _, hy, h1, h2, _⟩ := hx k (List.getElem?_eq_some_iff.1 hk).1
  rw [hk] at hy
  cases hy
  exact ⟨h1, h2⟩

/-- A row of pairs of one's own, at the head of its row. -/
def OwQ (w : World) (base : Nat) (v : Value) (ps : List (Int × Int)) : Prop := Bd64 ps ∧ w.ownsRow base 31 2 v ps.length (cellsQ ps)

theorem OwQ.prs {w : World} {base : Nat} {v : Value} {ps : List (Int × Int)} (h : OwQ w base v ps) : Prs w v ps := by
  have h2 := h.2
  rcases h2.2 with ⟨rfl, hn⟩ | ⟨g, cap, cur, rfl, hb, hg, hc, hm, hs, ht⟩
  · exact ⟨none, 0, by rw [hn], by omega, by simp [maxLen], by omega⟩
  · refine ⟨_, cap, rfl, hc, hm, fun _ => ⟨g, 0, rfl, (Array.getElem?_eq_some_iff.1 hg).1, ?_⟩⟩
    intro k x hk
    have hlt : k < ps.length := (List.getElem?_eq_some_iff.1 hk).1
    have hc := cellsQ_at hk
    refine ⟨(h.1 k x hk).1, (h.1 k x hk).2, ?_, ?_⟩
    · rw [Nat.zero_add, World.ownsRow.cellAt h2 (k * 2) (by omega)]
      exact hc.1
    · rw [Nat.zero_add, World.ownsRow.cellAt h2 (k * 2 + 1) (by omega)]
      exact hc.2

theorem OwQ.later {w w' : World} {base : Nat} {v : Value} {ps : List (Int × Int)} (h : OwQ w base v ps) (hb : Below w.heap.size w w') : OwQ w' base v ps := ⟨h.1, ownsRow_later h.2 hb⟩

theorem info_pair : (Try.prog.info? 31).map (fun i => (i.zero, i.size, i.bytes)) = some (some (.agg #[.int .i64 0, .int .i64 0]), 2, 16) := by kernel_rfl

theorem under_pairs : Try.prog.underlying 22 = some (.slice 31) := by kernel_rfl

theorem info_parts3 {t : TypeId} {z : Value} {n b : Nat} (h : (Try.prog.info? t).map (fun i => (i.zero, i.size, i.bytes)) = some (some z, n, b)) : ∃ i, Try.prog.info? t = some i ∧ i.zero = some z ∧ i.size = n ∧ i.bytes = b := by
  cases hi : Try.prog.info? t with
  | none => rw [hi] at h; cases h
  | some i =>
    rw [hi] at h
    simp only [Option.map_some, Option.some.injEq, Prod.mk.injEq] at h
    exact ⟨i, rfl, h.1, h.2.1, h.2.2⟩

/-- A row of pairs joined to one of one's own. -/
theorem join_prs (ty : TypeId) {w : World} {base : Nat} {v u : Value} {ps qs : List (Int × Int)} (ho : OwQ w base v ps) (hq : Prs w u qs) (hb : base ≤ w.heap.size) (hl : (ps.length + qs.length) * 16 ≤ 140737488355328) :
    ∃ v' w', (Builtin.append_ #[22, 22] ty #[v, u]).run Try.prog w = .ok v' w' ∧ OwQ w' base v' (ps ++ qs) ∧ w.grownBy w' v.ownBlock ∧ (v'.ownBlock = v.ownBlock ∨ v'.ownBlock = some w.heap.size) := by
  obtain ⟨i0, hi, hz0, hz1, hz2⟩ := info_parts3 info_pair
  have hbd := ho.1.append hq.bd
  obtain ⟨ao, cap, rfl, hc, hm, hx⟩ := hq
  by_cases h0 : qs.length = 0
  · obtain rfl : qs = [] := List.eq_nil_of_length_eq_zero h0
    obtain ⟨av, cv, hv, hcv⟩ : ∃ av cv, v = .slice av ps.length cv ∧ ps.length ≤ cv := by
      rcases ho.2.2 with ⟨rfl, hn⟩ | ⟨g, cap, cur, rfl, _, _, hc, _⟩
      · exact ⟨none, 0, by rw [hn], by omega⟩
      · exact ⟨_, cap, rfl, hc⟩
    subst hv
    refine ⟨_, w, run_append_nothing w 22 22 ty 31 i0 under_pairs hi av ps.length cv hcv _ ?_, by rw [List.append_nil]; exact ho, World.grownBy.refl _ _, .inl rfl⟩
    cases ao with
    | none => exact Src.ofNil w under_pairs _
    | some a => exact Src.ofSlice w under_pairs a 0 _ [] (by simp) (fun j u hj => (by simp at hj)) (fun u hu => (by simp at hu))
  · obtain ⟨g', off, rfl, hg, hcell⟩ := hx (by omega)
    obtain ⟨v', w', hr, h2, h3, _, h5⟩ := run_append_own_at (P := Try.prog) w base 22 ty 31 i0 _ 2 16 under_pairs hi hz0 hz1 hz2 rfl (by decide) _ ps.length (cellsQ ps) ho.2 ⟨g', off, none⟩ qs.length cap (cellsQ qs) (cellsQ_len qs) (fun j u hj => by
      have hlt := (List.getElem?_eq_some_iff.1 hj).1
      rw [cellsQ_len] at hlt
      have hk : j / 2 < qs.length := by omega
      have hk2 := List.getElem?_eq_getElem hk
      have ha := cellsQ_at hk2
      have hE := hcell (j / 2) _ hk2
      rw [Addr.add_lit]
      rcases (show j = j / 2 * 2 ∨ j = j / 2 * 2 + 1 by omega) with e | e
      · rw [e, ha.1] at hj
        cases hj
        have h9 := hE.2.2.1
        rw [← e] at h9
        exact h9
      · rw [e, ha.2] at hj
        cases hj
        have h9 := hE.2.2.2
        rw [Nat.add_assoc, ← e] at h9
        exact h9) (fun u hu => by
      unfold cellsQ at hu
      obtain ⟨x, _, hx2⟩ := List.mem_flatMap.1 hu
      simp only [List.mem_cons, List.not_mem_nil, or_false] at hx2
      rcases hx2 with rfl | rfl <;> rfl) (by unfold maxLen; omega) (by omega) hb
    refine ⟨v', w', hr, ⟨hbd, ?_⟩, h3, h5⟩
    rw [List.length_append, cellsQ_append]
    exact h2

theorem wpList_append_runP {P : Program} {w w' : World} {ops : Array Oper} {rest : List Oper} {o : Oper} {a : Act} {v' : Value} {Q : Exit → Act → World → Prop} (hgd : o.guard = none) (s x : Operand) (t : TypeId)
    (ho : o.op = .call { callee := .builtin .append, args := #[s, x], argTypes := #[t, t] }) (v u : Value) (hs : a.eval s = v) (hx : a.eval x = u)
    (hr : (Builtin.append_ #[t, t] o.type #[v, u]).run P w = .ok v' w') (h : wpList P ops Q rest (a.put o.dst v') w') : wpList P ops Q (o :: rest) a w := by
  refine wpList_plain hgd fun K hK => ?_
  unfold Oper.wp execOp
  simp only [ho, resolve, invoke, builtin, Sem.run_bind, Sem.run_pure, Result.andThen_ok, List.map_toArray, List.map_cons, List.map_nil, hs, hx, hr]
  exact hK _ _ h

/-- No pairs, just laid. -/
theorem empty_prs {w : World} {base : Nat} (hb : base ≤ w.heap.size) : OwQ (w.alloc (.cells #[] 31)) base (.slice (some ⟨w.heap.size, 0, none⟩) 0 0) [] :=
  ⟨fun k x h => by simp at h, rfl, .inr ⟨w.heap.size, 0, #[], rfl, hb, heap_alloc_new _ _, Nat.le_refl _, Nat.zero_le _, rfl, rfl⟩⟩

theorem OwQ.grown {w0 w w' : World} {v : Value} {ps : List (Int × Int)} (h : OwQ w w0.heap.size v ps) (hB : Below w0.heap.size w0 w) (hg : w.grownBy w' v.ownBlock) : Below w0.heap.size w0 w' :=
  hB.grown hg hB.size (fun _ hk => (World.ownsRow.lt h.2 _ hk).1)

end Go.Proofs.Ytagndlcpcggmpaa
