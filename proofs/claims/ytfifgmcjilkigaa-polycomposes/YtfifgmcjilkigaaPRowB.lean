/- Laws for the region in which the row grows. -/
import Derived.Test.YtfifgmcjilkigaaPRowA
import Derived.Deep.RegionHeldLaw
import Derived.Maps.AppendAt
namespace Go.Proofs.Ytfifgmcjilkigaa
open Go.RowKit Go.Maps

theorem step_append_own {P : Program} {ops : Array Oper} {o : Oper} {a : Act} {w : World} {K : Act → World → Prop} {Q : Exit → Act → World → Prop} {E : Prop} (hgd : o.guard = none) (s x : Operand) (t : TypeId)
    (ho : o.op = .call { callee := .builtin .append, args := #[s, x], argTypes := #[t, t] })
    (base : Nat) (e : TypeId) (i : TypeInfo) (z : Value) (size bytes : Nat) (ht : P.underlying t = some (.slice e)) (hi : P.info? e = some i) (hz : i.zero = some z)
    (hsize : i.size = size) (hby : i.bytes = bytes) (hzs : z.cells.size = size) (hsz : 0 < size)
    (v : Value) (n : Nat) (xs : List Value) (hs : a.eval s = v) (hown : w.ownsRow base e size v n xs)
    (ad : Addr) (m c : Nat) (news : List Value) (hx : a.eval x = .slice (some ad) m c) (hl : news.length = m * size) (hnews : ∀ j u, news[j]? = some u → w.cell? (ad.add j) = some u) (h1 : ∀ u ∈ news, u.oneCell' = true)
    (h63 : n + m ≤ maxLen) (hbytes : (n + m) * bytes ≤ 140737488355328) (hbase : base ≤ w.heap.size)
    (hK : ∀ v' w', w'.ownsRow base e size v' (n + m) (xs ++ news) → w.grownBy w' v.ownBlock → (v'.ownBlock = v.ownBlock ∨ v'.ownBlock = some w.heap.size) → K (a.put o.dst v') w') :
    if Region.wanted o (yielded ops a.tmps) = true then Oper.wp P o a w K Q else E := by
  have hw : Region.wanted o (yielded ops a.tmps) = true := by simp [Region.wanted, hgd]
  rw [if_pos hw]
  obtain ⟨v', w', hr, h2, h3, h4, h5⟩ := run_append_own_at (P := P) w base t o.type e i z size bytes ht hi hz hsize hby hzs hsz v n xs hown ad m c news hl hnews h1 h63 hbytes hbase
  unfold Oper.wp execOp
  simp only [ho, resolve, invoke, builtin, Sem.run_bind, Sem.run_pure, Result.andThen_ok, List.map_toArray, List.map_cons, List.map_nil, hs, hx, hr]
  exact hK v' w' h2 h3 h5

theorem ownsRow_later {w w' : World} {base : Nat} {e : TypeId} {size : Nat} {v : Value} {n : Nat} {xs : List Value} (h : w.ownsRow base e size v n xs) (hb : Below w.heap.size w w') : w'.ownsRow base e size v n xs :=
  h.kept (row := none) ⟨hb.os, hb.tape, hb.output, hb.size, fun k hk _ => hb.block k hk⟩ (by cases hv : v.ownBlock <;> simp)

/-- Rows of other elements lie in other blocks. -/
theorem ownsRow_apart {w : World} {b1 b2 : Nat} {e1 e2 : TypeId} {s1 s2 : Nat} {v u : Value} {n m : Nat} {xs ys : List Value} (h : w.ownsRow b1 e1 s1 v n xs) (k : w.ownsRow b2 e2 s2 u m ys) (hne : e1 ≠ e2) : v.ownBlock = none ∨ v.ownBlock ≠ u.ownBlock := by
  rcases h.2 with ⟨rfl, _⟩ | ⟨g, cap, cur, rfl, _, hg, _⟩
  · exact .inl rfl
  · refine .inr ?_
    rcases k.2 with ⟨rfl, _⟩ | ⟨g', cap', cur', rfl, _, hg', _⟩
    · simp [Value.ownBlock]
    · simp only [Value.ownBlock]
      intro e
      cases e
      rw [hg] at hg'
      simp only [Option.some.injEq, Obj.cells.injEq] at hg'
      exact hne hg'.2.1

theorem MapOk.lookAll {w : World} {base b : Nat} {L : Lk} (h : MapOk w base b L) {p : List Nat × List Nat} (hp : p ∈ L) {D : DataW Value}
    (_hD : w.ownsMap Try.prog 70 RV b L.length D) (h3 : ∀ k c, (k, c) ∈ L → ∃ v, (∀ z, D.atKey (kl k) z = .held (.agg #[v])) ∧ Ow w base v c ∧ Maps.has D (kl k) = true) :
    ∃ u, Ow w base u p.2 ∧ ∀ w' : World, w'.ownsMap Try.prog 70 RV b L.length D → (Instr.lookup 62 (.map (some b)) (.agg (cellsL p.1).toArray) false).run Try.prog w' = .ok (.agg #[u]) w' := by
  obtain ⟨u, ha, ho, _⟩ := h3 p.1 p.2 hp
  refine ⟨u, ho, fun w' hw' => ?_⟩
  obtain ⟨x, ps, hrun, hR⟩ := hw'.lookup keyed under_map (zeroCoef w') (zd := .held (.agg #[.slice none 0 0])) (zp := []) rfl (keyOf_arr (h.keys p hp))
  rw [ha] at hR
  simp only [RV, Option.some.injEq, Prod.mk.injEq, DataW.held.injEq] at hR
  rw [hR.1] at hrun
  exact hrun

section
variable {w w' : World} {g b n : Nat} {k : List Nat} {D : DataW Value}

theorem keepA (h : w.rangeAt g 0 (cellsL k) ∧ w.ownsMap Try.prog 70 RV b n D) (hb : Below w.heap.size w w') : w'.rangeAt g 0 (cellsL k) ∧ w'.ownsMap Try.prog 70 RV b n D :=
  ⟨fun j v hj => (Kp.of_below hb).cell _ _ (h.1 j v hj), h.2.kept (grown_of_below hb none) (by simp)⟩

theorem keepG {row : Option Nat} (h : w.rangeAt g 0 (cellsL k) ∧ w.ownsMap Try.prog 70 RV b n D) (hg : w.grownBy w' row) (h1 : some g ≠ row) (h2 : some b ≠ row) : w'.rangeAt g 0 (cellsL k) ∧ w'.ownsMap Try.prog 70 RV b n D :=
  ⟨fun j v hj => by
    have hc := h.1 j v hj
    rw [World.cell?_of_block (hg.block g (World.block_lt_of_cell? w _ hc) h1)]
    exact hc, h.2.kept hg h2⟩

end

theorem OM.snoc {w w' : World} {base : Nat} {v v' : Value} {p : List Mn} {cs : List (Value × Value)} {cv ev : Value} {m : Mn} {row : Option Nat}
    (hl : cs.length = p.length) (hc : ∀ (i : Nat) (c : Value × Value) (m : Mn), cs[i]? = some c → p[i]? = some m → Ow w base c.1 m.1 ∧ OwI w base c.2 m.2) (ho : w.ownsRow base 46 2 v p.length (cs.flatMap fun c => [c.1, c.2]))
    (h1 : Ow w base cv m.1) (h2 : OwI w base ev m.2) (ho' : w'.ownsRow base 46 2 v' (p.length + 1) ((cs.flatMap fun c => [c.1, c.2]) ++ [cv, ev])) (hg : w.grownBy w' row) (hr : row = v.ownBlock) :
    OM w' base v' (p ++ [m]) := by
  subst hr
  refine ⟨cs ++ [(cv, ev)], by simp [hl], fun i c q hi hq => ?_, by simpa using ho'⟩
  have k1 : ∀ {u : Value} {xs : List Nat}, Ow w base u xs → Ow w' base u xs := fun h => h.held hg (ownsRow_apart h.2 ho (by decide))
  have k2 : ∀ {u : Value} {xs : List Int}, OwI w base u xs → OwI w' base u xs := fun h => h.kept hg (ownsRow_apart h.2 ho (by decide))
  by_cases hi2 : i < cs.length
  · rw [List.getElem?_append_left hi2] at hi
    rw [List.getElem?_append_left (by omega)] at hq
    exact ⟨k1 (hc i c q hi hq).1, k2 (hc i c q hi hq).2⟩
  · rw [List.getElem?_append_right (by omega)] at hi
    rw [List.getElem?_append_right (by omega)] at hq
    have e0 : i - cs.length = 0 := by
      have := (List.getElem?_eq_some_iff.1 hi).1
      simp at this
      omega
    rw [e0] at hi
    rw [← hl, e0] at hq
    simp only [List.getElem?_cons_zero, Option.some.injEq] at hi hq
    subst hi
    subst hq
    exact ⟨k1 h1, k2 h2⟩

end Go.Proofs.Ytfifgmcjilkigaa
