/- What writing into rows of one's own leaves: the blocks' shapes, and all other blocks. -/
import Derived.Test.YtfifgmcjilkigaaPAway
import Derived.Deep.DeepAppendRoom
namespace Go.Proofs.Ytfifgmcjilkigaa
open Go.RowKit Go.Maps

/-- A block of n cells for elements of a type. -/
def Shp (w : World) (g : Nat) (e : TypeId) (n : Nat) : Prop := ∃ cur : Array Value, w.heap[g]? = some (.cells cur e (0, 0)) ∧ cur.size = n

theorem Shp.lt {w : World} {g n : Nat} {e : TypeId} (h : Shp w g e n) : g < w.heap.size := by
  obtain ⟨cur, hg, _⟩ := h
  exact (Array.getElem?_eq_some_iff.1 hg).1

theorem Shp.cell {w : World} {g n k : Nat} {e : TypeId} (h : Shp w g e n) (hk : k < n) : (∃ u, w.cell? ⟨g, k, none⟩ = some u) ∧ w.frozen? ⟨g, k, none⟩ = false := by
  obtain ⟨cur, hg, hs⟩ := h
  refine ⟨⟨cur[k], ?_⟩, frozen_of_row _ _ _ _ _ hg⟩
  unfold World.cell?
  simp only [hg]
  rw [if_neg (by simp)]
  exact Array.getElem?_eq_getElem (by omega)

theorem Shp.ne {w : World} {g g' n n' : Nat} {e e' : TypeId} (h : Shp w g e n) (h' : Shp w g' e' n') (hne : e ≠ e') : g ≠ g' := by
  rintro rfl
  obtain ⟨cur, hg, _⟩ := h
  obtain ⟨cur', hg', _⟩ := h'
  rw [hg] at hg'
  simp only [Option.some.injEq, Obj.cells.injEq] at hg'
  exact hne hg'.2.1

theorem Shp.setCell {w : World} {g n : Nat} {e : TypeId} (h : Shp w g e n) (g' k : Nat) (u : Value) : Shp (w.setCell ⟨g', k, none⟩ u) g e n := by
  obtain ⟨cur, hg, hs⟩ := h
  by_cases hne : g = g'
  · subst hne
    exact ⟨_, heap_setCell_same w g k cur e u hg, by simp [hs]⟩
  · exact ⟨cur, by rw [heap_setCell_other _ _ _ _ hne]; exact hg, hs⟩

/-- All blocks but those from b on and below t are as they were, and the blocks' shapes are. -/
structure Spl (b t : Nat) (w w' : World) : Prop where
  os : w'.os = w.os
  tape : w'.tape = w.tape
  output : w'.output = w.output
  size : w.heap.size ≤ w'.heap.size
  block : ∀ g, g < w.heap.size → (g < b ∨ t ≤ g) → w'.heap[g]? = w.heap[g]?
  shape : ∀ (g : Nat) (e : TypeId) (n : Nat), Shp w g e n → Shp w' g e n

theorem Spl.refl (b t : Nat) (w : World) : Spl b t w w := ⟨rfl, rfl, rfl, Nat.le_refl _, fun _ _ _ => rfl, fun _ _ _ h => h⟩

theorem Spl.trans {b t : Nat} {w w' w'' : World} (h : Spl b t w w') (k : Spl b t w' w'') : Spl b t w w'' :=
  ⟨k.os.trans h.os, k.tape.trans h.tape, k.output.trans h.output, Nat.le_trans h.size k.size, fun g hg hb => (k.block g (Nat.lt_of_lt_of_le hg h.size) hb).trans (h.block g hg hb), fun g e n hs => k.shape g e n (h.shape g e n hs)⟩

theorem Spl.below {b t : Nat} {w w' : World} (h : Below w.heap.size w w') : Spl b t w w' :=
  ⟨h.os, h.tape, h.output, h.size, fun g hg _ => h.block g hg, fun g e n hs => by
    have hlt := hs.lt
    obtain ⟨cur, hg, hn⟩ := hs
    exact ⟨cur, by rw [h.block g hlt]; exact hg, hn⟩⟩

theorem Spl.setCell {b t : Nat} {w w' : World} (h : Spl b t w w') {g : Nat} (hg : (b ≤ g ∧ g < t) ∨ w.heap.size ≤ g) (k : Nat) (u : Value) : Spl b t w (w'.setCell ⟨g, k, none⟩ u) :=
  ⟨h.os, h.tape, h.output, by simpa [World.setCell] using h.size, fun g' hg' hb => by
    rw [heap_setCell_other _ _ _ _ (show g' ≠ g by omega)]
    exact h.block g' hg' hb, fun g' e n hs => (h.shape g' e n hs).setCell _ _ _⟩

/-- A slice of one's own, at the head of its row, with anything in it. -/
def RowS (w : World) (b t : Nat) (e : TypeId) (v : Value) (n : Nat) : Prop :=
  (v = .slice none 0 0 ∧ n = 0) ∨ ∃ g cap, v = .slice (some ⟨g, 0, none⟩) n cap ∧ b ≤ g ∧ g < t ∧ Shp w g e cap ∧ n ≤ cap ∧ cap ≤ maxLen

theorem RowS.of {w w' : World} {b : Nat} {e : TypeId} {v : Value} {n : Nat} {xs : List Value} (h : w.ownsRow b e 1 v n xs) (hb : Below w.heap.size w w') : RowS w' b w.heap.size e v n := by
  rcases h.2 with h | ⟨g, cap, cur, hv, hg1, hg, hc, hm, hs, _⟩
  · exact .inl h
  · have hlt := (Array.getElem?_eq_some_iff.1 hg).1
    exact .inr ⟨g, cap, hv, hg1, hlt, ⟨cur, by rw [hb.block g hlt]; exact hg, by omega⟩, hc, hm⟩

theorem RowS.spl {w w' : World} {b t b' t' : Nat} {e : TypeId} {v : Value} {n : Nat} (h : RowS w b t e v n) (hs : Spl b' t' w w') : RowS w' b t e v n := by
  rcases h with h | ⟨g, cap, hv, h1, h2, h3, h4⟩
  · exact .inl h
  · exact .inr ⟨g, cap, hv, h1, h2, hs.shape _ _ _ h3, h4⟩

theorem RowS.form {w : World} {b t : Nat} {e : TypeId} {v : Value} {n : Nat} (h : RowS w b t e v n) : ∃ ao cap, v = .slice ao n cap ∧ n ≤ cap ∧ cap ≤ maxLen := by
  rcases h with ⟨rfl, rfl⟩ | ⟨g, cap, rfl, _, _, _, h4, h5⟩
  · exact ⟨_, _, rfl, Nat.le_refl _, Nat.zero_le _⟩
  · exact ⟨_, _, rfl, h4, h5⟩

theorem RowS.at {w : World} {b t : Nat} {e : TypeId} {ao : Option Addr} {n cap : Nat} (h : RowS w b t e (.slice ao n cap) n) {k : Nat} (hk : k < n) :
    ∃ g, ao = some ⟨g, 0, none⟩ ∧ b ≤ g ∧ g < t ∧ Shp w g e cap := by
  rcases h with ⟨_, rfl⟩ | ⟨g, cap', hv, h1, h2, h3, _⟩
  · omega
  · simp only [Value.slice.injEq, true_and] at hv
    obtain ⟨rfl, rfl⟩ := hv
    exact ⟨g, rfl, h1, h2, h3⟩

theorem wpList_append_run {P : Program} {w w' : World} {ops : Array Oper} {rest : List Oper} {o : Oper} {a : Act} {v' : Value} {Q : Exit → Act → World → Prop} (hgd : o.guard = none) (s x : Operand) (t : TypeId)
    (ho : o.op = .call { callee := .builtin .append, args := #[s, x], argTypes := #[t, t] }) (v u : Value) (hs : a.eval s = v) (hx : a.eval x = u)
    (hr : (Builtin.append_ #[t, t] o.type #[v, u]).run P w = .ok v' w') (h : wpList P ops Q rest (a.put o.dst v') w') : wpList P ops Q (o :: rest) a w := by
  refine wpList_plain hgd fun K hK => ?_
  unfold Oper.wp execOp
  simp only [ho, resolve, invoke, builtin, Sem.run_bind, Sem.run_pure, Result.andThen_ok, List.map_toArray, List.map_cons, List.map_nil, hs, hx, hr]
  exact hK _ _ h

/-- One element more behind such a slice. -/
theorem append_spl (t ty e : TypeId) (i : TypeInfo) (z : Value) (bytes : Nat) (ht : Try.prog.underlying t = some (.slice e)) (hi : Try.prog.info? e = some i) (hz : i.zero = some z) (hsize : i.size = 1) (hby : i.bytes = bytes) (hzs : z.cells.size = 1)
    {w : World} {b T : Nat} {ao : Option Addr} {n cap : Nat} (h : RowS w b T e (.slice ao n cap) n) {ad : Addr} {c : Nat} {x : Value} (hx : w.cell? ad = some x) (h1 : x.oneCell' = true) (hn : n + 1 ≤ 1000) (hb8 : bytes ≤ 8) :
    ∃ g' cap' w', (Builtin.append_ #[t, t] ty #[.slice ao n cap, .slice (some ad) 1 c]).run Try.prog w = .ok (.slice (some ⟨g', 0, none⟩) (n + 1) cap') w' ∧ Shp w' g' e cap' ∧ n + 1 ≤ cap' ∧ cap' ≤ maxLen ∧
      ((b ≤ g' ∧ g' < T) ∨ w.heap.size ≤ g') ∧ Spl b T w w' ∧ ∀ (gp : Nat) (e' : TypeId) (m : Nat), Shp w gp e' m → e' ≠ e → w'.heap[gp]? = w.heap[gp]? := by
  have hnews : ∀ (j : Nat) (u : Value), [x][j]? = some u → w.cell? (ad.add j) = some u := fun j u hj => by
    cases j with
    | zero => simp at hj; subst hj; simpa [Addr.add] using hx
    | succ j => simp at hj
  have hone : ∀ u ∈ [x], u.oneCell' = true := fun u hu => by simp at hu; subst hu; exact h1
  have hbytes : (n + 1) * bytes ≤ 140737488355328 := Nat.le_trans (Nat.mul_le_mul hn hb8) (by decide)
  have old : ∀ w', w.grownBy w' none → Spl b T w w' ∧ ∀ (gp : Nat) (e' : TypeId) (m : Nat), Shp w gp e' m → e' ≠ e → w'.heap[gp]? = w.heap[gp]? := fun w' hg => by
    have hbl : Below w.heap.size w w' := ⟨hg.os, hg.tape, hg.output, hg.size, fun k hk => hg.block k hk (by simp)⟩
    exact ⟨Spl.below hbl, fun gp e' m hs _ => hbl.block gp hs.lt⟩
  have new : ∀ (v' : Value) (w' : World) (xs : List Value), w'.ownsRow w.heap.size e 1 v' (n + 1) xs → ∃ g' cap', v' = .slice (some ⟨g', 0, none⟩) (n + 1) cap' ∧ Shp w' g' e cap' ∧ n + 1 ≤ cap' ∧ cap' ≤ maxLen ∧ w.heap.size ≤ g' := fun v' w' xs ho => by
    rcases ho.2 with ⟨_, h0⟩ | ⟨g, cap', cur, hv, hb, hg, hc, hm, hs, _⟩
    · omega
    · exact ⟨g, cap', hv, ⟨cur, hg, by omega⟩, hc, hm, hb⟩
  rcases h with ⟨hv, rfl⟩ | ⟨g, cap', hv, hb1, hb2, hsh, hc, hm⟩
  · rw [hv]
    obtain ⟨v', w', hr, ho, hg, _⟩ := run_append_own (P := Try.prog) w w.heap.size t ty e i z 1 bytes ht hi hz hsize hby hzs (by decide) (.slice none 0 0) 0 [] (World.ownsRow_nil w _ e 1) ad 1 c [x] rfl hnews hone (by unfold maxLen; omega) hbytes (Nat.le_refl _)
    obtain ⟨g', cap', rfl, hs', h2, h3, h4⟩ := new v' w' _ ho
    exact ⟨g', cap', w', hr, hs', h2, h3, .inr h4, (old w' hg).1, (old w' hg).2⟩
  · simp only [Value.slice.injEq, true_and] at hv
    obtain ⟨rfl, rfl⟩ := hv
    obtain ⟨cur, hg, hcs⟩ := hsh
    have hown : w.ownsRow b e 1 (.slice (some ⟨g, 0, none⟩) n cap) n (cur.toList.take n) := by
      refine ⟨by rw [List.length_take, Array.length_toList]; omega, .inr ⟨g, cap, cur, rfl, hb1, hg, hc, hm, by omega, by rw [Nat.mul_one]⟩⟩
    by_cases hroom : n + 1 ≤ cap
    · obtain ⟨w', hr, ho, hgr⟩ := run_append_own_spare (P := Try.prog) w b t ty e i 1 ht hi hsize g n cap _ hown ad 1 c [x] rfl hnews hone hroom
      have hs' : Shp w' g e cap := by
        rcases ho.2 with ⟨h0, _⟩ | ⟨g2, cap2, cur2, hv2, _, hg2, _, _, hs2, _⟩
        · cases h0
        · simp only [Value.slice.injEq, Option.some.injEq, Addr.mk.injEq, and_true, true_and] at hv2
          obtain ⟨rfl, rfl⟩ := hv2
          exact ⟨cur2, hg2, by omega⟩
      refine ⟨g, cap, w', hr, hs', hroom, hm, .inl ⟨hb1, hb2⟩, ⟨hgr.os, hgr.tape, hgr.output, hgr.size, fun k hk hbk => hgr.block k hk (by simp; omega), fun k e' m hk => ?_⟩, fun gp e' m hk hne => hgr.block gp hk.lt ?_⟩
      · by_cases hkg : k = g
        · subst hkg
          obtain ⟨cur3, hg3, hn3⟩ := hk
          rw [hg] at hg3
          simp only [Option.some.injEq, Obj.cells.injEq] at hg3
          obtain ⟨rfl, rfl, _⟩ := hg3
          rw [← hn3, hcs]
          exact hs'
        · have hlt := hk.lt
          obtain ⟨cur3, hg3, hn3⟩ := hk
          exact ⟨cur3, by rw [hgr.block k hlt (by simp; exact hkg)]; exact hg3, hn3⟩
      · have := hk.ne ⟨cur, hg, hcs⟩ hne
        simpa using this
    · obtain ⟨v', w', hr, ho, hgr⟩ := run_append_arg_grows (P := Try.prog) w t ty e i z 1 bytes ht hi hz hsize hby hzs (by decide) ⟨g, 0, none⟩ n cap (cur.toList.take n) (by rw [List.length_take, Array.length_toList]; omega) (fun j u hj => by
        have hj2 := (List.getElem?_eq_some_iff.1 hj).1
        rw [List.length_take, Array.length_toList] at hj2
        rw [Addr.add_lit, Nat.zero_add, cell_of_row _ _ _ _ _ _ hg]
        rw [List.getElem?_take_of_lt (by omega)] at hj
        simpa using hj) ad 1 c [x] rfl hnews (by omega) (by unfold maxLen; omega) hbytes
      obtain ⟨g', cap', rfl, hs', h2, h3, h4⟩ := new v' w' _ ho
      exact ⟨g', cap', w', hr, hs', h2, h3, .inr h4, (old w' hgr).1, (old w' hgr).2⟩

end Go.Proofs.Ytfifgmcjilkigaa
