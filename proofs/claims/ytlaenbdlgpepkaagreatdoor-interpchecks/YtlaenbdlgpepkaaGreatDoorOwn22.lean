/- Texts of the proof, one behind the other. -/
import Derived.Test.YtlaenbdlgpepkaaGreatDoorOwn20
import Derived.Test.YtlaenbdlgpepkaaGreatDoorOwn21
import Derived.Test.YtlaenbdlgpepkaaGreatDoorOwn17
import Derived.Test.YtlaenbdlgpepkaaGreatDoorOwn5
import Derived.Deep.Slices
import Derived.Test.YtlaenbdlgpepkaaGreatDoorOwn12
/- Rows of interpretations of one's own; the document's example of layer 12. -/
namespace Go.Proofs.YtlaenbdlgpepkaaGreatDoor
open Go.RowKit Go.Maps Go.BigFrame

/-- Interpretations' cells. -/
def flatN (cs : List (Int × Value)) : List Value := cs.flatMap fun c => [.int .i64 c.1, c.2]

/-- A row of interpretations of one's own. -/
def OwN (w : World) (base : Nat) (v : Value) (cs : List (Int × Value)) : Prop := w.ownsRow base 51 2 v cs.length (flatN cs)

theorem flatN_get {cs : List (Int × Value)} : ∀ {i : Nat} {c : Int × Value}, cs[i]? = some c → (flatN cs)[i * 2]? = some (.int .i64 c.1) ∧ (flatN cs)[i * 2 + 1]? = some c.2 := by
  intro i c h
  have hm : ((cs.map fun c => (Value.int .i64 c.1, c.2)) : List (Value × Value))[i]? = some (.int .i64 c.1, c.2) := by rw [List.getElem?_map, h]; rfl
  have h2 := flat2_get hm
  have e : (cs.map fun c => ((Value.int .i64 c.1, c.2) : Value × Value)).flatMap (fun c => [c.1, c.2]) = flatN cs := by
    unfold flatN
    rw [List.flatMap_map]
  rw [e] at h2
  exact h2

/-- What is said of the elements. -/
def Els (w : World) (cs : List (Int × Value)) (l : List Ip) : Prop := cs.length = l.length ∧ ∀ (i : Nat) c x, cs[i]? = some c → l[i]? = some x → c.1 = x.1 ∧ -9223372036854775808 ≤ x.1 ∧ x.1 ≤ 9223372036854775807 ∧ Ms w c.2 x.2

theorem Els.kp {w w' : World} {cs : List (Int × Value)} {l : List Ip} (h : Els w cs l) (hk : Kp w w') : Els w' cs l := ⟨h.1, fun i c x h1 h2 => by
  obtain ⟨a, b, c', d⟩ := h.2 i c x h1 h2
  exact ⟨a, b, c', d.kp hk⟩⟩

theorem OwN.ins {w : World} {base : Nat} {v : Value} {cs : List (Int × Value)} {l : List Ip} (h : OwN w base v cs) (he : Els w cs l) : Ins w v l := by
  have hl := he.1
  rcases h.2 with ⟨rfl, hn⟩ | ⟨g, cap, cur, rfl, hb, hg, hcap, hm, hs, ht⟩
  · exact ⟨none, 0, by rw [← hl, hn], by omega, by simp [maxLen], by omega⟩
  · rw [hl]
    refine ⟨_, cap, rfl, by omega, hm, fun _ => ⟨g, 0, rfl, (Array.getElem?_eq_some_iff.1 hg).1, ?_⟩⟩
    intro k x hk
    have hlt : k < l.length := (List.getElem?_eq_some_iff.1 hk).1
    have hck : cs[k]? = some cs[k] := List.getElem?_eq_getElem (by omega)
    obtain ⟨e1, e2, e3, e4⟩ := he.2 k _ x hck hk
    obtain ⟨h1, h2⟩ := flatN_get hck
    refine ⟨e2, e3, ?_, cs[k].2, ?_, e4⟩
    · rw [Nat.zero_add, World.ownsRow.cellAt h (k * 2) (by omega), h1, e1]
    · rw [Nat.zero_add, World.ownsRow.cellAt h (k * 2 + 1) (by omega), h2]

theorem OwN.later {w w' : World} {base : Nat} {v : Value} {cs : List (Int × Value)} (h : OwN w base v cs) (hb : Below w.heap.size w w') : OwN w' base v cs := ownsRow_later h hb

theorem OwN.slice {w : World} {base : Nat} {v : Value} {cs : List (Int × Value)} (h : OwN w base v cs) : ∃ ao cap, v = .slice ao cs.length cap ∧ cs.length ≤ cap ∧ cap ≤ maxLen := by
  rcases h.2 with ⟨rfl, hn⟩ | ⟨g, cap, cur, rfl, _, _, hc, hm, _⟩
  · exact ⟨_, 0, by rw [hn], by omega, by simp [maxLen]⟩
  · exact ⟨_, cap, rfl, hc, hm⟩

theorem info_interp : (Tryz.prog.info? 51).map (fun i => (i.zero, i.size, i.bytes)) = some (some (.agg #[.int .i64 0, .slice none 0 0]), 2, 32) := by kernel_rfl

theorem under_interps : Tryz.prog.underlying 23 = some (.slice 51) := by kernel_rfl

/-- One more behind. -/
theorem OwN.snoc (ty : TypeId) {w : World} {base : Nat} {v u : Value} {cs : List (Int × Value)} {x : Int} (h : OwN w base v cs) (hb : base ≤ w.heap.size) (hu : u.oneCell' = true) (hlen : (cs.length + 1) * 32 ≤ 140737488355328) :
    ∃ v' w', (Builtin.append_ #[23, 23] ty #[v, .slice (some ⟨w.heap.size, 0, none⟩) 1 1]).run Tryz.prog (w.alloc (.cells #[.int .i64 x, u] 51)) = .ok v' w' ∧ OwN w' base v' (cs ++ [(x, u)]) ∧ (w.alloc (.cells #[.int .i64 x, u] 51)).grownBy w' v.ownBlock := by
  obtain ⟨i1, hi1, hy0, hy1, hy2⟩ := info_parts info_interp
  obtain ⟨v', w', hr, h2, h3, _, _⟩ := run_append_own_at (P := Tryz.prog) (w.alloc (.cells #[.int .i64 x, u] 51)) base 23 ty 51 i1 _ 2 32 under_interps hi1 hy0 hy1 hy2 rfl (by decide) v cs.length (flatN cs) (ownsRow_later h (below_alloc _)) ⟨w.heap.size, 0, none⟩ 1 1 [.int .i64 x, u] rfl
    (fun j y hj => by
      rw [Addr.add_lit, Nat.zero_add, cell_of_row _ _ _ _ _ _ (heap_alloc_new _ _)]
      simpa using hj) (fun y hy => by
        simp only [List.mem_cons, List.not_mem_nil, or_false] at hy
        rcases hy with rfl | rfl
        · rfl
        · exact hu) (by unfold maxLen; omega) (by omega) (Nat.le_trans hb (below_alloc _).size)
  refine ⟨v', w', hr, ?_, h3⟩
  unfold OwN
  have e : flatN (cs ++ [(x, u)]) = flatN cs ++ [.int .i64 x, u] := by simp [flatN]
  rw [e, List.length_append]
  exact h2

/-- One more behind, wherever it was laid. -/
theorem OwN.snocAt (ty : TypeId) {w : World} {base g : Nat} {v u : Value} {cs : List (Int × Value)} {x : Int} (h : OwN w base v cs) (hz : w.cell? ⟨g, 0, none⟩ = some (.int .i64 x) ∧ w.cell? ⟨g, 1, none⟩ = some u) (hb : base ≤ w.heap.size) (hu : u.oneCell' = true) (hlen : (cs.length + 1) * 32 ≤ 140737488355328) :
    ∃ v' w', (Builtin.append_ #[23, 23] ty #[v, .slice (some ⟨g, 0, none⟩) 1 1]).run Tryz.prog w = .ok v' w' ∧ OwN w' base v' (cs ++ [(x, u)]) ∧ w.grownBy w' v.ownBlock := by
  obtain ⟨i1, hi1, hy0, hy1, hy2⟩ := info_parts info_interp
  obtain ⟨v', w', hr, h2, h3, _, _⟩ := run_append_own_at (P := Tryz.prog) w base 23 ty 51 i1 _ 2 32 under_interps hi1 hy0 hy1 hy2 rfl (by decide) v cs.length (flatN cs) h ⟨g, 0, none⟩ 1 1 [.int .i64 x, u] rfl
    (fun j y hj => by
      rw [Addr.add_lit, Nat.zero_add]
      match j, hj with
      | 0, hj => simp at hj; subst hj; exact hz.1
      | 1, hj => simp at hj; subst hj; exact hz.2
      | j + 2, hj => simp at hj) (fun y hy => by
        simp only [List.mem_cons, List.not_mem_nil, or_false] at hy
        rcases hy with rfl | rfl
        · rfl
        · exact hu) (by unfold maxLen; omega) (by omega) hb
  refine ⟨v', w', hr, ?_, h3⟩
  unfold OwN
  have e : flatN (cs ++ [(x, u)]) = flatN cs ++ [.int .i64 x, u] := by simp [flatN]
  rw [e, List.length_append]
  exact h2

theorem OwN.low {w : World} {base g n cap : Nat} {cs : List (Int × Value)} (h : OwN w base (.slice (some ⟨g, 0, none⟩) n cap) cs) : base < w.heap.size := by
  rcases h.2 with ⟨hv, _⟩ | ⟨g', _, _, hv, hb, hg, _⟩
  · cases hv
  · exact Nat.lt_of_le_of_lt hb (Array.getElem?_eq_some_iff.1 hg).1

theorem ow_new1 {w : World} {base : Nat} (hb : base ≤ w.heap.size) : Ow (w.alloc (.cells #[.int .u32 1] 38)) base (.slice (some ⟨w.heap.size, 0, none⟩) 1 1) [1] :=
  ⟨fun x hx => by simp at hx; omega, rfl, .inr ⟨w.heap.size, 1, _, rfl, hb, heap_alloc_new _ _, Nat.le_refl _, by unfold maxLen; omega, rfl, rfl⟩⟩

theorem owI_new1 {w : World} {base : Nat} (hb : base ≤ w.heap.size) : OwI (w.alloc (.cells #[.int .i64 1] 3)) base (.slice (some ⟨w.heap.size, 0, none⟩) 1 1) [1] :=
  ⟨fun _ x hx => by have := List.mem_of_getElem? hx; simp at this; omega, rfl, .inr ⟨w.heap.size, 1, _, rfl, hb, heap_alloc_new _ _, Nat.le_refl _, by unfold maxLen; omega, rfl, rfl⟩⟩

theorem om_new1 {w : World} {base : Nat} {cv ev : Value} {m : Mn} (hb : base ≤ w.heap.size) (h1 : Ow w base cv m.1) (h2 : OwI w base ev m.2) : OM (w.alloc (.cells #[cv, ev] 37)) base (.slice (some ⟨w.heap.size, 0, none⟩) 1 1) [m] := by
  refine ⟨[(cv, ev)], rfl, fun i c x g1 g2 => ?_, rfl, .inr ⟨w.heap.size, 1, _, rfl, hb, heap_alloc_new _ _, Nat.le_refl _, by unfold maxLen; omega, rfl, rfl⟩⟩
  have hi : i = 0 := by
    have := (List.getElem?_eq_some_iff.1 g1).1
    simpa using this
  subst hi
  simp at g1 g2
  subst g1
  subst g2
  exact ⟨h1.since (below_alloc _), h2.later (below_alloc _)⟩

theorem step_append_runG {P : Program} {ops : Array Oper} {o : Oper} {a : Act} {w w' : World} {v' : Value} {K : Act → World → Prop} {Q : Exit → Act → World → Prop} {E : Prop} (hgd : Region.wanted o (yielded ops a.tmps) = true) (s x : Operand) (t : TypeId)
    (ho : o.op = .call { callee := .builtin .append, args := #[s, x], argTypes := #[t, t] }) (v u : Value) (hs : a.eval s = v) (hx : a.eval x = u)
    (hr : (Builtin.append_ #[t, t] o.type #[v, u]).run P w = .ok v' w') (hK : K (a.put o.dst v') w') :
    if Region.wanted o (yielded ops a.tmps) = true then Oper.wp P o a w K Q else E := by
  rw [if_pos hgd]
  unfold Oper.wp execOp
  simp only [ho, resolve, invoke, builtin, Sem.run_bind, Sem.run_pure, Result.andThen_ok, List.map_toArray, List.map_cons, List.map_nil, hs, hx, hr]
  exact hK

/-- Only the first ones. -/
theorem OwN.cut {w : World} {base : Nat} {ao : Option Addr} {n cap k : Nat} {cs : List (Int × Value)} (h : OwN w base (.slice ao n cap) cs) (hk : k ≤ cs.length) (h0 : 0 < cs.length) : OwN w base (.slice ao k cap) (cs.take k) := by
  have h1 := h.1
  have e : flatN (cs.take k) = (flatN cs).take (k * 2) := by
    clear h h1 h0
    induction cs generalizing k with
    | nil => simp at hk; subst hk; rfl
    | cons c r ih =>
      cases k with
      | zero => rfl
      | succ k =>
        have := ih (k := k) (by simpa using hk)
        show flatN (c :: r.take k) = _
        have e1 : ∀ s : List (Int × Value), flatN (c :: s) = .int .i64 c.1 :: c.2 :: flatN s := fun s => rfl
        rw [e1, e1, this, show (k + 1) * 2 = k * 2 + 1 + 1 by omega, List.take_succ_cons, List.take_succ_cons]
  have hkl : (cs.take k).length = k := by rw [List.length_take]; omega
  unfold OwN
  rw [hkl, e]
  refine ⟨by rw [List.length_take]; omega, ?_⟩
  rcases h.2 with ⟨hv, hn⟩ | ⟨g, cap', cur, hv, hb, hg, hc, hm, hs, ht⟩
  · omega
  · simp only [Value.slice.injEq] at hv
    obtain ⟨rfl, rfl, rfl⟩ := hv
    refine .inr ⟨g, cap, cur, rfl, hb, hg, by omega, hm, hs, ?_⟩
    rw [← ht, List.take_take, Nat.min_eq_left (by omega)]

theorem heap_newg12 {w : World} {o : Obj} {g : Nat} (h : g = w.heap.size) : (w.alloc o).heap[g]? = some o := by
  subst h
  exact heap_alloc_new _ _

theorem OM.one {w : World} {base : Nat} {v : Value} {p : List Mn} (h : OM w base v p) : v.oneCell' = true := by
  obtain ⟨a, c, rfl⟩ := h.slice
  rfl

theorem OM.grownN {w w' : World} {base b : Nat} {u v : Value} {p : List Mn} {ds : List (Int × Value)} (h : OM w base u p) (ho : OwN w b v ds) (hg : w.grownBy w' v.ownBlock) : OM w' base u p := by
  rcases ho.2 with ⟨rfl, _⟩ | ⟨g, cap, cur, rfl, _, hgb, _⟩
  · exact h.held hg fun _ _ _ u _ _ _ => by cases hv : u.ownBlock <;> simp [Value.ownBlock]
  · exact h.heldAt hg hgb (by decide) (by decide) (by decide)

theorem OwN.cellsN {w : World} {base g n cap : Nat} {cs : List (Int × Value)} (h : OwN w base (.slice (some ⟨g, 0, none⟩) n cap) cs) {k : Nat} {c : Int × Value} (hk : cs[k]? = some c) : w.cell? ⟨g, k * 2, none⟩ = some (.int .i64 c.1) ∧ w.cell? ⟨g, k * 2 + 1, none⟩ = some c.2 := by
  have hlt := (List.getElem?_eq_some_iff.1 hk).1
  have hn : n = cs.length := by
    rcases h.2 with ⟨hv, _⟩ | ⟨_, _, _, hv, _⟩
    · cases hv
    · simp only [Value.slice.injEq] at hv
      exact hv.2.1
  subst hn
  obtain ⟨h1, h2⟩ := flatN_get hk
  exact ⟨by rw [World.ownsRow.cellAt h (k * 2) (by omega), h1], by rw [World.ownsRow.cellAt h (k * 2 + 1) (by omega), h2]⟩

theorem Els.snoc {w : World} {cs : List (Int × Value)} {l : List Ip} {c : Int × Value} {x : Ip} (h : Els w cs l) (h1 : c.1 = x.1) (h2 : -9223372036854775808 ≤ x.1) (h3 : x.1 ≤ 9223372036854775807) (h4 : Ms w c.2 x.2) : Els w (cs ++ [c]) (l ++ [x]) := by
  refine ⟨by rw [List.length_append, List.length_append, h.1]; rfl, fun i d y g1 g2 => ?_⟩
  by_cases hi : i < cs.length
  · rw [List.getElem?_append_left hi] at g1
    rw [List.getElem?_append_left (by rw [← h.1]; exact hi)] at g2
    exact h.2 i d y g1 g2
  · rw [List.getElem?_append_right (by omega)] at g1
    rw [List.getElem?_append_right (by rw [← h.1]; omega), ← h.1] at g2
    have e0 : i - cs.length = 0 := by
      have := (List.getElem?_eq_some_iff.1 g1).1
      simp at this
      omega
    rw [e0] at g1 g2
    simp at g1 g2
    subst g1
    subst g2
    exact ⟨h1, h2, h3, h4⟩

/-- The document's interpretation. -/
def worthL (n : Nat) : List Ip := [(0, [([1], [])]), (1, [([1], []), ([1], [1])]), (2, [([1], [0, 1]), ([n], [1])])]

/-- What is said of elements whose rows are one's own. -/
def ElsO (w : World) (base : Nat) (cs : List (Int × Value)) (l : List Ip) : Prop := cs.length = l.length ∧ ∀ (i : Nat) c x, cs[i]? = some c → l[i]? = some x → c.1 = x.1 ∧ -9223372036854775808 ≤ x.1 ∧ x.1 ≤ 9223372036854775807 ∧ OM w base c.2 x.2

theorem ElsO.els {w : World} {base : Nat} {cs : List (Int × Value)} {l : List Ip} (h : ElsO w base cs l) : Els w cs l := ⟨h.1, fun i c x h1 h2 => by
  obtain ⟨a, b, d, e⟩ := h.2 i c x h1 h2
  exact ⟨a, b, d, e.ms⟩⟩

theorem ElsO.later {w w' : World} {base : Nat} {cs : List (Int × Value)} {l : List Ip} (h : ElsO w base cs l) (hb : Below w.heap.size w w') : ElsO w' base cs l := ⟨h.1, fun i c x h1 h2 => by
  obtain ⟨a, b, d, e⟩ := h.2 i c x h1 h2
  exact ⟨a, b, d, e.later hb⟩⟩

theorem ElsO.mono {w : World} {base b : Nat} {cs : List (Int × Value)} {l : List Ip} (h : ElsO w base cs l) (hb : b ≤ base) : ElsO w b cs l := ⟨h.1, fun i c x h1 h2 => by
  obtain ⟨a, b, d, e⟩ := h.2 i c x h1 h2
  exact ⟨a, b, d, e.mono hb⟩⟩

theorem ElsO.heldAt {w w' : World} {base g : Nat} {cs : List (Int × Value)} {l : List Ip} {vs : Array Value} {fr : Nat × Nat} (h : ElsO w base cs l) (hg : w.grownBy w' (some g)) (hb : w.heap[g]? = some (.cells vs 51 fr)) : ElsO w' base cs l := ⟨h.1, fun i c x h1 h2 => by
  obtain ⟨a, b, d, e⟩ := h.2 i c x h1 h2
  exact ⟨a, b, d, e.heldAt hg hb (by decide) (by decide) (by decide)⟩⟩

theorem ElsO.grown {w w' : World} {base b : Nat} {v : Value} {cs ds : List (Int × Value)} {l : List Ip} (h : ElsO w base cs l) (ho : OwN w b v ds) (hg : w.grownBy w' v.ownBlock) : ElsO w' base cs l := by
  rcases ho.2 with ⟨rfl, _⟩ | ⟨g, cap, cur, rfl, _, hgb, _⟩
  · refine ⟨h.1, fun i c x h1 h2 => ?_⟩
    obtain ⟨a, b, d, e⟩ := h.2 i c x h1 h2
    exact ⟨a, b, d, e.held hg fun _ _ _ u _ _ _ => by cases hv : u.ownBlock <;> simp [Value.ownBlock]⟩
  · exact h.heldAt hg hgb

theorem ElsO.take {w : World} {base : Nat} {cs : List (Int × Value)} {l : List Ip} (h : ElsO w base cs l) (k : Nat) : ElsO w base (cs.take k) (l.take k) := by
  refine ⟨by rw [List.length_take, List.length_take, h.1], fun i c x h1 h2 => ?_⟩
  rw [List.getElem?_take] at h1 h2
  by_cases hi : i < k
  · rw [if_pos hi] at h1 h2
    exact h.2 i c x h1 h2
  · rw [if_neg hi] at h1
    cases h1

theorem ElsO.snoc {w : World} {base : Nat} {cs : List (Int × Value)} {l : List Ip} {c : Int × Value} {x : Ip} (h : ElsO w base cs l) (h1 : c.1 = x.1) (h2 : -9223372036854775808 ≤ x.1) (h3 : x.1 ≤ 9223372036854775807) (h4 : OM w base c.2 x.2) : ElsO w base (cs ++ [c]) (l ++ [x]) := by
  refine ⟨by rw [List.length_append, List.length_append, h.1]; rfl, fun i d y g1 g2 => ?_⟩
  by_cases hi : i < cs.length
  · rw [List.getElem?_append_left hi] at g1
    rw [List.getElem?_append_left (by rw [← h.1]; exact hi)] at g2
    exact h.2 i d y g1 g2
  · rw [List.getElem?_append_right (by omega)] at g1
    rw [List.getElem?_append_right (by rw [← h.1]; omega), ← h.1] at g2
    have e0 : i - cs.length = 0 := by
      have := (List.getElem?_eq_some_iff.1 g1).1
      simp at this
      omega
    rw [e0] at g1 g2
    simp at g1 g2
    subst g1
    subst g2
    exact ⟨h1, h2, h3, h4⟩

theorem heap_oldg12 {w : World} {o o' : Obj} {g : Nat} (h : w.heap[g]? = some o') : (w.alloc o).heap[g]? = some o' := by
  rw [(below_alloc (w := w) o).block g (Array.getElem?_eq_some_iff.1 h).1]
  exact h

theorem zi_of {xs : List Int} (h : ∀ x ∈ xs, -9223372036854775808 ≤ x ∧ x ≤ 9223372036854775807) : ZI xs := fun _ x hx => h x (List.mem_of_getElem? hx)

theorem zi_nil : ZI [] := fun _ x hx => by simp at hx

set_option maxRecDepth 100000 in
set_option maxHeartbeats 6400000 in
theorem worth12_any (n : Nat) (w : World) (hn : n < 4294967296) :
    Calls Tryz.prog 37 #[.int .u32 (n : Int)] w fun e w' => ∃ g v0 v1 v2, e = .returned (.slice (some ⟨g, 0, none⟩) 3 3) ∧ OwN w' w.heap.size (.slice (some ⟨g, 0, none⟩) 3 3) [(0, v0), (1, v1), (2, v2)] ∧ ElsO w' w.heap.size [(0, v0), (1, v1), (2, v2)] (worthL n) ∧ Below w.heap.size w w' := by
  go_enter Tryz.func37, Tryz.ntmps37
  go_wp2
  go_ret
  generalize hW : World.alloc _ _ = W
  have hb : Below w.heap.size w W := by
    rw [← hW]
    repeat (first | exact below_alloc _ | refine below_step ?_ (below_alloc _))
  have s0 : Ow W w.heap.size (.slice (some ⟨w.heap.size, 0, none⟩) 1 1) [1] := ⟨fun y hy => by simp at hy; omega, rfl, .inr ⟨_, 1, #[.int .u32 (1 : Nat)], rfl, by omega, (by rw [← hW]; repeat (first | (refine heap_newg12 ?_; simp; done) | refine heap_oldg12 ?_)), Nat.le_refl _, by unfold maxLen; omega, rfl, rfl⟩⟩
  have s2 : Ow W w.heap.size (.slice (some ⟨w.heap.size + 2, 0, none⟩) 1 1) [1] := ⟨fun y hy => by simp at hy; omega, rfl, .inr ⟨_, 1, #[.int .u32 (1 : Nat)], rfl, by omega, (by rw [← hW]; repeat (first | (refine heap_newg12 ?_; simp; done) | refine heap_oldg12 ?_)), Nat.le_refl _, by unfold maxLen; omega, rfl, rfl⟩⟩
  have s5 : Ow W w.heap.size (.slice (some ⟨w.heap.size + 5, 0, none⟩) 1 1) [1] := ⟨fun y hy => by simp at hy; omega, rfl, .inr ⟨_, 1, #[.int .u32 (1 : Nat)], rfl, by omega, (by rw [← hW]; repeat (first | (refine heap_newg12 ?_; simp; done) | refine heap_oldg12 ?_)), Nat.le_refl _, by unfold maxLen; omega, rfl, rfl⟩⟩
  have s10 : Ow W w.heap.size (.slice (some ⟨w.heap.size + 10, 0, none⟩) 1 1) [n] := ⟨fun y hy => by simp at hy; omega, rfl, .inr ⟨_, 1, #[.int .u32 (n : Nat)], rfl, by omega, (by rw [← hW]; repeat (first | (refine heap_newg12 ?_; simp; done) | refine heap_oldg12 ?_)), Nat.le_refl _, by unfold maxLen; omega, rfl, rfl⟩⟩
  have i3 : OwI W w.heap.size (.slice (some ⟨w.heap.size + 3, 0, none⟩) 1 1) [1] := ⟨zi_of (by decide), rfl, .inr ⟨_, 1, #[.int .i64 1], rfl, by omega, (by rw [← hW]; repeat (first | (refine heap_newg12 ?_; simp; done) | refine heap_oldg12 ?_)), Nat.le_refl _, by unfold maxLen; omega, rfl, rfl⟩⟩
  have i6 : OwI W w.heap.size (.slice (some ⟨w.heap.size + 6, 0, none⟩) 2 2) [0, 1] := ⟨zi_of (by decide), rfl, .inr ⟨_, 2, #[.int .i64 0, .int .i64 1], rfl, by omega, (by rw [← hW]; repeat (first | (refine heap_newg12 ?_; simp; done) | refine heap_oldg12 ?_)), Nat.le_refl _, by unfold maxLen; omega, rfl, rfl⟩⟩
  have i11 : OwI W w.heap.size (.slice (some ⟨w.heap.size + 11, 0, none⟩) 1 1) [1] := ⟨zi_of (by decide), rfl, .inr ⟨_, 1, #[.int .i64 1], rfl, by omega, (by rw [← hW]; repeat (first | (refine heap_newg12 ?_; simp; done) | refine heap_oldg12 ?_)), Nat.le_refl _, by unfold maxLen; omega, rfl, rfl⟩⟩
  have m8 : OM W w.heap.size (.slice (some ⟨w.heap.size + 8, 0, none⟩) 1 1) [([1], [])] := by
    refine ⟨[(.slice (some ⟨w.heap.size, 0, none⟩) 1 1, .slice none 0 0)], rfl, fun i c m h1 h2 => ?_, rfl, .inr ⟨_, 1, #[.slice (some ⟨w.heap.size, 0, none⟩) 1 1, .slice none 0 0], rfl, by omega, (by rw [← hW]; repeat (first | (refine heap_newg12 ?_; simp; done) | refine heap_oldg12 ?_)), Nat.le_refl _, by unfold maxLen; omega, rfl, rfl⟩⟩
    match i, h1, h2 with
    | 0, h1, h2 =>
      simp at h1 h2
      subst h1
      subst h2
      exact ⟨s0, ⟨zi_nil, World.ownsRow_nil _ _ _ _⟩⟩
    | i + 1, h1, h2 => simp at h1
  have m9 : OM W w.heap.size (.slice (some ⟨w.heap.size + 9, 0, none⟩) 2 2) [([1], []), ([1], [1])] := by
    refine ⟨[(.slice (some ⟨w.heap.size, 0, none⟩) 1 1, .slice none 0 0), (.slice (some ⟨w.heap.size + 2, 0, none⟩) 1 1, .slice (some ⟨w.heap.size + 3, 0, none⟩) 1 1)], rfl, fun i c m h1 h2 => ?_, rfl, .inr ⟨_, 2, #[.slice (some ⟨w.heap.size, 0, none⟩) 1 1, .slice none 0 0, .slice (some ⟨w.heap.size + 2, 0, none⟩) 1 1, .slice (some ⟨w.heap.size + 3, 0, none⟩) 1 1], rfl, by omega, (by rw [← hW]; repeat (first | (refine heap_newg12 ?_; simp; done) | refine heap_oldg12 ?_)), Nat.le_refl _, by unfold maxLen; omega, rfl, rfl⟩⟩
    match i, h1, h2 with
    | 0, h1, h2 =>
      simp at h1 h2
      subst h1
      subst h2
      exact ⟨s0, ⟨zi_nil, World.ownsRow_nil _ _ _ _⟩⟩
    | 1, h1, h2 =>
      simp at h1 h2
      subst h1
      subst h2
      exact ⟨s2, i3⟩
    | i + 2, h1, h2 => simp at h1
  have m12 : OM W w.heap.size (.slice (some ⟨w.heap.size + 12, 0, none⟩) 2 2) [([1], [0, 1]), ([n], [1])] := by
    refine ⟨[(.slice (some ⟨w.heap.size + 5, 0, none⟩) 1 1, .slice (some ⟨w.heap.size + 6, 0, none⟩) 2 2), (.slice (some ⟨w.heap.size + 10, 0, none⟩) 1 1, .slice (some ⟨w.heap.size + 11, 0, none⟩) 1 1)], rfl, fun i c m h1 h2 => ?_, rfl, .inr ⟨_, 2, #[.slice (some ⟨w.heap.size + 5, 0, none⟩) 1 1, .slice (some ⟨w.heap.size + 6, 0, none⟩) 2 2, .slice (some ⟨w.heap.size + 10, 0, none⟩) 1 1, .slice (some ⟨w.heap.size + 11, 0, none⟩) 1 1], rfl, by omega, (by rw [← hW]; repeat (first | (refine heap_newg12 ?_; simp; done) | refine heap_oldg12 ?_)), Nat.le_refl _, by unfold maxLen; omega, rfl, rfl⟩⟩
    match i, h1, h2 with
    | 0, h1, h2 =>
      simp at h1 h2
      subst h1
      subst h2
      exact ⟨s5, i6⟩
    | 1, h1, h2 =>
      simp at h1 h2
      subst h1
      subst h2
      exact ⟨s10, i11⟩
    | i + 2, h1, h2 => simp at h1
  have hG : W.heap[w.heap.size + 13]? = some (.cells #[.int .i64 0, .slice (some ⟨w.heap.size + 8, 0, none⟩) 1 1, .int .i64 1, .slice (some ⟨w.heap.size + 9, 0, none⟩) 2 2, .int .i64 2, .slice (some ⟨w.heap.size + 12, 0, none⟩) 2 2] 51 (0, 0)) := by
    rw [← hW]
    exact heap_newg12 (by simp)
  clear hW
  refine ⟨w.heap.size + 13, .slice (some ⟨w.heap.size + 8, 0, none⟩) 1 1, .slice (some ⟨w.heap.size + 9, 0, none⟩) 2 2, .slice (some ⟨w.heap.size + 12, 0, none⟩) 2 2, rfl, ⟨rfl, .inr ⟨_, 3, _, rfl, by omega, hG, Nat.le_refl _, by unfold maxLen; omega, rfl, rfl⟩⟩, ⟨rfl, fun i c x h1 h2 => ?_⟩, hb⟩
  match i, h1, h2 with
  | 0, h1, h2 =>
    simp [worthL] at h1 h2
    subst h1
    subst h2
    exact ⟨rfl, by decide, by decide, m8⟩
  | 1, h1, h2 =>
    simp [worthL] at h1 h2
    subst h1
    subst h2
    exact ⟨rfl, by decide, by decide, m9⟩
  | 2, h1, h2 =>
    simp [worthL] at h1 h2
    subst h1
    subst h2
    exact ⟨rfl, (by show (-9223372036854775808 : Int) ≤ 2; omega), (by show (2 : Int) ≤ 9223372036854775807; omega), m12⟩
  | i + 3, h1, h2 => simp at h1

set_option maxRecDepth 100000 in
set_option maxHeartbeats 1600000 in
theorem sums12_any (w : World) :
    Calls Tryz.prog 36 #[] w fun e w' => ∃ sv rv, e = .returned (.agg #[sv, rv]) ∧ Sg w' sv sumS ∧ RU w' rv [sumR0, sumR1] ∧ Below w.heap.size w w' := by
  go_enter Tryz.func36, Tryz.ntmps36
  go_wp2
  generalize hW : World.alloc _ _ = W
  have hsz : W.heap.size = w.heap.size + 7 := by rw [← hW]; simp
  have hb : Below w.heap.size w W := by
    rw [← hW]
    exact below_step (below_step (below_step (below_step (below_step (below_step (below_alloc _) (below_alloc _)) (below_alloc _)) (below_alloc _)) (below_alloc _)) (below_alloc _)) (below_alloc _)
  have k0 : W.cell? ⟨w.heap.size, 0, none⟩ = some (.slice (some ⟨w.heap.size + 1, 0, none⟩) 3 3) := by rw [← hW]; repeat (first | (refine cell_newg ?_ rfl; simp; done) | refine cell_old ?_)
  have k1 : W.cell? ⟨w.heap.size, 1, none⟩ = some (.slice (some ⟨w.heap.size + 6, 0, none⟩) 2 2) := by rw [← hW]; repeat (first | (refine cell_newg ?_ rfl; simp; done) | refine cell_old ?_)
  have hS : Sg W (.slice (some ⟨w.heap.size + 1, 0, none⟩) 3 3) sumS := by
    refine sg_lit (p := sumS) (by omega) (by decide) ⟨⟨by decide, by decide, by decide, ?_, ?_⟩, ⟨by decide, by decide, by decide, ?_, ?_⟩, ⟨by decide, by decide, by decide, ?_, ?_⟩, trivial⟩ <;> (rw [← hW]; repeat (first | (refine cell_newg ?_ rfl; simp; done) | refine cell_old ?_))
  have i0 : Is W (.slice (some ⟨w.heap.size + 2, 0, none⟩) 3 3) [2, 0, -1] := by
    refine is_lit (p := [2, 0, -1]) (by omega) (by decide) ⟨ei (by omega) (by omega) ?_, ei (by omega) (by omega) ?_, ei (by omega) (by omega) ?_, trivial⟩ <;> (rw [← hW]; repeat (first | (refine cell_newg ?_ rfl; simp; done) | refine cell_old ?_))
  have i1 : Is W (.slice (some ⟨w.heap.size + 3, 0, none⟩) 1 1) [-1] := by
    refine is_lit (p := [-1]) (by omega) (by decide) ⟨ei (by omega) (by omega) ?_, trivial⟩ <;> (rw [← hW]; repeat (first | (refine cell_newg ?_ rfl; simp; done) | refine cell_old ?_))
  have i2 : Is W (.slice (some ⟨w.heap.size + 4, 0, none⟩) 4 4) [2, 1, -1, -2] := by
    refine is_lit (p := [2, 1, -1, -2]) (by omega) (by decide) ⟨ei (by omega) (by omega) ?_, ei (by omega) (by omega) ?_, ei (by omega) (by omega) ?_, ei (by omega) (by omega) ?_, trivial⟩ <;> (rw [← hW]; repeat (first | (refine cell_newg ?_ rfl; simp; done) | refine cell_old ?_))
  have i3 : Is W (.slice (some ⟨w.heap.size + 5, 0, none⟩) 4 4) [1, 2, -1, -2] := by
    refine is_lit (p := [1, 2, -1, -2]) (by omega) (by decide) ⟨ei (by omega) (by omega) ?_, ei (by omega) (by omega) ?_, ei (by omega) (by omega) ?_, ei (by omega) (by omega) ?_, trivial⟩ <;> (rw [← hW]; repeat (first | (refine cell_newg ?_ rfl; simp; done) | refine cell_old ?_))
  have hR : W.heap[w.heap.size + 6]? = some (.cells #[.slice (some ⟨w.heap.size + 2, 0, none⟩) 3 3, .slice (some ⟨w.heap.size + 3, 0, none⟩) 1 1, .slice (some ⟨w.heap.size + 4, 0, none⟩) 4 4, .slice (some ⟨w.heap.size + 5, 0, none⟩) 4 4] 41) := by
    rw [← hW]
    exact heap_newg8 (by simp)
  have hRU : RU W (.slice (some ⟨w.heap.size + 6, 0, none⟩) 2 2) [sumR0, sumR1] := ru_lit8 (cell_of_row _ _ _ _ _ _ hR) (cell_of_row _ _ _ _ _ _ hR) (cell_of_row _ _ _ _ _ _ hR) (cell_of_row _ _ _ _ _ _ hR) i0 i1 i2 i3 (by decide) (by decide) (by decide) (by decide)
  clear hW
  refine bodyPost_ret (results_one8 rfl rfl ?_) rfl ⟨_, _, rfl, hS, hRU, hb⟩
  go_simp

end Go.Proofs.YtlaenbdlgpepkaaGreatDoor

/- copied of the law file of layer 12: interpretations of one's own. -/
namespace Go.Proofs.YtlaenbdlgpepkaaGreatDoor
open Go.RowKit Go.Maps Go.BigFrame

/-- The reach in bytes of interpretations. -/
def FitN (b : Nat) (l : List Ip) : Prop := l.length * 32 ≤ b ∧ ∀ x ∈ l, Fit b x.2

theorem OwN.empty {w : World} {base : Nat} (hb : base ≤ w.heap.size) : OwN (w.alloc (.cells #[] 51)) base (.slice (some ⟨w.heap.size, 0, none⟩) 0 0) [] :=
  ⟨rfl, .inr ⟨w.heap.size, 0, #[], rfl, hb, heap_alloc_new _ _, Nat.le_refl _, Nat.zero_le _, rfl, rfl⟩⟩

set_option maxRecDepth 100000 in
set_option maxHeartbeats 6400000 in
theorem copied12_any (v : Value) (l : List Ip) (w : World) (h : Ins w v l) (hf : FitN 140737488351232 l) :
    Calls Tryz.prog 10 #[v] w fun e w' => ∃ v' cs, e = .returned v' ∧ OwN w' w.heap.size v' cs ∧ ElsO w' w.heap.size cs l ∧ Below w.heap.size w w' := by
  obtain ⟨i1, hi1, hy0, hy1, hy2⟩ := info_parts info_mono
  obtain ⟨lo, lc, rfl, hlo, hlc, q0⟩ := Row.flat h
  unfold maxLen at hlc
  have HL := hid h
  have HFi := hid hf
  have hll : l.length * 32 ≤ 140737488351232 := hf.1
  clear h hf q0
  go_enter Tryz.func10, Tryz.ntmps10
  go_wp2
  go_loopw [3, 4] (fun x i wr => ∃ (q : Nat) (cs : List (Int × Value)), q ≤ l.length ∧ i = .int .i64 q ∧ OwN wr w.heap.size x cs ∧ ElsO wr w.heap.size cs (l.take q) ∧ Below w.heap.size w wr) (fun _ i _ => l.length - (intOf i).toNat)
  case atStart => exact ⟨0, [], Nat.zero_le _, rfl, OwN.empty (Nat.le_refl _), ⟨rfl, fun i c x h => (by simp at h)⟩, below_alloc _⟩
  case round =>
    obtain ⟨q, ds, hq, rfl, hon, hes, hbl⟩ := hrel
    have HOn := hid hon
    have HEs := hid hes
    have BL := hid hbl
    clear hon hes hbl
    by_cases hql : q < l.length
    · obtain ⟨lg, lf, ci, p, ag, cap, rfl, hm, hc0w, hc1w, hp, hcl, hcu, hp1, hp2⟩ := HL.out.at hql
      have HM := hid hm
      have HP := hid hp
      have HFp := hid (HFi.out.2 _ (List.mem_of_getElem? hm))
      have hpl : p.length * 48 ≤ 140737488351232 := HFp.out.1
      have X0w := hid hc0w
      have X1w := hid hc1w
      have hB1 := below_alloc (w := wr) (.cells #[] 37)
      have hom0 := OM.empty (w := wr) (base := wr.heap.size) (Nat.le_refl _)
      obtain ⟨wb, hwb⟩ : ∃ X, X = wr := ⟨_, rfl⟩
      rw [← hwb] at HOn HEs BL hB1 hom0
      go_wp2
      rw [← hwb]
      clear hwb
      go_loopw [5, 6] (fun x i wr => ∃ k : Nat, k ≤ p.length ∧ i = .int .i64 k ∧ OM wr wb.heap.size x (p.take k) ∧ Below wb.heap.size wb wr) (fun _ i _ => p.length - (intOf i).toNat)
      case atStart => exact ⟨0, Nat.zero_le _, rfl, hom0, hB1⟩
      case round =>
        clear hom0 hB1
        obtain ⟨k, hk, rfl, hom, hbl⟩ := hrel
        have BLw := hid (below_step BL.out hbl)
        have X1 := hid ((Kp.of_below BL.out).cell _ _ X1w.out)
        have x1 := (Kp.of_below BLw.out).cell _ _ X1w.out
        by_cases hlt : k < p.length
        · obtain ⟨g, off, c, es, a1, c1, a2, c2, rfl, hm1, hc0, hc1, hmo, hl1, hl2, hl3, hl4'⟩ := (HP.out.kp (Kp.of_below BL.out)).at hlt
          have HX : Hid (p[k]? = some (c, es)) := hm1
          have hfit := HFp.out.2 _ (List.mem_of_getElem? hm1)
          have hl4 : c.length * 4 ≤ 140737488355328 := by have := hfit.1; simp only at this; omega
          have hl8 : es.length * 8 ≤ 140737488355328 := by have := hfit.2; simp only at this; omega
          have HSl : Hid (Sl wb (.slice a1 c.length c1) c) := hmo.1
          have HIs : Hid (Is wb (.slice a2 es.length c2) es) := hmo.2
          obtain ⟨cs, hcsl, hcc, hcow⟩ := hom
          have HCs : Hid (cs.length = (p.take k).length) := hcsl
          have HCC : Hid (∀ (i : Nat) (c : Value × Value) (m : Mn), cs[i]? = some c → (p.take k)[i]? = some m → Ow wr wb.heap.size c.1 m.1 ∧ OwI wr wb.heap.size c.2 m.2) := hcc
          have HOw : Hid (wr.ownsRow wb.heap.size 37 2 u5 (p.take k).length (cs.flatMap fun c => [c.1, c.2])) := hcow
          have HTk : Hid ((p.take k).length = k) := by show _ = _; rw [List.length_take]; omega
          have hwr := hbl.size
          have hS : Below wb.heap.size wb wr.drew := hbl.drew
          have bW : Below wr.heap.size wr wr.drew := (Below.refl _ _).drew
          clear hm1 hmo hfit hcsl hcc hcow hbl
          go_upto_region 9 with fail
          clear x1
          refine wp_region_held_drew (S := fun w' => Below wb.heap.size wb w') (by kernel_rfl) hS (fun _ => ?_)
          obtain ⟨W0, hW0⟩ : ∃ X, X = wr.drew := ⟨_, rfl⟩
          rw [← hW0] at hS bW ⊢
          clear hW0
          refine wpAnyH_take (i := 0) (v := u5) rfl (by kernel_rfl) (by kernel_rfl) (by kernel_rfl) (fun _ _ _ h => h) (Or.inl ⟨by rfl, fun w' _ => by go_simp⟩) hS ?_
          try simp only [Act.put, List.setIfInBounds_toArray]
          refine wpAnyH_take (i := 2) (v := .slice (some ⟨lg, lf, none⟩) l.length lc) rfl (by kernel_rfl) (by kernel_rfl) (by kernel_rfl) (fun _ _ _ h => h) (Or.inl ⟨by rfl, fun w' _ => by go_simp⟩) hS ?_
          try simp only [Act.put]
          refine wpAnyH_take (i := 3) (v := .int .i64 (q : Int)) rfl (by kernel_rfl) (by kernel_rfl) (by kernel_rfl) (fun _ _ _ h => h) (Or.inl ⟨by rfl, fun w' _ => by go_simp⟩) hS ?_
          try simp only [Act.put]
          refine wpAnyH_take (i := 4) (v := .pointer (some ⟨lg, lf + q * 2, none⟩)) rfl (by kernel_rfl) (by kernel_rfl) (by kernel_rfl) (fun _ _ _ h => h) (Or.inl ⟨by rfl, fun w' _ => by go_simp⟩) hS ?_
          try simp only [Act.put]
          refine wpAnyH_take (i := 5) (v := .pointer (some ⟨lg, lf + q * 2 + 1, none⟩)) rfl (by kernel_rfl) (by kernel_rfl) (by kernel_rfl) (fun _ _ _ h => h) (Or.inl ⟨by rfl, fun w' _ => by go_simp⟩) hS ?_
          try simp only [Act.put]
          refine wpAnyH_take (i := 6) (v := .slice (some ⟨g, off, none⟩) p.length cap) rfl (by kernel_rfl) (by kernel_rfl) (by kernel_rfl) (fun _ _ _ h => h) (Or.inl ⟨by rfl, fun w' h => by have hh := (Kp.of_below h).cell _ _ X1.out; go_simp⟩) hS ?_
          try simp only [Act.put]
          refine wpAnyH_take (i := 7) (v := .int .i64 (k : Int)) rfl (by kernel_rfl) (by kernel_rfl) (by kernel_rfl) (fun _ _ _ h => h) (Or.inl ⟨by rfl, fun w' _ => by go_simp⟩) hS ?_
          try simp only [Act.put]
          refine wpAnyH_take (i := 8) (v := .pointer (some ⟨g, off + k * 2, none⟩)) rfl (by kernel_rfl) (by kernel_rfl) (by kernel_rfl) (fun _ _ _ h => h) (Or.inl ⟨by rfl, fun w' _ => by go_simp⟩) hS ?_
          try simp only [Act.put]
          refine wpAnyH_take (i := 9) (v := .pointer (some ⟨g, off + k * 2, none⟩)) rfl (by kernel_rfl) (by kernel_rfl) (by kernel_rfl) (fun _ _ _ h => h) (Or.inl ⟨by rfl, fun w' _ => by go_simp⟩) hS ?_
          try simp only [Act.put]
          refine wpAnyH_take (i := 10) (v := .slice a1 c.length c1) rfl (by kernel_rfl) (by kernel_rfl) (by kernel_rfl) (fun _ _ _ h => h) (Or.inl ⟨by rfl, fun w' h => by have hh := (Kp.of_below h).cell _ _ hc0; go_simp⟩) hS ?_
          try simp only [Act.put]
          refine wpAnyH_take (i := 13) (v := .slice (some ⟨lg, lf, none⟩) l.length lc) rfl (by kernel_rfl) (by kernel_rfl) (by kernel_rfl) (fun _ _ _ h => h) (Or.inl ⟨by rfl, fun w' _ => by go_simp⟩) hS ?_
          try simp only [Act.put]
          refine wpAnyH_take (i := 14) (v := .int .i64 (q : Int)) rfl (by kernel_rfl) (by kernel_rfl) (by kernel_rfl) (fun _ _ _ h => h) (Or.inl ⟨by rfl, fun w' _ => by go_simp⟩) hS ?_
          try simp only [Act.put]
          refine wpAnyH_take (i := 15) (v := .pointer (some ⟨lg, lf + q * 2, none⟩)) rfl (by kernel_rfl) (by kernel_rfl) (by kernel_rfl) (fun _ _ _ h => h) (Or.inl ⟨by rfl, fun w' _ => by go_simp⟩) hS ?_
          try simp only [Act.put]
          refine wpAnyH_take (i := 16) (v := .pointer (some ⟨lg, lf + q * 2 + 1, none⟩)) rfl (by kernel_rfl) (by kernel_rfl) (by kernel_rfl) (fun _ _ _ h => h) (Or.inl ⟨by rfl, fun w' _ => by go_simp⟩) hS ?_
          try simp only [Act.put]
          refine wpAnyH_take (i := 17) (v := .slice (some ⟨g, off, none⟩) p.length cap) rfl (by kernel_rfl) (by kernel_rfl) (by kernel_rfl) (fun _ _ _ h => h) (Or.inl ⟨by rfl, fun w' h => by have hh := (Kp.of_below h).cell _ _ X1.out; go_simp⟩) hS ?_
          try simp only [Act.put]
          refine wpAnyH_take (i := 18) (v := .int .i64 (k : Int)) rfl (by kernel_rfl) (by kernel_rfl) (by kernel_rfl) (fun _ _ _ h => h) (Or.inl ⟨by rfl, fun w' _ => by go_simp⟩) hS ?_
          try simp only [Act.put]
          refine wpAnyH_take (i := 19) (v := .pointer (some ⟨g, off + k * 2, none⟩)) rfl (by kernel_rfl) (by kernel_rfl) (by kernel_rfl) (fun _ _ _ h => h) (Or.inl ⟨by rfl, fun w' _ => by go_simp⟩) hS ?_
          try simp only [Act.put]
          refine wpAnyH_take (i := 20) (v := .pointer (some ⟨g, off + k * 2 + 1, none⟩)) rfl (by kernel_rfl) (by kernel_rfl) (by kernel_rfl) (fun _ _ _ h => h) (Or.inl ⟨by rfl, fun w' _ => by go_simp⟩) hS ?_
          try simp only [Act.put]
          refine wpAnyH_take (i := 21) (v := .slice a2 es.length c2) rfl (by kernel_rfl) (by kernel_rfl) (by kernel_rfl) (fun _ _ _ h => h) (Or.inl ⟨by rfl, fun w' h => by have hh := (Kp.of_below h).cell _ _ hc1; go_simp⟩) hS ?_
          try simp only [Act.put]
          refine wpAnyH_ready (rs := [1, 12]) (by kernel_rfl) (by simp) (AllReadyH.cons rfl (fun K hK => ?_) (AllReadyH.cons rfl (fun K hK => ?_) AllReadyH.nil))
          · skip
            go_simp
            refine hK.out _ _ (below_step hS (below_alloc _)) (fun hSn => ?_)
            clear hK K
            obtain ⟨W1, hWn⟩ : ∃ X, X = W0.alloc (.cells #[] 38) := ⟨_, rfl⟩
            have bn : Below W0.heap.size W0 W1 := by rw [hWn]; exact below_alloc _
            have A : W1.ownsRow wr.heap.size 38 1 (.slice (some ⟨W0.heap.size, 0, none⟩) 0 0) 0 [] := by rw [hWn]; exact empty_row _ bW.size
            rw [← hWn] at hSn ⊢
            clear hWn hS
            have hS := hSn
            clear hSn
            have bW2 := below_step bW bn
            clear bW
            have bW := bW2
            clear bW2
            clear bn
            refine wpAnyH_ready (rs := [11, 12]) (by kernel_rfl) (by simp) (AllReadyH.cons rfl (fun K hK => ?_) (AllReadyH.cons rfl (fun K hK => ?_) AllReadyH.nil))
            · skip
              obtain ⟨v1, W2, hr, ho, hg⟩ := copy_limbs 35 A (HSl.out.kp (Kp.of_below hS)) bW.size hl4
              refine step_append_run rfl _ _ 35 rfl _ _ rfl rfl hr ?_
              have hge := own_ge A
              refine hK.out _ _ (hS.grown hg hS.size (fun j hj => by cases hj; exact Nat.le_trans hwr hge)) (fun hSn => ?_)
              clear hK K hr
              try simp only [Act.put, List.setIfInBounds_toArray]
              have bW2 := bW.grown hg bW.size (fun j hj => by cases hj; exact hge)
              clear A hge hg bW hS
              have A := ho
              have bW := bW2
              have hS := hSn
              clear ho bW2 hSn
              refine wpAnyH_ready (rs := [12]) (by kernel_rfl) (by simp) (AllReadyH.cons rfl (fun K hK => ?_) AllReadyH.nil)
              go_simp
              refine hK.out _ _ (below_step hS (below_alloc _)) (fun hSn => ?_)
              clear hK K
              obtain ⟨W3, hWn⟩ : ∃ X, X = W2.alloc (.cells #[] 3) := ⟨_, rfl⟩
              have bn : Below W2.heap.size W2 W3 := by rw [hWn]; exact below_alloc _
              have E : W3.ownsRow wr.heap.size 3 1 (.slice (some ⟨W2.heap.size, 0, none⟩) 0 0) 0 [] := by rw [hWn]; exact empty_row _ bW.size
              rw [← hWn] at hSn ⊢
              clear hWn hS
              have hS := hSn
              clear hSn
              have bW2 := below_step bW bn
              clear bW
              have bW := bW2
              clear bW2
              have An := A.since bn
              clear A
              have A := An
              clear An
              clear bn
              refine wpAnyH_ready (rs := [22]) (by kernel_rfl) (by simp) (AllReadyH.cons rfl (fun K hK => ?_) AllReadyH.nil)
              obtain ⟨v2, W4, hr, ho, hg⟩ := copy_ints 30 E (HIs.out.kp (Kp.of_below hS)) bW.size hl8
              refine step_append_run rfl _ _ 30 rfl _ _ rfl rfl hr ?_
              have hge := own_ge E
              refine hK.out _ _ (hS.grown hg hS.size (fun j hj => by cases hj; exact Nat.le_trans hwr hge)) (fun hSn => ?_)
              clear hK K hr
              try simp only [Act.put, List.setIfInBounds_toArray]
              have bW2 := bW.grown hg bW.size (fun j hj => by cases hj; exact hge)
              have An := A.held hg (ownsRow_apart A.2 E (by decide))
              clear A
              have A := An
              clear An
              clear E hge hg bW hS
              have E := ho
              have bW := bW2
              have hS := hSn
              clear ho bW2 hSn
              obtain ⟨b1, n1, d1, rfl⟩ := A.slice
              obtain ⟨b2, d2, rfl, _, _⟩ := E.shape
              refine wpAnyH_take (i := 23) (v := .agg #[.slice b1 n1 d1, .slice b2 es.length d2]) rfl (by kernel_rfl) (by kernel_rfl) (by kernel_rfl) (fun _ _ _ h => h) (Or.inl ⟨by rfl, fun w' _ => by go_simp⟩) hS ?_
              try simp only [Act.put]
              refine wpAnyH_ready (rs := [24]) (by kernel_rfl) (by simp) (AllReadyH.cons rfl (fun K hK => ?_) AllReadyH.nil)
              go_simp
              refine hK.out _ _ (below_step hS (below_alloc _)) (fun hSn => ?_)
              clear hK K
              refine wpAnyH_ready (rs := [25]) (by kernel_rfl) (by simp) (AllReadyH.cons rfl (fun K hK => ?_) AllReadyH.nil)
              have bX := below_step bW (below_alloc (w := W4) (.cells #[.slice b1 n1 d1, .slice b2 es.length d2] 37))
              have bA := below_alloc (w := W4) (.cells #[.slice b1 n1 d1, .slice b2 es.length d2] 37)
              refine step_append_own rfl _ _ 31 rfl wb.heap.size 37 i1 _ 2 48 under_monos hi1 hy0 hy1 hy2 rfl (by decide) u5 (p.take k).length (cs.flatMap fun c => [c.1, c.2]) rfl (ownsRow_later HOw.out bX) ⟨W4.heap.size, 0, none⟩ 1 1 [.slice b1 n1 d1, .slice b2 es.length d2] rfl rfl ?_ ?_ (by rw [HTk.out]; unfold maxLen; omega) (by rw [HTk.out]; omega) (Nat.le_trans hwr bX.size) ?_
              · intro j u hj
                rw [Addr.add_lit, Nat.zero_add, cell_of_row _ _ _ _ _ _ (heap_alloc_new _ _)]
                simpa using hj
              · intro u hu
                simp only [List.mem_cons, List.not_mem_nil, or_false] at hu
                rcases hu with rfl | rfl <;> rfl
              intro v3 W9 hown9 hgrow9 _
              refine hK.out _ _ (hSn.grown hgrow9 hSn.size (fun j hj => own_blk (ownsRow_later HOw.out bX) hj)) (fun hS9 => ?_)
              clear hK K hS
              have hS := hS9
              try simp only [Act.put, List.setIfInBounds_toArray]
              refine wpAnyH_take (i := 26) (v := v3) rfl (by kernel_rfl) (by kernel_rfl) (by kernel_rfl) (fun _ _ _ h => h) (Or.inl ⟨by rfl, fun w' _ => by go_simp⟩) hS ?_
              try simp only [Act.put]
              refine wpAnyH_done (by kernel_rfl) ?_ _
              have hom := OM.snoc (m := (c, es)) (p := p.take k) HCs.out (fun i cc m h1 h2 => ⟨(HCC.out i cc m h1 h2).1.since bX, (HCC.out i cc m h1 h2).2.later bX⟩) (ownsRow_later HOw.out bX) ((A.mono hwr).since bA) ((E.mono hwr).later bA) hown9 hgrow9 rfl
              rw [← take_get HX.out] at hom
              have HOm9 : Hid (OM W9 wb.heap.size v3 (p.take (k + 1))) := hom
              have HB9 : Hid (Below wb.heap.size wb W9) := hS
              clear hom hown9 hgrow9 hS9 hS hSn bX bA bW A E
              go_wp2
              go_roundw
              case rel => exact ⟨k + 1, by omega, by go_num, HOm9.out, HB9.out⟩
              case measure => simp [intOf] <;> omega
            · skip
              go_simp
              refine hK.out _ _ (below_step hS (below_alloc _)) (fun hSn => ?_)
              clear hK K
              obtain ⟨W5, hWn⟩ : ∃ X, X = W1.alloc (.cells #[] 3) := ⟨_, rfl⟩
              have bn : Below W1.heap.size W1 W5 := by rw [hWn]; exact below_alloc _
              have E : W5.ownsRow wr.heap.size 3 1 (.slice (some ⟨W1.heap.size, 0, none⟩) 0 0) 0 [] := by rw [hWn]; exact empty_row _ bW.size
              rw [← hWn] at hSn ⊢
              clear hWn hS
              have hS := hSn
              clear hSn
              have bW2 := below_step bW bn
              clear bW
              have bW := bW2
              clear bW2
              have An := ownsRow_later A bn
              clear A
              have A := An
              clear An
              clear bn
              refine wpAnyH_ready (rs := [11]) (by kernel_rfl) (by simp) (AllReadyH.cons rfl (fun K hK => ?_) AllReadyH.nil)
              obtain ⟨v1, W6, hr, ho, hg⟩ := copy_limbs 35 A (HSl.out.kp (Kp.of_below hS)) bW.size hl4
              refine step_append_run rfl _ _ 35 rfl _ _ rfl rfl hr ?_
              have hge := own_ge A
              refine hK.out _ _ (hS.grown hg hS.size (fun j hj => by cases hj; exact Nat.le_trans hwr hge)) (fun hSn => ?_)
              clear hK K hr
              try simp only [Act.put, List.setIfInBounds_toArray]
              have bW2 := bW.grown hg bW.size (fun j hj => by cases hj; exact hge)
              have En := E.kept hg (ownsRow_apart E A (by decide))
              clear E
              have E := En
              clear En
              clear A hge hg bW hS
              have A := ho
              have bW := bW2
              have hS := hSn
              clear ho bW2 hSn
              refine wpAnyH_ready (rs := [22]) (by kernel_rfl) (by simp) (AllReadyH.cons rfl (fun K hK => ?_) AllReadyH.nil)
              obtain ⟨v2, W7, hr, ho, hg⟩ := copy_ints 30 E (HIs.out.kp (Kp.of_below hS)) bW.size hl8
              refine step_append_run rfl _ _ 30 rfl _ _ rfl rfl hr ?_
              have hge := own_ge E
              refine hK.out _ _ (hS.grown hg hS.size (fun j hj => by cases hj; exact Nat.le_trans hwr hge)) (fun hSn => ?_)
              clear hK K hr
              try simp only [Act.put]
              have bW2 := bW.grown hg bW.size (fun j hj => by cases hj; exact hge)
              have An := A.held hg (ownsRow_apart A.2 E (by decide))
              clear A
              have A := An
              clear An
              clear E hge hg bW hS
              have E := ho
              have bW := bW2
              have hS := hSn
              clear ho bW2 hSn
              obtain ⟨b1, n1, d1, rfl⟩ := A.slice
              obtain ⟨b2, d2, rfl, _, _⟩ := E.shape
              refine wpAnyH_take (i := 23) (v := .agg #[.slice b1 n1 d1, .slice b2 es.length d2]) rfl (by kernel_rfl) (by kernel_rfl) (by kernel_rfl) (fun _ _ _ h => h) (Or.inl ⟨by rfl, fun w' _ => by go_simp⟩) hS ?_
              try simp only [Act.put]
              refine wpAnyH_ready (rs := [24]) (by kernel_rfl) (by simp) (AllReadyH.cons rfl (fun K hK => ?_) AllReadyH.nil)
              go_simp
              refine hK.out _ _ (below_step hS (below_alloc _)) (fun hSn => ?_)
              clear hK K
              refine wpAnyH_ready (rs := [25]) (by kernel_rfl) (by simp) (AllReadyH.cons rfl (fun K hK => ?_) AllReadyH.nil)
              have bX := below_step bW (below_alloc (w := W7) (.cells #[.slice b1 n1 d1, .slice b2 es.length d2] 37))
              have bA := below_alloc (w := W7) (.cells #[.slice b1 n1 d1, .slice b2 es.length d2] 37)
              refine step_append_own rfl _ _ 31 rfl wb.heap.size 37 i1 _ 2 48 under_monos hi1 hy0 hy1 hy2 rfl (by decide) u5 (p.take k).length (cs.flatMap fun c => [c.1, c.2]) rfl (ownsRow_later HOw.out bX) ⟨W7.heap.size, 0, none⟩ 1 1 [.slice b1 n1 d1, .slice b2 es.length d2] rfl rfl ?_ ?_ (by rw [HTk.out]; unfold maxLen; omega) (by rw [HTk.out]; omega) (Nat.le_trans hwr bX.size) ?_
              · intro j u hj
                rw [Addr.add_lit, Nat.zero_add, cell_of_row _ _ _ _ _ _ (heap_alloc_new _ _)]
                simpa using hj
              · intro u hu
                simp only [List.mem_cons, List.not_mem_nil, or_false] at hu
                rcases hu with rfl | rfl <;> rfl
              intro v3 W9 hown9 hgrow9 _
              refine hK.out _ _ (hSn.grown hgrow9 hSn.size (fun j hj => own_blk (ownsRow_later HOw.out bX) hj)) (fun hS9 => ?_)
              clear hK K hS
              have hS := hS9
              try simp only [Act.put, List.setIfInBounds_toArray]
              refine wpAnyH_take (i := 26) (v := v3) rfl (by kernel_rfl) (by kernel_rfl) (by kernel_rfl) (fun _ _ _ h => h) (Or.inl ⟨by rfl, fun w' _ => by go_simp⟩) hS ?_
              try simp only [Act.put]
              refine wpAnyH_done (by kernel_rfl) ?_ _
              have hom := OM.snoc (m := (c, es)) (p := p.take k) HCs.out (fun i cc m h1 h2 => ⟨(HCC.out i cc m h1 h2).1.since bX, (HCC.out i cc m h1 h2).2.later bX⟩) (ownsRow_later HOw.out bX) ((A.mono hwr).since bA) ((E.mono hwr).later bA) hown9 hgrow9 rfl
              rw [← take_get HX.out] at hom
              have HOm9 : Hid (OM W9 wb.heap.size v3 (p.take (k + 1))) := hom
              have HB9 : Hid (Below wb.heap.size wb W9) := hS
              clear hom hown9 hgrow9 hS9 hS hSn bX bA bW A E
              go_wp2
              go_roundw
              case rel => exact ⟨k + 1, by omega, by go_num, HOm9.out, HB9.out⟩
              case measure => simp [intOf] <;> omega
          · skip
            go_simp
            refine hK.out _ _ (below_step hS (below_alloc _)) (fun hSn => ?_)
            clear hK K
            obtain ⟨W8, hWn⟩ : ∃ X, X = W0.alloc (.cells #[] 3) := ⟨_, rfl⟩
            have bn : Below W0.heap.size W0 W8 := by rw [hWn]; exact below_alloc _
            have E : W8.ownsRow wr.heap.size 3 1 (.slice (some ⟨W0.heap.size, 0, none⟩) 0 0) 0 [] := by rw [hWn]; exact empty_row _ bW.size
            rw [← hWn] at hSn ⊢
            clear hWn hS
            have hS := hSn
            clear hSn
            have bW2 := below_step bW bn
            clear bW
            have bW := bW2
            clear bW2
            clear bn
            refine wpAnyH_ready (rs := [1]) (by kernel_rfl) (by simp) (AllReadyH.cons rfl (fun K hK => ?_) AllReadyH.nil)
            go_simp
            refine hK.out _ _ (below_step hS (below_alloc _)) (fun hSn => ?_)
            clear hK K
            obtain ⟨W9, hWn⟩ : ∃ X, X = W8.alloc (.cells #[] 38) := ⟨_, rfl⟩
            have bn : Below W8.heap.size W8 W9 := by rw [hWn]; exact below_alloc _
            have A : W9.ownsRow wr.heap.size 38 1 (.slice (some ⟨W8.heap.size, 0, none⟩) 0 0) 0 [] := by rw [hWn]; exact empty_row _ bW.size
            rw [← hWn] at hSn ⊢
            clear hWn hS
            have hS := hSn
            clear hSn
            have bW2 := below_step bW bn
            clear bW
            have bW := bW2
            clear bW2
            have En := ownsRow_later E bn
            clear E
            have E := En
            clear En
            clear bn
            refine wpAnyH_ready (rs := [11]) (by kernel_rfl) (by simp) (AllReadyH.cons rfl (fun K hK => ?_) AllReadyH.nil)
            obtain ⟨v1, W10, hr, ho, hg⟩ := copy_limbs 35 A (HSl.out.kp (Kp.of_below hS)) bW.size hl4
            refine step_append_run rfl _ _ 35 rfl _ _ rfl rfl hr ?_
            have hge := own_ge A
            refine hK.out _ _ (hS.grown hg hS.size (fun j hj => by cases hj; exact Nat.le_trans hwr hge)) (fun hSn => ?_)
            clear hK K hr
            try simp only [Act.put, List.setIfInBounds_toArray]
            have bW2 := bW.grown hg bW.size (fun j hj => by cases hj; exact hge)
            have En := E.kept hg (ownsRow_apart E A (by decide))
            clear E
            have E := En
            clear En
            clear A hge hg bW hS
            have A := ho
            have bW := bW2
            have hS := hSn
            clear ho bW2 hSn
            refine wpAnyH_ready (rs := [22]) (by kernel_rfl) (by simp) (AllReadyH.cons rfl (fun K hK => ?_) AllReadyH.nil)
            obtain ⟨v2, W11, hr, ho, hg⟩ := copy_ints 30 E (HIs.out.kp (Kp.of_below hS)) bW.size hl8
            refine step_append_run rfl _ _ 30 rfl _ _ rfl rfl hr ?_
            have hge := own_ge E
            refine hK.out _ _ (hS.grown hg hS.size (fun j hj => by cases hj; exact Nat.le_trans hwr hge)) (fun hSn => ?_)
            clear hK K hr
            try simp only [Act.put]
            have bW2 := bW.grown hg bW.size (fun j hj => by cases hj; exact hge)
            have An := A.held hg (ownsRow_apart A.2 E (by decide))
            clear A
            have A := An
            clear An
            clear E hge hg bW hS
            have E := ho
            have bW := bW2
            have hS := hSn
            clear ho bW2 hSn
            obtain ⟨b1, n1, d1, rfl⟩ := A.slice
            obtain ⟨b2, d2, rfl, _, _⟩ := E.shape
            refine wpAnyH_take (i := 23) (v := .agg #[.slice b1 n1 d1, .slice b2 es.length d2]) rfl (by kernel_rfl) (by kernel_rfl) (by kernel_rfl) (fun _ _ _ h => h) (Or.inl ⟨by rfl, fun w' _ => by go_simp⟩) hS ?_
            try simp only [Act.put]
            refine wpAnyH_ready (rs := [24]) (by kernel_rfl) (by simp) (AllReadyH.cons rfl (fun K hK => ?_) AllReadyH.nil)
            go_simp
            refine hK.out _ _ (below_step hS (below_alloc _)) (fun hSn => ?_)
            clear hK K
            refine wpAnyH_ready (rs := [25]) (by kernel_rfl) (by simp) (AllReadyH.cons rfl (fun K hK => ?_) AllReadyH.nil)
            have bX := below_step bW (below_alloc (w := W11) (.cells #[.slice b1 n1 d1, .slice b2 es.length d2] 37))
            have bA := below_alloc (w := W11) (.cells #[.slice b1 n1 d1, .slice b2 es.length d2] 37)
            refine step_append_own rfl _ _ 31 rfl wb.heap.size 37 i1 _ 2 48 under_monos hi1 hy0 hy1 hy2 rfl (by decide) u5 (p.take k).length (cs.flatMap fun c => [c.1, c.2]) rfl (ownsRow_later HOw.out bX) ⟨W11.heap.size, 0, none⟩ 1 1 [.slice b1 n1 d1, .slice b2 es.length d2] rfl rfl ?_ ?_ (by rw [HTk.out]; unfold maxLen; omega) (by rw [HTk.out]; omega) (Nat.le_trans hwr bX.size) ?_
            · intro j u hj
              rw [Addr.add_lit, Nat.zero_add, cell_of_row _ _ _ _ _ _ (heap_alloc_new _ _)]
              simpa using hj
            · intro u hu
              simp only [List.mem_cons, List.not_mem_nil, or_false] at hu
              rcases hu with rfl | rfl <;> rfl
            intro v3 W9 hown9 hgrow9 _
            refine hK.out _ _ (hSn.grown hgrow9 hSn.size (fun j hj => own_blk (ownsRow_later HOw.out bX) hj)) (fun hS9 => ?_)
            clear hK K hS
            have hS := hS9
            try simp only [Act.put, List.setIfInBounds_toArray]
            refine wpAnyH_take (i := 26) (v := v3) rfl (by kernel_rfl) (by kernel_rfl) (by kernel_rfl) (fun _ _ _ h => h) (Or.inl ⟨by rfl, fun w' _ => by go_simp⟩) hS ?_
            try simp only [Act.put]
            refine wpAnyH_done (by kernel_rfl) ?_ _
            have hom := OM.snoc (m := (c, es)) (p := p.take k) HCs.out (fun i cc m h1 h2 => ⟨(HCC.out i cc m h1 h2).1.since bX, (HCC.out i cc m h1 h2).2.later bX⟩) (ownsRow_later HOw.out bX) ((A.mono hwr).since bA) ((E.mono hwr).later bA) hown9 hgrow9 rfl
            rw [← take_get HX.out] at hom
            have HOm9 : Hid (OM W9 wb.heap.size v3 (p.take (k + 1))) := hom
            have HB9 : Hid (Below wb.heap.size wb W9) := hS
            clear hom hown9 hgrow9 hS9 hS hSn bX bA bW A E
            go_wp2
            go_roundw
            case rel => exact ⟨k + 1, by omega, by go_num, HOm9.out, HB9.out⟩
            case measure => simp [intOf] <;> omega
        · have hke : k = p.length := by omega
          subst hke
          rw [List.take_of_length_le (Nat.le_refl _)] at hom
          obtain ⟨pa, pc, hpa⟩ := hom.slice
          subst hpa
          have HOm := hid (hom.mono BL.out.size)
          have HOn2 := hid (HOn.out.later hbl)
          have HEs2 := hid (HEs.out.later hbl)
          have x0 := (Kp.of_below BLw.out).cell _ _ X0w.out
          have hdl : ds.length = q := by rw [HEs.out.1, List.length_take]; omega
          obtain ⟨v8, w8, hr8, ho8, hg8⟩ := OwN.snoc 23 (x := ci) (u := .slice pa p.length pc) HOn2.out (Nat.le_trans BL.out.size hbl.size) rfl (by rw [hdl]; omega)
          have hba := below_alloc (w := wr) (.cells #[.int .i64 ci, .slice pa p.length pc] 51)
          have HEs8 : Hid (ElsO w8 w.heap.size (ds ++ [(ci, .slice pa p.length pc)]) (l.take (q + 1))) := by
            rw [take_get HM.out]
            exact hid (ElsO.snoc (c := (ci, .slice pa p.length pc)) (x := (ci, p)) ((HEs2.out.later hba).grown (HOn2.out.later hba) hg8) rfl hcl hcu ((HOm.out.later hba).grownN (HOn2.out.later hba) hg8))
          have B8 : Hid (Below w.heap.size w w8) := hid ((below_step BLw.out hba).grown hg8 (below_step BLw.out hba).size (fun j hj => own_blk (HOn2.out.later hba) hj))
          have HR8 := hid hr8
          have HO8 := hid ho8
          clear hom hbl hr8 ho8 hg8 hba hdl
          go_wp2_with (first
            | (at_builtin; refine wpList_append_run rfl _ _ _ rfl _ _ rfl rfl HR8.out ?_))
          go_roundw
          case rel => exact ⟨q + 1, _, hql, by go_num, HO8.out, HEs8.out, B8.out⟩
          case measure => simp [intOf] <;> omega
    · have hqe : q = l.length := by omega
      have HEf : Hid (ElsO wr w.heap.size ds l) := by
        have h9 := HEs.out
        rw [hqe, List.take_length] at h9
        exact hid h9
      go_wp2
      go_ret
      exact ⟨_, ds, rfl, HOn.out, HEf.out, BL.out⟩

end Go.Proofs.YtlaenbdlgpepkaaGreatDoor
