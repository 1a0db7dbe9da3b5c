/- Texts of the proof, one behind the other. -/
import Derived.Test.YtelacmijkbgliaaDoorOwn11
import Derived.Test.YtelacmijkbgliaaDoorOwn3
/- grow of package unify: what stands between its rounds. -/
namespace Go.Proofs.YtelacmijkbgliaaDoor
open Go.RowKit Go.Maps Go.Shelf Go.BigFrame

/-- The blocks that the board may stand in while it is grown. -/
def gA (mb wz : Nat) (gv : Value) (b : Nat) : Bool := decide (mb ≠ b ∧ (b < wz ∨ wz + 4 ≤ b) ∧ gv.ownBlock ≠ some b)

theorem gA_iff {mb wz : Nat} {gv : Value} {b : Nat} : gA mb wz gv b = true ↔ (mb ≠ b ∧ (b < wz ∨ wz + 4 ≤ b) ∧ gv.ownBlock ≠ some b) := by simp [gA]

structure GI6 (sig : List Sy) (w W : World) (mb B n0 : Nat) (sv v gv : Value) (M : List Nm) (L : List (Int × Value)) (st : List Nat) (u : List Int) : Prop where
  sigb : W.cell? ⟨w.heap.size, 0, none⟩ = some sv
  mapb : W.cell? ⟨w.heap.size + 1, 0, none⟩ = some (.map (some mb))
  box : W.cell? ⟨w.heap.size + 2, 0, none⟩ = some gv
  frz : W.frozen? ⟨w.heap.size + 2, 0, none⟩ = false
  bck : W.cell? ⟨w.heap.size + 3, 0, none⟩ = some v
  own : W.ownsRow (w.heap.size + 4) 64 1 gv st.length (st.map (ndI M))
  map : MapV W mb L
  vm : Vm6 M L
  few : L.length ≤ M.length
  bd : Bd6 (only (gA mb w.heap.size gv) W) B W.heap.size M (fun _ => none) id (fun _ => 0)
  gr : Gr sig n0 (M.map (·.nd)) st u
  grown : w.grownBy W (some mb)
  sz : w.heap.size + 4 ≤ W.heap.size
  low : mb < B ∧ B ≤ w.heap.size

theorem grown_trans6 {a b c : World} {r : Option Nat} (h : a.grownBy b r) (k : b.grownBy c r) : a.grownBy c r :=
  ⟨k.os.trans h.os, k.tape.trans h.tape, k.output.trans h.output, Nat.le_trans h.size k.size, fun i hi hne => (k.block i (Nat.lt_of_lt_of_le hi h.size) hne).trans (h.block i hi hne)⟩

theorem GI6.later {sig : List Sy} {w W W' : World} {mb B n0 : Nat} {sv v gv : Value} {M : List Nm} {L : List (Int × Value)} {st : List Nat} {u : List Int} (h : GI6 sig w W mb B n0 sv v gv M L st u) (hb : Below W.heap.size W W') : GI6 sig w W' mb B n0 sv v gv M L st u := by
  have hk := Kp.of_below hb
  have hsz := h.sz
  exact ⟨hk.cell _ _ h.sigb, hk.cell _ _ h.mapb, hk.cell _ _ h.box, by rw [frozen_same (hb.block _ (by simp only; omega))]; exact h.frz, hk.cell _ _ h.bck, ownsRow_later h.own hb, h.map.later hb, h.vm, h.few,
    h.bd.only_keep hb.size (fun b o hbT hA hc _ => ⟨hA, (hb.block b hbT).trans hc⟩), h.gr, grown_trans6 h.grown (grown_of_below hb _), Nat.le_trans h.sz hb.size, h.low⟩

/-- A state of the range changes: no cells. -/
theorem GI6.put {sig : List Sy} {w W : World} {mb B n0 : Nat} {sv v gv : Value} {M : List Nm} {L : List (Int × Value)} {st : List Nat} {u : List Int} (h : GI6 sig w W mb B n0 sv v gv M L st u) {l : Nat} {o o' : Obj} (hl : w.heap.size + 4 ≤ l) (ho : W.heap[l]? = some o) (hc : o.isCells = false) : GI6 sig w (W.putObj l o') mb B n0 sv v gv M L st u := by
  have hsz : (W.putObj l o').heap.size = W.heap.size := by simp [World.putObj]
  have hlow := h.low
  have hg : W.grownBy (W.putObj l o') (some l) := ⟨rfl, rfl, rfl, by rw [hsz]; exact Nat.le_refl _, fun k _ hne => World.putObj_heap_other (fun e => hne (by rw [e]))⟩
  refine ⟨cell_putObj ho hc h.sigb, cell_putObj ho hc h.mapb, cell_putObj ho hc h.box, ?_, cell_putObj ho hc h.bck, ownsRow_putObj h.own _ ho hc, h.map.kept hg (by intro e; cases e; omega), h.vm, h.few, ?_, h.gr, ?_, by rw [hsz]; exact h.sz, h.low⟩
  · rw [frozen_same (World.putObj_heap_other (by simp only; omega))]
    exact h.frz
  · rw [hsz]
    refine h.bd.only_keep (Nat.le_refl _) (fun b o2 hbT hA hcs ho2 => ⟨hA, ?_⟩)
    rw [World.putObj_heap_other (fun e => ?_)]
    · exact hcs
    · rw [e, ho] at hcs
      cases hcs
      rw [hc] at ho2
      cases ho2
  · exact ⟨h.grown.os, h.grown.tape, h.grown.output, by rw [hsz]; exact h.grown.size, fun k hk hne => (World.putObj_heap_other (by omega)).trans (h.grown.block k hk hne)⟩

/-- What the world has when a code's node is there and not joined yet. -/
structure GN6 (sig : List Sy) (w W W1 : World) (mb B n0 : Nat) (gv : Value) (M M' : List Nm) (L' : List (Int × Value)) (st : List Nat) (k i : Nat) (c : Int) (u : List Int) : Prop where
  ext : ∀ x, x < M.length → ndI M' x = ndI M x
  map : MapV W1 mb L'
  vm : Vm6 M' L'
  few : L'.length ≤ M'.length
  bd : Bd6 (only (gA mb w.heap.size gv) W1) B W1.heap.size M' (fun _ => none) id (fun _ => 0)
  gr : Gr sig n0 (M'.map (·.nd)) (st.take k ++ [i]) (c :: u)
  grown : W.grownBy W1 (some mb)

theorem ndI_if {M : List Nm} {i : Nat} (h : i < M.length) : IfV (ndI M i) := by
  unfold ndI
  rw [List.getElem?_eq_getElem h]
  simp only [Option.map_some, Option.getD_some]
  unfold ndV
  split
  · exact ⟨_, _, rfl⟩
  · exact ⟨_, _, rfl⟩

/-- A node joined, and the box set. -/
theorem GI6.push (ty : TypeId) {sig : List Sy} {w W W1 : World} {mb B n0 : Nat} {sv v gv : Value} {M M' : List Nm} {L L' : List (Int × Value)} {st : List Nat} {u : List Int} {k i : Nat} {c : Int} {ao : Option Addr} {cap : Nat} (h : GI6 sig w W mb B n0 sv v gv M L st u) (hgv : gv = .slice ao st.length cap) (hk : k ≤ st.length)
    (hN : GN6 sig w W W1 mb B n0 gv M M' L' st k i c u) (hl : (k + 1) * 16 ≤ 140737488355328) :
    ∃ g cp W2, (Builtin.append_ #[87, 87] ty #[.slice ao k cap, .slice (some ⟨W1.heap.size, 0, none⟩) 1 1]).run Tryd.prog (W1.alloc (.cells #[ndI M' i] 64)) = .ok (.slice (some ⟨g, 0, none⟩) (k + 1) cp) W2 ∧
      W2.cell? ⟨w.heap.size + 2, 0, none⟩ = some gv ∧ W2.frozen? ⟨w.heap.size + 2, 0, none⟩ = false ∧
      GI6 sig w (W2.setCell ⟨w.heap.size + 2, 0, none⟩ (.slice (some ⟨g, 0, none⟩) (k + 1) cp)) mb B n0 sv v (.slice (some ⟨g, 0, none⟩) (k + 1) cp) M' L' (st.take k ++ [i]) (c :: u) ∧ KeepsFrom (w.heap.size + 4) W (W2.setCell ⟨w.heap.size + 2, 0, none⟩ (.slice (some ⟨g, 0, none⟩) (k + 1) cp)) := by
  obtain ⟨i0, hi, hz0, hz1, hz2⟩ := info_parts info_tree6
  have hiM : i < M'.length := by
    have := hN.gr.lt (x := i) (by simp)
    rwa [List.length_map] at this
  have ha := below_alloc (w := W1) (.cells #[ndI M' i] 64)
  have hga : W.grownBy (W1.alloc (.cells #[ndI M' i] 64)) (some mb) := grown_trans6 hN.grown (grown_of_below ha _)
  have hsz := h.sz
  have hlow := h.low
  have hsw : W.heap.size ≤ (W1.alloc (.cells #[ndI M' i] 64)).heap.size := hga.size
  have hgb : ∀ j, gv.ownBlock = some j → w.heap.size + 4 ≤ j := fun j hj => own_blk h.own hj
  have hmap : st.map (ndI M) = st.map (ndI M') := List.map_congr_left (fun x hx => ((hN.ext x (by have := h.gr.lt hx; rwa [List.length_map] at this)).symm))
  have hown := h.own.kept hga (.inr (fun e => by have := hgb mb e; omega))
  rw [hgv, hmap] at hown
  have hcut := own_cut hown hk
  rw [← List.map_take] at hcut
  obtain ⟨v', W2, hr, h2, h3, _, h5⟩ := run_append_own_at (P := Tryd.prog) (W1.alloc (.cells #[ndI M' i] 64)) (w.heap.size + 4) 87 ty 64 i0 _ 1 16 under_trees6 hi hz0 hz1 hz2 rfl (by decide) (.slice ao k cap) k ((st.take k).map (ndI M')) hcut ⟨W1.heap.size, 0, none⟩ 1 1 [ndI M' i] rfl
    (fun j y hj => by
      rw [Addr.add_lit, Nat.zero_add]
      cases j with
      | zero =>
        simp at hj
        subst hj
        rw [cell_of_row _ _ _ _ _ _ (heap_alloc_new _ _)]
        rfl
      | succ j => simp at hj) (fun y hy => by simp at hy; subst hy; exact (ndI_if hiM).one) (by unfold maxLen; omega) (by omega) (Nat.le_trans hsz hsw)
  obtain ⟨g, cp, rfl⟩ := own_form h2 (by omega)
  have hge := own_ge h2
  have hob : (Value.slice ao k cap).ownBlock = gv.ownBlock := by rw [hgv]; cases ao <;> rfl
  rw [hob] at h3 h5
  have hold : ∀ b, b < w.heap.size + 4 → b ≠ mb → W2.heap[b]? = W.heap[b]? := fun b hb2 hb3 => by
    rw [h3.block b (Nat.lt_of_lt_of_le (Nat.lt_of_lt_of_le hb2 hsz) hsw) (fun e => by have := hgb b e.symm; omega)]
    exact hga.block b (Nat.lt_of_lt_of_le hb2 hsz) (fun e => hb3 (by cases e; rfl))
  have hbox : W2.cell? ⟨w.heap.size + 2, 0, none⟩ = some gv := by
    rw [World.cell?_of_block (hold _ (by simp only; omega) (by simp only; omega))]
    exact h.box
  have hfrz : W2.frozen? ⟨w.heap.size + 2, 0, none⟩ = false := by
    rw [frozen_same (hold _ (by simp only; omega) (by simp only; omega))]
    exact h.frz
  have hne : ∀ b, b < (W1.alloc (.cells #[ndI M' i] 64)).heap.size → gv.ownBlock ≠ some b → g ≠ b := fun b hb1 hb2 e => by
    subst e
    rcases h5 with h5 | h5
    · exact hb2 (by rw [← h5]; rfl)
    · simp only [Value.ownBlock, Option.some.injEq] at h5
      omega
  have hs2 : (W2.setCell ⟨w.heap.size + 2, 0, none⟩ (.slice (some ⟨g, 0, none⟩) (k + 1) cp)).heap.size = W2.heap.size := by simp [World.setCell]
  have hvl : (st.take k ++ [i]).length = k + 1 := by rw [List.length_append, List.length_take, Nat.min_eq_left hk]; rfl
  have hs3 := h3.size
  refine ⟨g, cp, W2, hr, hbox, hfrz, ⟨?_, ?_, World.cell?_setCell_same' _ _ _ (by rw [hbox]; rfl), by rw [World.frozen?_setCell]; exact hfrz, ?_, ?_, ?_, hN.vm, hN.few, ?_, hN.gr, ?_, ?_, h.low⟩, ?_⟩
  · rw [World.cell?_setCell_far _ _ _ _ (by simp only; omega), World.cell?_of_block (hold _ (by simp only; omega) (by simp only; omega))]
    exact h.sigb
  · rw [World.cell?_setCell_far _ _ _ _ (by simp only; omega), World.cell?_of_block (hold _ (by simp only; omega) (by simp only; omega))]
    exact h.mapb
  · rw [World.cell?_setCell_far _ _ _ _ (by simp only; omega), World.cell?_of_block (hold _ (by simp only; omega) (by simp only; omega))]
    exact h.bck
  · rw [hvl, List.map_append]
    exact h2.kept (set_grownT W2 (w.heap.size + 2) 0 _) (.inr (by simp only [Value.ownBlock, ne_eq, Option.some.injEq]; omega))
  · exact ((hN.map.later ha).kept h3 (fun e => by have := hgb mb e; omega)).kept (set_grownT W2 (w.heap.size + 2) 0 _) (by intro e; cases e; omega)
  · rw [hs2]
    refine hN.bd.only_keep (Nat.le_trans ha.size hs3) (fun b o hbT hA hcs _ => ?_)
    rw [gA_iff] at hA ⊢
    have hbT2 := Nat.lt_of_lt_of_le hbT ha.size
    refine ⟨⟨hA.1, hA.2.1, ?_⟩, ?_⟩
    · simp only [Value.ownBlock, ne_eq, Option.some.injEq]
      exact hne b hbT2 hA.2.2
    · rw [heap_setCell_other _ _ _ _ (show b ≠ w.heap.size + 2 by have := hA.2.1; omega), h3.block b hbT2 (fun e => hA.2.2 e.symm), ha.block b hbT]
      exact hcs
  · refine ⟨(h3.os.trans hga.os).trans h.grown.os, (h3.tape.trans hga.tape).trans h.grown.tape, (h3.output.trans hga.output).trans h.grown.output, by rw [hs2]; exact Nat.le_trans h.grown.size (Nat.le_trans hsw hs3), fun b hb hb2 => ?_⟩
    rw [heap_setCell_other _ _ _ _ (show b ≠ w.heap.size + 2 by omega), hold b (by omega) (fun e => hb2 (by rw [e]))]
    exact h.grown.block b hb hb2
  · rw [hs2]
    exact Nat.le_trans hsz (Nat.le_trans hsw hs3)
  · refine ⟨by rw [hs2]; exact Nat.le_trans hsw hs3, fun j o hj ho hoc => ?_⟩
    have hjl := (Array.getElem?_eq_some_iff.1 ho).1
    rw [heap_setCell_other _ _ _ _ (show j ≠ w.heap.size + 2 by omega), h3.block j (Nat.lt_of_lt_of_le hjl hsw) (fun e => ?_), hga.block j hjl (fun e => by cases e; omega)]
    · exact ho
    · rcases h.own.2 with ⟨h8, _⟩ | ⟨g8, c8, cur8, h8, _, hg8, _⟩
      · rw [h8] at e; cases e
      · rw [h8] at e
        simp only [Value.ownBlock, Option.some.injEq] at e
        subst e
        rw [hg8] at ho
        cases ho
        simp [Obj.isCells] at hoc

end Go.Proofs.YtelacmijkbgliaaDoor

/- grow of package unify: a code's node made. -/
namespace Go.Proofs.YtelacmijkbgliaaDoor
open Go.RowKit Go.Maps Go.Shelf Go.BigFrame

theorem own_lt6 {w : World} {base : Nat} {e : TypeId} {s m j : Nat} {v : Value} {xs : List Value} (h : w.ownsRow base e s v m xs) (hj : v.ownBlock = some j) : j < w.heap.size := by
  rcases h.2 with ⟨rfl, _⟩ | ⟨g, cap, cur, rfl, _, hg, _⟩
  · cases hj
  · cases hj
    exact (Array.getElem?_eq_some_iff.1 hg).1

/-- What lies behind all that lay is the board's to have. -/
theorem GI6.free {sig : List Sy} {w W : World} {mb B n0 : Nat} {sv v gv : Value} {M : List Nm} {L : List (Int × Value)} {st : List Nat} {u : List Int} (h : GI6 sig w W mb B n0 sv v gv M L st u) {b : Nat} (hb : W.heap.size ≤ b) : gA mb w.heap.size gv b = true := by
  have hsz := h.sz
  have hlow := h.low
  exact gA_iff.2 ⟨by omega, .inr (by omega), fun e => by have := own_lt6 h.own e; omega⟩

theorem GI6.board {sig : List Sy} {w W W1 : World} {mb B n0 : Nat} {sv v gv : Value} {M : List Nm} {L : List (Int × Value)} {st : List Nat} {u : List Int} (h : GI6 sig w W mb B n0 sv v gv M L st u) (hg : W.grownBy W1 (some mb)) {T : Nat} (hT : W.heap.size ≤ T) : Bd6 (only (gA mb w.heap.size gv) W1) B T M (fun _ => none) id (fun _ => 0) :=
  h.bd.only_keep hT (fun b o hbT hA hc _ => ⟨hA, (hg.block b hbT (fun e => (gA_iff.1 hA).1 (by cases e; rfl))).trans hc⟩)

theorem gn_old {sig : List Sy} {w W : World} {mb B n0 : Nat} {sv v gv : Value} {M : List Nm} {L : List (Int × Value)} {st : List Nat} {u : List Int} (h : GI6 sig w W mb B n0 sv v gv M L st u) {n : Int} {x : Value} (hx : L.lookup n = some x) :
    ∃ i p, x = .pointer p ∧ ndI M i = .iface 74 x ∧ GN6 sig w W W mb B n0 gv M M L st st.length i (-1 - n) u := by
  obtain ⟨i, m, hm, hn, rfl⟩ := (h.vm n x).1 hx
  refine ⟨i, _, rfl, ?_, ⟨fun _ _ => rfl, h.map, h.vm, h.few, h.bd, ?_, ⟨rfl, rfl, rfl, Nat.le_refl _, fun _ _ _ => rfl⟩⟩⟩
  · unfold ndI ndV
    rw [hm]
    simp only [Option.map_some, Option.getD_some, hn]
  · rw [List.take_length]
    exact gr_old h.gr (by rw [List.getElem?_map, hm, Option.map_some, hn])

theorem gn_new {sig : List Sy} {w W W1 : World} {mb B n0 : Nat} {sv v gv : Value} {M : List Nm} {L : List (Int × Value)} {st : List Nat} {u : List Int} (h : GI6 sig w W mb B n0 sv v gv M L st u) {n : Int} (h0 : 0 ≤ n) (h1 : n < 1048576) (hx : L.lookup n = none)
    (hm : MapV W1 mb ((n, .pointer (some ⟨W.heap.size, 0, none⟩)) :: L)) (hs : W.heap.size + 2 ≤ W1.heap.size) (hc0 : W1.heap[W.heap.size]? = some (.cells #[.int .i64 n, .pointer (some ⟨W.heap.size + 1, 0, none⟩)] 106)) (hc1 : W1.heap[W.heap.size + 1]? = some (.cells #[.pointer none, .int .i64 1, .iface 74 (.pointer (some ⟨W.heap.size, 0, none⟩)), .int .i64 0] 76)) (hg : W.grownBy W1 (some mb)) :
    ∃ m : Nm, ndI (M ++ [m]) M.length = .iface 74 (.pointer (some ⟨W.heap.size, 0, none⟩)) ∧ GN6 sig w W W1 mb B n0 gv M (M ++ [m]) ((n, .pointer (some ⟨W.heap.size, 0, none⟩)) :: L) st st.length M.length (-1 - n) u := by
  have hsz := h.sz
  have hlow := h.low
  refine ⟨⟨W.heap.size, W.heap.size + 1, .var n⟩, ndI_new _ _, ⟨fun x hxl => ndI_snoc hxl, hm, h.vm.var rfl hx, by have := h.few; simp only [List.length_cons, List.length_append, List.length_nil]; omega, ?_, ?_, hg⟩⟩
  · refine Bd6.snoc h.gr.ok (h.board hg (Nat.le_refl _)) (by omega) (Nat.le_refl _) (Nat.le_succ _) (by simp only; omega) (by simp only; omega) (by simp only; omega) ?_ ⟨1, ?_⟩
    · show (only _ W1).heap[W.heap.size]? = _
      rw [only_block (h.free (Nat.le_refl _))]
      exact hc0
    · show (only _ W1).heap[W.heap.size + 1]? = _
      rw [only_block (h.free (Nat.le_succ _)), ndI_new]
      exact hc1
  · rw [List.take_length, List.map_append]
    have := gr_new h.gr h0 h1 (h.vm.none_of hx)
    rw [List.length_map] at this
    exact this

theorem gn_app {sig : List Sy} {w W Wb W1 : World} {mb B n0 : Nat} {sv v gv : Value} {M : List Nm} {L : List (Int × Value)} {st : List Nat} {u : List Int} (h : GI6 sig w W mb B n0 sv v gv M L st u) {c : Int} (h0 : ¬ c < 0) (h1 : c.toNat < sig.length) {r : Nat} (hr : r + arN sig c = st.length) {ao : Option Addr} {n cap : Nat}
    (hn : n = arN sig c) (ho : Wb.ownsRow W.heap.size 64 1 (.slice ao n cap) n ((st.drop r).map (ndI M)).reverse) (hb : Below W.heap.size W Wb) (hs : W1.heap.size = Wb.heap.size + 2)
    (hc0 : W1.heap[Wb.heap.size]? = some (.cells #[.int .i64 c, .slice ao n cap, .pointer (some ⟨Wb.heap.size + 1, 0, none⟩)] 109)) (hc1 : W1.heap[Wb.heap.size + 1]? = some (.cells #[.pointer none, .int .i64 1, .iface 94 (.pointer (some ⟨Wb.heap.size, 0, none⟩)), .int .i64 0] 76)) (hb1 : Below Wb.heap.size Wb W1) :
    ∃ m : Nm, ndI (M ++ [m]) M.length = .iface 94 (.pointer (some ⟨Wb.heap.size, 0, none⟩)) ∧ GN6 sig w W W1 mb B n0 gv M (M ++ [m]) L st r M.length c u := by
  have hsz := h.sz
  have hlow := h.low
  have hbs := hb.size
  have hbb : Below W.heap.size W W1 := ⟨hb1.os.trans hb.os, hb1.tape.trans hb.tape, hb1.output.trans hb.output, Nat.le_trans hb.size hb1.size, fun k hk => (hb1.block k (by omega)).trans (hb.block k hk)⟩
  have hxl : ((st.drop r).reverse).length = n := by rw [List.length_reverse, List.length_drop]; omega
  refine ⟨⟨Wb.heap.size, Wb.heap.size + 1, .app c (st.drop r).reverse⟩, ndI_new _ _, ⟨fun x hxl => ndI_snoc hxl, h.map.later hbb, h.vm.app rfl, by have := h.few; simp only [List.length_append, List.length_cons, List.length_nil]; omega, ?_, ?_, grown_of_below hbb _⟩⟩
  · refine Bd6.snoc h.gr.ok (h.board (grown_of_below hbb _) (Nat.le_refl _)) (by omega) hbs (Nat.le_succ_of_le hbs) (by simp only; omega) (by simp only; omega) (by simp only; omega) ?_ ⟨1, ?_⟩
    · show ∃ ao cap, _
      refine ⟨ao, cap, ?_, ?_⟩
      · rw [hxl, only_block (h.free hbs)]
        exact hc0
      · rw [hxl]
        rcases ho.2 with ⟨h8, h9⟩ | ⟨g, cp, cur, h8, hgb, hg, hc, hm, _⟩
        · cases h8
          exact ⟨by omega, by simp [maxLen], .inl (List.eq_nil_of_length_eq_zero (by rw [hxl]))⟩
        · cases h8
          have hgl := (Array.getElem?_eq_some_iff.1 hg).1
          refine ⟨hc, hm, .inr ⟨g, 0, rfl, by omega, fun m' hm' => ?_, fun k x hk => ?_⟩⟩
          · rcases List.mem_append.1 hm' with hm' | hm'
            · have := (h.bd.low m' hm').1
              omega
            · rw [List.mem_singleton] at hm'
              subst hm'
              simp only
              omega
          · have hkl := (List.getElem?_eq_some_iff.1 hk).1
            have hx : x < M.length := by
              have := h.gr.lt (List.mem_of_mem_drop (List.mem_reverse.1 (List.mem_of_getElem? hk)))
              rwa [List.length_map] at this
            rw [only_cell (a := ⟨g, 0 + k, none⟩) (h.free hgb), ndI_snoc hx, World.cell?_of_block (hb1.block g hgl), Nat.zero_add, World.ownsRow.cellAt ho k (by omega), ← List.map_reverse, List.getElem?_map, hk]
            rfl
    · show (only _ W1).heap[Wb.heap.size + 1]? = _
      rw [only_block (h.free (Nat.le_succ_of_le hbs)), ndI_new]
      exact hc1
  · rw [List.map_append]
    have := gr_app h.gr h0 h1 (by omega)
    rw [List.length_map, show st.length - arN sig c = r by omega] at this
    exact this

end Go.Proofs.YtelacmijkbgliaaDoor

/- grow of package unify: what a round's call leaves. -/
namespace Go.Proofs.YtelacmijkbgliaaDoor
open Go.RowKit Go.Maps Go.Shelf Go.BigFrame

/-- Between rounds. -/
def GRel (sig : List Sy) (w : World) (mb B n0 : Nat) (M0 : List Nm) (sv v : Value) (u : List Int) (W : World) : Prop := ∃ gv M' L' st', GI6 sig w W mb B n0 sv v gv M' L' st' u ∧ ∃ X, M' = M0 ++ X

/-- A node is there; what its joining leaves. -/
def GOut (ty : TypeId) (sig : List Sy) (w W : World) (mb B n0 : Nat) (M0 : List Nm) (sv v gv : Value) (ao : Option Addr) (n cap k : Nat) (u : List Int) (e : Ending) (w3 : World) : Prop :=
  ∃ p, e = .returned (.pointer p) ∧ w3.cell? ⟨w.heap.size + 2, 0, none⟩ = some (.slice ao n cap) ∧ ∃ g cp W2, (Builtin.append_ #[87, 87] 87 #[.slice ao k cap, .slice (some ⟨w3.heap.size, 0, none⟩) 1 1]).run Tryd.prog (w3.alloc (.cells #[.iface ty (.pointer p)] 64)) = .ok (.slice (some ⟨g, 0, none⟩) (k + 1) cp) W2 ∧
    W2.cell? ⟨w.heap.size + 2, 0, none⟩ = some gv ∧ W2.frozen? ⟨w.heap.size + 2, 0, none⟩ = false ∧ KeepsFrom (w.heap.size + 4) W (W2.setCell ⟨w.heap.size + 2, 0, none⟩ (.slice (some ⟨g, 0, none⟩) (k + 1) cp)) ∧
    GRel sig w mb B n0 M0 sv v u (W2.setCell ⟨w.heap.size + 2, 0, none⟩ (.slice (some ⟨g, 0, none⟩) (k + 1) cp))

theorem gout_of {ty : TypeId} {sig : List Sy} {w W w3 : World} {mb B n0 : Nat} {M0 M M' : List Nm} {sv v gv : Value} {L L' : List (Int × Value)} {st : List Nat} {u : List Int} {k i : Nat} {c : Int} {ao : Option Addr} {cap : Nat} {p : Option Addr} (h : GI6 sig w W mb B n0 sv v gv M L st u) (hgv : gv = .slice ao st.length cap) (hk : k ≤ st.length)
    (hN : GN6 sig w W w3 mb B n0 gv M M' L' st k i c u) (hi : ndI M' i = .iface ty (.pointer p)) (hl : (k + 1) * 16 ≤ 140737488355328) (hX : ∃ X, M' = M0 ++ X) : GOut ty sig w W mb B n0 M0 sv v gv ao st.length cap k (c :: u) (.returned (.pointer p)) w3 := by
  obtain ⟨g, cp, W2, hr, hb, hf, hg, hkp⟩ := h.push 87 hgv hk hN hl
  rw [hi] at hr
  have hsz := h.sz
  have hlow := h.low
  refine ⟨p, rfl, ?_, g, cp, W2, hr, hb, hf, hkp, _, _, _, _, hg, hX⟩
  rw [World.cell?_of_block (hN.grown.block _ (by simp only; omega) (fun e => by simp only [Option.some.injEq] at e; omega)), h.box, hgv]

theorem var_out {sig : List Sy} {w W : World} {mb B n0 : Nat} {M0 M : List Nm} {sv v gv : Value} {L : List (Int × Value)} {st : List Nat} {u : List Int} {ao : Option Addr} {cap : Nat} {c : Int} (h : GI6 sig w W mb B n0 sv v gv M L st u) (hgv : gv = .slice ao st.length cap) (hc : c < 0) (hc1 : -1048576 ≤ c) (hX : ∃ X, M = M0 ++ X) (hl : (st.length + 1) * 16 ≤ 140737488355328) (hM : M.length < maxLen) :
    Calls Tryd.prog 58 #[.map (some mb), .int .i64 (-1 - c)] W (GOut 74 sig w W mb B n0 M0 sv v gv ao st.length cap st.length (c :: u)) := by
  have hcc : c = -1 - (-1 - c) := by omega
  refine (variableOf_any mb L (-1 - c) W h.map (by omega) (by omega) (Nat.lt_of_le_of_lt h.few hM) (fun x hx => ?_)).mono ?_
  · obtain ⟨i, p, rfl, _⟩ := gn_old h hx
    exact ⟨p, rfl⟩
  · rintro e w3 (⟨x, hx, rfl, rfl⟩ | ⟨hx, rfl, hm, hs, hc0, hc1, hg⟩)
    · obtain ⟨i, p, rfl, hi, hN⟩ := gn_old h hx
      rw [← hcc] at hN
      exact gout_of h hgv (Nat.le_refl _) hN hi hl hX
    · obtain ⟨m, hi, hN⟩ := gn_new h (n := -1 - c) (by omega) (by omega) hx hm hs hc0 hc1 hg
      rw [← hcc] at hN
      obtain ⟨X, hX⟩ := hX
      exact gout_of h hgv (Nat.le_refl _) hN hi hl ⟨X ++ [m], by rw [hX, List.append_assoc]⟩

theorem app_out {sig : List Sy} {w W Wb : World} {mb B n0 : Nat} {M0 M : List Nm} {sv v gv : Value} {L : List (Int × Value)} {st : List Nat} {u : List Int} {ao : Option Addr} {cap : Nat} {c : Int} {r : Nat} {co : Option Addr} {cn cc : Nat} (h : GI6 sig w W mb B n0 sv v gv M L st u) (hgv : gv = .slice ao st.length cap) (hc : ¬ c < 0) (hc1 : c.toNat < sig.length) (hr : r + arN sig c = st.length) (hX : ∃ X, M = M0 ++ X) (hl : (r + 1) * 16 ≤ 140737488355328)
    (hn : cn = arN sig c) (ho : Wb.ownsRow W.heap.size 64 1 (.slice co cn cc) cn ((st.drop r).map (ndI M)).reverse) (hb : Below W.heap.size W Wb) :
    Calls Tryd.prog 61 #[.int .i64 c, .slice co cn cc] Wb (GOut 94 sig w W mb B n0 M0 sv v gv ao st.length cap r (c :: u)) := by
  refine (newApplication_any Wb c co cn cc).mono ?_
  rintro e w3 ⟨rfl, hs, hc0, hc2, hb1⟩
  obtain ⟨m, hi, hN⟩ := gn_app h hc hc1 hr hn ho hb hs hc0 hc2 hb1
  obtain ⟨X, hX⟩ := hX
  exact gout_of h hgv (by omega) hN hi hl ⟨X ++ [m], by rw [hX, List.append_assoc]⟩

end Go.Proofs.YtelacmijkbgliaaDoor
