/- Texts of the proof, one behind the other. -/
import Derived.Test.YtcoaabgaolblfaaDoorOwn7
import Derived.Test.YtcoaabgaolblfaaDoorOwn2
import Derived.Test.YtcoaabgaolblfaaDoorOwn4
import Derived.Deep.DeepAppendRoom
import Derived.Test.YtcoaabgaolblfaaDoorOwn5
import Derived.Test.YtcoaabgaolblfaaDoorOwn6
import Derived.BigRegion
/- package prec: hasCycle, Above. -/
namespace Go.Proofs.YtcoaabgaolblfaaDoor
open Go.RowKit Go.Maps

theorem run_index_tab (w : World) {T : List Nat} {f a b : Nat} (hf : f < 128) (h1 : T[f * 2]? = some a) (h2 : T[f * 2 + 1]? = some b) : (Instr.index 72 (.agg (cellsT T)) (.int .i64 (f : Int))).run Tryd.prog w = .ok (rowV a b) w := by
  obtain ⟨i, hi⟩ := has_info info_row
  have hs := run_sizeOf (P := Tryd.prog) w hi
  rw [cells_row] at hs
  have hp := run_part_row w T (f * 2) a b h1 h2
  simp [Instr.index, asIntOf, Sem.run_bind, run_underlying under_table w, hs, hp]
  intro h
  omega

/-- Whether a symbol is above itself. -/
def cycB (T : List Nat) (k : Nat) : Bool := (List.range k).any fun i => hasN T i i

theorem cycB_step (T : List Nat) (k : Nat) : cycB T (k + 1) = (cycB T k || hasN T k k) := by
  unfold cycB
  rw [List.range_succ, List.any_append]
  simp

theorem cycB_iff (T : List Nat) : cycB T 128 = true ↔ ∃ i, TR T i i := by
  unfold cycB
  simp only [List.any_eq_true, List.mem_range]
  exact ⟨fun ⟨i, h1, h2⟩ => ⟨i, h1, h1, h2⟩, fun ⟨i, h1, _, h2⟩ => ⟨i, h1, h2⟩⟩

set_option maxRecDepth 100000 in
set_option maxHeartbeats 1600000 in
theorem hasCycle_any (T : List Nat) (w : World) (hT : Tab T) :
    Calls Tryd.prog 26 #[.agg (cellsT T)] w fun e w' => e = .returned (.bool (cycB T 128)) ∧ Below w.heap.size w w' := by
  have H1 : Hid (Tb 72 (w.alloc (.cells (cellsT T) 72)) w.heap.size T) := heap_alloc_new _ _
  have HT : Hid (Tab T) := hT
  clear hT
  go_enter Tryd.func26, Tryd.ntmps26
  go_wp2_with (first
    | (refine wpList_load_row rfl _ _ rfl w.heap.size rfl _ _ _ _ H1.out under_table rfl (by rw [info_table, cellsT_size, HT.out.len]) ?_))
  go_loopw [6] (fun i wr => ∃ k : Nat, k ≤ 128 ∧ i = .int .i64 k ∧ cycB T k = false ∧ Below w.heap.size w wr) (fun i _ => 128 - (intOf i).toNat)
  case atStart => exact ⟨0, by omega, rfl, rfl, below_alloc _⟩
  case round =>
    obtain ⟨k, hk, rfl, hc, hbl⟩ := hrel
    have HB : Hid (Below w.heap.size w wr) := hbl
    have HC : Hid (cycB T k = false) := hc
    clear hbl hc
    by_cases hk2 : k < 128
    · obtain ⟨a, ha, ha2⟩ := HT.out.get (k := k * 2) (by omega)
      obtain ⟨b, hb, hb2⟩ := HT.out.get (k := k * 2 + 1) (by omega)
      have hix := fun w => run_index_tab w hk2 ha hb
      have HR : Hid (rowHas a b k = hasN T k k) := hasN_row hk2 ha hb
      clear ha hb
      unfold rowV U64 at hix
      go_wp2_with fail
      have hbl2 : Below w.heap.size w (wr.alloc (.cells #[U64 a, U64 b] 70)) := HB.out.trans ((below_alloc _).mono HB.out.size)
      refine (has_any a b k _ ha2 hb2 hk2).mono ?_
      rintro e w2 ⟨rfl, hb3⟩
      have HB2 : Hid (Below w.heap.size w w2) := hbl2.trans (hb3.mono hbl2.size)
      clear hb3 hbl2
      rw [HR.out]
      cases hh : hasN T k k with
      | false =>
        go_wp2
        go_roundw
        case rel => exact ⟨k + 1, by omega, by go_num, by rw [cycB_step, HC.out, hh]; rfl, HB2.out⟩
        case measure => simp [intOf]; omega
      | true =>
        go_wp2
        go_ret
        refine ⟨ret1b (Eq.symm ?_), HB2.out⟩
        unfold cycB
        exact List.any_eq_true.2 ⟨k, List.mem_range.2 hk2, hh⟩
    · obtain rfl : k = 128 := by omega
      go_wp2
      go_ret
      exact ⟨ret1b HC.out.symm, HB.out⟩

/-- A precedence of these pairs. -/
def Pc (w : World) (v : Value) (ps : List (Int × Int)) : Prop := ∃ g T, v = .pointer (some ⟨g, 0, none⟩) ∧ Tab T ∧ Tb 77 w g T ∧ ∀ i j, TR T i j ↔ Up ps i j

theorem Pc.later {w w' : World} {v : Value} {ps : List (Int × Int)} (h : Pc w v ps) (hb : Below w.heap.size w w') : Pc w' v ps := by
  obtain ⟨g, T, hv, h1, h2, h3⟩ := h
  exact ⟨g, T, hv, h1, h2.later hb, h3⟩

theorem Pc.same {w : World} {v : Value} {ps qs : List (Int × Int)} (h : Pc w v ps) (hs : ∀ x, x ∈ ps ↔ x ∈ qs) : Pc w v qs := by
  obtain ⟨g, T, hv, h1, h2, h3⟩ := h
  exact ⟨g, T, hv, h1, h2, fun i j => (h3 i j).trans (Up.same hs i j)⟩

theorem abB_no {ps : List (Int × Int)} {f g : Int} {T : List Nat} (h : ∀ i j, TR T i j ↔ Up ps i j) (hn : ¬ (0 ≤ f ∧ f < 128 ∧ 0 ≤ g ∧ g < 128)) : abB ps f g = false := by
  rw [Bool.eq_false_iff]
  intro hh
  rw [abB_iff] at hh
  obtain ⟨h1, h2, h3⟩ := hh
  have := (h _ _).2 h3
  have h4 := this.1
  have h5 := this.2.1
  omega

theorem abB_tab {ps : List (Int × Int)} {T : List Nat} (h : ∀ i j, TR T i j ↔ Up ps i j) {f g : Nat} (hf : f < 128) (hg : g < 128) : abB ps (f : Int) (g : Int) = hasN T f g := by
  rw [Bool.eq_iff_iff, abB_nat, ← h]
  exact ⟨fun x => x.2.2, fun x => ⟨hf, hg, x⟩⟩

set_option maxRecDepth 100000 in
theorem aboveP_any (ps : List (Int × Int)) (v : Value) (f g : Int) (w : World) (h : Pc w v ps) :
    Calls Tryd.prog 56 #[v, .int .i64 f, .int .i64 g] w fun e w' => e = .returned (.bool (abB ps f g)) ∧ Below w.heap.size w w' := by
  obtain ⟨b, T, rfl, hT, hb, hu⟩ := h
  have HU : Hid (∀ i j, TR T i j ↔ Up ps i j) := hu
  have HB : Hid (Tb 77 w b T) := hb
  clear hu hb
  by_cases h1 : 0 ≤ f ∧ f < 128
  · have e1 : decide (0 ≤ f ∧ f < 128) = true := by simp [h1]
    by_cases h2 : 0 ≤ g ∧ g < 128
    · have e2 : decide (0 ≤ g ∧ g < 128) = true := by simp [h2]
      obtain ⟨f, rfl⟩ := Int.eq_ofNat_of_zero_le h1.1
      obtain ⟨g, rfl⟩ := Int.eq_ofNat_of_zero_le h2.1
      have hf : f < 128 := by omega
      have hg : g < 128 := by omega
      have hfi : (f : Int) < 128 := by omega
      obtain ⟨x, hx, hx2⟩ := hT.get (k := f * 2) (by omega)
      obtain ⟨y, hy, hy2⟩ := hT.get (k := f * 2 + 1) (by omega)
      have c1 := HB.out.cell hx
      have c2 := HB.out.cell hy
      have HR : Hid (rowHas x y g = abB ps (f : Int) (g : Int)) := (hasN_row hg hx hy).trans (abB_tab HU.out hf hg).symm
      have E1 := hidP e1
      have E2 := hidP e2
      clear hx hy e1 e2 hT h1 h2
      go_enter Tryd.func56, Tryd.ntmps56
      go_wp2_with fail
      refine (isSymbol_any 128 f w).mono ?_
      rintro e w2 ⟨rfl, hw2⟩
      subst hw2
      rw [E1.out]
      go_wp2_with fail
      refine (isSymbol_any 128 g w2).mono ?_
      rintro e w3 ⟨rfl, hw3⟩
      subst hw3
      rw [E2.out]
      go_wp2_with fail
      refine (has_any x y g w3 hx2 hy2 hg).mono ?_
      rintro e w4 ⟨rfl, hb4⟩
      go_wp2
      go_ret
      exact ⟨ret1b HR.out, hb4⟩
    · have E1 := hidP e1
      have E2 : Hid (decide (0 ≤ g ∧ g < 128) = false) := by simp only [decide_eq_false_iff_not]; exact h2
      have HR : Hid (abB ps f g = false) := abB_no HU.out (by omega)
      clear e1 h1 h2 hT
      go_enter Tryd.func56, Tryd.ntmps56
      go_wp2_with fail
      refine (isSymbol_any 128 f w).mono ?_
      rintro e w2 ⟨rfl, hw2⟩
      subst hw2
      rw [E1.out]
      go_wp2_with fail
      refine (isSymbol_any 128 g w2).mono ?_
      rintro e w3 ⟨rfl, hw3⟩
      subst hw3
      rw [E2.out]
      go_wp2
      go_ret
      exact ⟨ret1b HR.out.symm, Below.refl _ _⟩
  · have E1 : Hid (decide (0 ≤ f ∧ f < 128) = false) := by simp only [decide_eq_false_iff_not]; exact h1
    have HR : Hid (abB ps f g = false) := abB_no HU.out (by omega)
    clear h1 hT
    go_enter Tryd.func56, Tryd.ntmps56
    go_wp2_with fail
    refine (isSymbol_any 128 f w).mono ?_
    rintro e w2 ⟨rfl, hw2⟩
    subst hw2
    rw [E1.out]
    go_wp2
    go_ret
    exact ⟨ret1b HR.out.symm, Below.refl _ _⟩

end Go.Proofs.YtcoaabgaolblfaaDoor

/- slices.Equal at ints walked. -/
namespace Go.Proofs.YtcoaabgaolblfaaDoor
open Go.RowKit Go.Maps Go.BigFrame

set_option maxHeartbeats 400000 in
theorem equalI_any (v u : Value) (xs ys : List Int) (w : World) (h : Is w v xs) (h' : Is w u ys) :
    Calls Tryd.prog 64 #[v, u] w fun e w' => e = .returned (.bool (decide (xs = ys))) ∧ ∃ n, w' = w.drewN n := by
  obtain ⟨ao, cap, rfl, hao, hca, hcl⟩ := h.flatI
  obtain ⟨bo, cap', rfl, hbo, hcb, hcl'⟩ := h'.flatI
  clear h h'
  by_cases hl : xs.length = ys.length
  · have hle : ((xs.length : Int) != ys.length) = false := by simp; omega
    go_enter Tryd.func64, Tryd.ntmps64
    go_wp2
    go_loopw [13] (fun i wr => ∃ k : Nat, k ≤ xs.length ∧ i = .int .i64 k ∧ xs.take k = ys.take k ∧ ∃ n, wr = w.drewN n) (fun i _ => xs.length - (intOf i).toNat)
    case atStart => exact ⟨0, Nat.zero_le _, rfl, rfl, 0, rfl⟩
    case round =>
      obtain ⟨k, hk, rfl, ht, n, rfl⟩ := hrel
      have HT : Hid (xs.take k = ys.take k) := ht
      clear ht
      by_cases hlt : k < xs.length
      · obtain ⟨g, off, x, rfl, hx1, hx3⟩ := hcl k hlt
        obtain ⟨g', off', y, rfl, hy1, hy3⟩ := hcl' k (by omega)
        have HX : Hid (xs[k]? = some x) := hx1
        have HY : Hid (ys[k]? = some y) := hy1
        have hlt' : k < ys.length := by omega
        clear hx1 hy1 hcl hcl'
        by_cases hxy : x = y
        · subst hxy
          have hxx : (x != x) = false := by simp
          go_wp2
          go_quiet (fail)
          go_wp2
          go_roundw
          case rel => exact ⟨k + 1, by omega, by go_num, by rw [take_get HX.out, take_get HY.out, HT.out], _, rfl⟩
          case measure => simp [intOf]; omega
        · have hne : (x != y) = true := by rw [bne_iff_ne]; exact hxy
          go_wp2
          go_quiet (fail)
          go_wp2
          go_ret
          exact ⟨ret1b (by rw [eq_comm, decide_eq_false_iff_not]; rintro rfl; have := HX.out.symm.trans HY.out; simp at this; exact hxy this), _, World.drewN_drewN _ _ _⟩
      · have hk' : k = xs.length := by omega
        go_wp2
        go_ret
        refine ⟨ret1b ?_, n, rfl⟩
        have := HT.out
        rw [List.take_of_length_le (by omega), List.take_of_length_le (by omega)] at this
        simp [this]
  · have hle : ((xs.length : Int) != ys.length) = true := by rw [bne_iff_ne]; omega
    go_enter Tryd.func64, Tryd.ntmps64
    go_wp2
    go_ret
    exact ⟨ret1b (by rw [eq_comm, decide_eq_false_iff_not]; rintro rfl; exact hl rfl), 0, rfl⟩

end Go.Proofs.YtcoaabgaolblfaaDoor

/- The calls of the examples, one by one. -/
namespace Go.Proofs.YtcoaabgaolblfaaDoor
open Go.RowKit Go.Maps Go.BigFrame

end Go.Proofs.YtcoaabgaolblfaaDoor

/- The examples come out true. -/
namespace Go.Proofs.YtcoaabgaolblfaaDoor
open Go.RowKit Go.Maps Go.BigFrame

end Go.Proofs.YtcoaabgaolblfaaDoor

/- Lists of rows: of one's own, held against each other, joined. -/
namespace Go.Proofs.YtcoaabgaolblfaaDoor
open Go.RowKit Go.Maps Go.BigFrame

theorem rs_of_own {w : World} {base b2 : Nat} {v : Value} {vs : List Value} {l : List (List Int)} (h : w.ownsRow base 24 1 v l.length vs) (hr : OwR w b2 vs l) (hl : ∀ t ∈ l, t.length * 8 ≤ 140737488351232) : Rs w v l := by
  have h2 := h
  rcases h2.2 with ⟨rfl, hn⟩ | ⟨g, cap, cur, rfl, hb, hg, hc, hm, hs, ht⟩
  · obtain rfl := List.eq_nil_of_length_eq_zero hn
    exact Row.nil (by simp [maxLen])
  · refine ⟨_, cap, rfl, hc, hm, fun _ => ⟨g, 0, rfl, (Array.getElem?_eq_some_iff.1 hg).1, fun k t hk => ?_⟩⟩
    have hlt : k < l.length := (List.getElem?_eq_some_iff.1 hk).1
    obtain ⟨u, hu⟩ : ∃ u, vs[k]? = some u := ⟨_, List.getElem?_eq_getElem (by rw [hr.1]; exact hlt)⟩
    refine ⟨hl t (List.mem_of_getElem? hk), u, ?_, (hr.2 k u t hu hk).is⟩
    rw [Nat.zero_add, Nat.mul_one, World.ownsRow.cellAt h k (by omega)]
    exact hu

theorem renG_length {σ : Type} (φ : σ → Int → Int × σ) : ∀ (t : List Int) (s : σ), (renG φ s t).1.length = t.length
  | [], s => rfl
  | c :: t, s => by
    unfold renG
    split
    · simp only [List.length_cons, renG_length φ t]
    · simp only [List.length_cons, renG_length φ t]

theorem canG_lens : ∀ (l : List (List Int)) (m : Met), (canG m l).map List.length = l.map List.length
  | [], _ => rfl
  | t :: l, m => by
    unfold canG
    rw [List.map_cons, List.map_cons, canG_lens l, renG_length]

theorem canL_length (l : List (List Int)) : (canL l).length = l.length := by
  have := congrArg List.length (canG_lens l [])
  simpa [canL] using this

/-- Rows of the same lengths are as small. -/
theorem lens_small {l k : List (List Int)} (h : k.map List.length = l.map List.length) (hl : ∀ t ∈ l, t.length * 8 ≤ 140737488351232) : ∀ t ∈ k, t.length * 8 ≤ 140737488351232 := by
  intro t ht
  have h1 : t.length ∈ k.map List.length := List.mem_map.2 ⟨t, ht, rfl⟩
  rw [h] at h1
  obtain ⟨u, hu, e⟩ := List.mem_map.1 h1
  rw [← e]
  exact hl u hu

theorem Rs.small {w : World} {v : Value} {l : List (List Int)} (h : Rs w v l) : ∀ t ∈ l, t.length * 8 ≤ 140737488351232 := fun t ht => by
  obtain ⟨ao, cap, rfl, _, _, hx⟩ := Row.flat h
  obtain ⟨k, hk, rfl⟩ := List.getElem_of_mem ht
  obtain ⟨g, off, x, _, hm, h3, _⟩ := hx k hk
  rw [List.getElem?_eq_getElem hk] at hm
  cases hm
  exact h3

theorem join_row (ty : TypeId) {w : World} {base n : Nat} {x u : Value} {vs : List Value} (ho : w.ownsRow base 24 1 x n vs) (hb : base ≤ w.heap.size) (hl : (n + 1) * 24 ≤ 140737488355328) (hu : u.oneCell' = true) :
    ∃ v' w', (Builtin.append_ #[61, 61] ty #[x, .slice (some ⟨w.heap.size, 0, none⟩) 1 1]).run Tryd.prog (w.alloc (.cells #[u] 24)) = .ok v' w' ∧ w'.ownsRow base 24 1 v' (n + 1) (vs ++ [u]) ∧ (w.alloc (.cells #[u] 24)).grownBy w' x.ownBlock := by
  obtain ⟨i1, hi1, hy0, hy1, hy2⟩ := info_parts info_ints
  obtain ⟨v', w', hr, h2, h3, _, _⟩ := run_append_own_at (P := Tryd.prog) (w.alloc (.cells #[u] 24)) base 61 ty 24 i1 _ 1 24 under_rows hi1 hy0 hy1 hy2 rfl (by decide) x n vs (ownsRow_later ho (below_alloc _)) ⟨w.heap.size, 0, none⟩ 1 1 [u] rfl
    (fun j y hj => by
      rw [Addr.add_lit, Nat.zero_add]
      cases j with
      | zero =>
        simp at hj
        subst hj
        exact cell_new rfl
      | succ j => simp at hj) (fun y hy => by simp at hy; subst hy; exact hu) (by unfold maxLen; omega) (by omega) (Nat.le_trans hb (below_alloc _).size)
  exact ⟨v', w', hr, h2, h3⟩

end Go.Proofs.YtcoaabgaolblfaaDoor

/- Rows that are spoilt; rows of one's own that lie apart. -/
namespace Go.Proofs.YtcoaabgaolblfaaDoor
open Go.RowKit Go.Maps Go.BigFrame

/-- One element more behind such a slice. -/
theorem append_spl (t ty e : TypeId) (i : TypeInfo) (z : Value) (bytes : Nat) (ht : Tryd.prog.underlying t = some (.slice e)) (hi : Tryd.prog.info? e = some i) (hz : i.zero = some z) (hsize : i.size = 1) (hby : i.bytes = bytes) (hzs : z.cells.size = 1)
    {w : World} {b T : Nat} {ao : Option Addr} {n cap : Nat} (h : RowS w b T e (.slice ao n cap) n) {ad : Addr} {c : Nat} {x : Value} (hx : w.cell? ad = some x) (h1 : x.oneCell' = true) (hbytes : (n + 1) * bytes ≤ 140737488355328) (hn : n + 1 ≤ maxLen) :
    ∃ g' cap' w', (Builtin.append_ #[t, t] ty #[.slice ao n cap, .slice (some ad) 1 c]).run Tryd.prog w = .ok (.slice (some ⟨g', 0, none⟩) (n + 1) cap') w' ∧ Shp w' g' e cap' ∧ n + 1 ≤ cap' ∧ cap' ≤ maxLen ∧
      ((b ≤ g' ∧ g' < T) ∨ w.heap.size ≤ g') ∧ Spl b T w w' ∧ ∀ (gp : Nat) (e' : TypeId) (m : Nat), Shp w gp e' m → e' ≠ e → w'.heap[gp]? = w.heap[gp]? := by
  have hnews : ∀ (j : Nat) (u : Value), [x][j]? = some u → w.cell? (ad.add j) = some u := fun j u hj => by
    cases j with
    | zero => simp at hj; subst hj; simpa [Addr.add] using hx
    | succ j => simp at hj
  have hone : ∀ u ∈ [x], u.oneCell' = true := fun u hu => by simp at hu; subst hu; exact h1
  have old : ∀ w', w.grownBy w' none → Spl b T w w' ∧ ∀ (gp : Nat) (e' : TypeId) (m : Nat), Shp w gp e' m → e' ≠ e → w'.heap[gp]? = w.heap[gp]? := fun w' hg => by
    have hbl : Below w.heap.size w w' := ⟨hg.os, hg.tape, hg.output, hg.size, fun k hk => hg.block k hk (by simp)⟩
    exact ⟨Spl.below hbl, fun gp e' m hs _ => hbl.block gp hs.lt⟩
  have new : ∀ (v' : Value) (w' : World) (xs : List Value), w'.ownsRow w.heap.size e 1 v' (n + 1) xs → ∃ g' cap', v' = .slice (some ⟨g', 0, none⟩) (n + 1) cap' ∧ Shp w' g' e cap' ∧ n + 1 ≤ cap' ∧ cap' ≤ maxLen ∧ w.heap.size ≤ g' := fun v' w' xs ho => by
    rcases ho.2 with ⟨_, h0⟩ | ⟨g, cap', cur, hv, hb, hg, hc, hm, hs, _⟩
    · omega
    · exact ⟨g, cap', hv, ⟨cur, hg, by omega⟩, hc, hm, hb⟩
  rcases h with ⟨hv, rfl⟩ | ⟨g, cap', hv, hb1, hb2, hsh, hc, hm⟩
  · rw [hv]
    obtain ⟨v', w', hr, ho, hg, _⟩ := run_append_own (P := Tryd.prog) w w.heap.size t ty e i z 1 bytes ht hi hz hsize hby hzs (by decide) (.slice none 0 0) 0 [] (World.ownsRow_nil w _ e 1) ad 1 c [x] rfl hnews hone (by unfold maxLen; omega) hbytes (Nat.le_refl _)
    obtain ⟨g', cap', rfl, hs', h2, h3, h4⟩ := new v' w' _ ho
    exact ⟨g', cap', w', hr, hs', h2, h3, .inr h4, (old w' hg).1, (old w' hg).2⟩
  · simp only [Value.slice.injEq, true_and] at hv
    obtain ⟨rfl, rfl⟩ := hv
    obtain ⟨cur, hg, hcs⟩ := hsh
    have hown : w.ownsRow b e 1 (.slice (some ⟨g, 0, none⟩) n cap) n (cur.toList.take n) := by
      refine ⟨by rw [List.length_take, Array.length_toList]; omega, .inr ⟨g, cap, cur, rfl, hb1, hg, hc, hm, by omega, by rw [Nat.mul_one]⟩⟩
    by_cases hroom : n + 1 ≤ cap
    · obtain ⟨w', hr, ho, hgr⟩ := run_append_own_spare (P := Tryd.prog) w b t ty e i 1 ht hi hsize g n cap _ hown ad 1 c [x] rfl hnews hone hroom
      have hs' : Shp w' g e cap := by
        rcases ho.2 with ⟨h0, _⟩ | ⟨g2, cap2, cur2, hv2, _, hg2, _, _, hs2, _⟩
        · cases h0
        · simp only [Value.slice.injEq, Option.some.injEq, Addr.mk.injEq, and_true, true_and] at hv2
          obtain ⟨rfl, rfl⟩ := hv2
          exact ⟨cur2, hg2, by omega⟩
      refine ⟨g, cap, w', hr, hs', hroom, hm, .inl ⟨hb1, hb2⟩, ⟨hgr.os, hgr.tape, hgr.output, hgr.size, fun k hk hbk => hgr.block k hk (by simp; omega), fun k e' m hk => ?_⟩, fun gp e' m hk hne => hgr.block gp hk.lt ?_⟩
      · by_cases hkg : k = g
        · subst hkg
          obtain ⟨cur3, hg3, hn3⟩ := hk
          rw [hg] at hg3
          simp only [Option.some.injEq, Obj.cells.injEq] at hg3
          obtain ⟨rfl, rfl, _⟩ := hg3
          rw [← hn3, hcs]
          exact hs'
        · have hlt := hk.lt
          obtain ⟨cur3, hg3, hn3⟩ := hk
          exact ⟨cur3, by rw [hgr.block k hlt (by simp; exact hkg)]; exact hg3, hn3⟩
      · have := hk.ne ⟨cur, hg, hcs⟩ hne
        simpa using this
    · obtain ⟨v', w', hr, ho, hgr⟩ := run_append_arg_grows (P := Tryd.prog) w t ty e i z 1 bytes ht hi hz hsize hby hzs (by decide) ⟨g, 0, none⟩ n cap (cur.toList.take n) (by rw [List.length_take, Array.length_toList]; omega) (fun j u hj => by
        have hj2 := (List.getElem?_eq_some_iff.1 hj).1
        rw [List.length_take, Array.length_toList] at hj2
        rw [Addr.add_lit, Nat.zero_add, cell_of_row _ _ _ _ _ _ hg]
        rw [List.getElem?_take_of_lt (by omega)] at hj
        simpa using hj) ad 1 c [x] rfl hnews (by omega) (by unfold maxLen at hn ⊢; omega) hbytes
      obtain ⟨g', cap', rfl, hs', h2, h3, h4⟩ := new v' w' _ ho
      exact ⟨g', cap', w', hr, hs', h2, h3, .inr h4, (old w' hgr).1, (old w' hgr).2⟩

theorem after_append {b t gp m : Nat} {e e' : TypeId} {w wn w4 wo : World} {o : Obj} (h : Spl b t w wn) (hg : wn.heap[gp]? = wo.heap[gp]?) (h4 : Spl b t (wn.alloc o) w4) (hk : ∀ (gp : Nat) (e' : TypeId) (m : Nat), Shp (wn.alloc o) gp e' m → e' ≠ e → w4.heap[gp]? = (wn.alloc o).heap[gp]?) (hs : Shp w gp e' m) (hne : e' ≠ e) :
    Spl b t w w4 ∧ w4.heap[gp]? = wo.heap[gp]? := by
  have h5 := h.trans (Spl.below (below_alloc o))
  refine ⟨h5.trans h4, ?_⟩
  rw [hk gp e' m (h5.shape _ _ _ hs) hne, (below_alloc o).block gp (h.shape _ _ _ hs).lt]
  exact hg

/-- Slices that lie in unlike blocks. -/
def Dis (v u : Value) : Prop := ∀ g, v.ownBlock = some g → u.ownBlock ≠ some g

theorem Dis.symm {v u : Value} (h : Dis v u) : Dis u v := fun g h1 h2 => h g h2 h1

theorem Dis.keep {v u : Value} (h : Dis v u) : v.ownBlock = none ∨ v.ownBlock ≠ u.ownBlock := by
  cases hv : v.ownBlock with
  | none => exact .inl rfl
  | some g => exact .inr fun e => h g hv e.symm

theorem own_blk_lt {w : World} {base : Nat} {e : TypeId} {s m j : Nat} {v : Value} {xs : List Value} (h : w.ownsRow base e s v m xs) (hj : v.ownBlock = some j) : j < w.heap.size := by
  rcases h.2 with ⟨rfl, _⟩ | ⟨g', cap, cur, rfl, hb, hg, _⟩
  · cases hj
  · cases hj
    exact (Array.getElem?_eq_some_iff.1 hg).1

theorem Dis.grow {w w2 : World} {base : Nat} {v u u' : Value} {xs : List Int} (h : Dis v u) (ho : OwI w base v xs) (hs : w.heap.size ≤ w2.heap.size) (hu : u'.ownBlock = u.ownBlock ∨ u'.ownBlock = some w2.heap.size) : Dis v u' := fun g h1 h2 => by
  rcases hu with hu | hu
  · rw [hu] at h2
    exact h g h1 h2
  · have := own_blk_lt ho.2 h1
    rw [hu] at h2
    cases h2
    omega

/-- A number joined to a row of one's own, with what becomes of its block. -/
theorem join_one (ty : TypeId) {w : World} {base : Nat} {x : Value} {xs : List Int} {c : Int} (ho : OwI w base x xs) (h1 : -9223372036854775808 ≤ c) (h2 : c ≤ 9223372036854775807) (hb : base ≤ w.heap.size) (hl : (xs.length + 1) * 8 ≤ 140737488355328) :
    ∃ v' w', (Builtin.append_ #[24, 24] ty #[x, .slice (some ⟨w.heap.size, 0, none⟩) 1 1]).run Tryd.prog (w.alloc (.cells #[.int .i64 c] 3)) = .ok v' w' ∧ OwI w' base v' (xs ++ [c]) ∧ (w.alloc (.cells #[.int .i64 c] 3)).grownBy w' x.ownBlock ∧ (v'.ownBlock = x.ownBlock ∨ v'.ownBlock = some (w.alloc (.cells #[.int .i64 c] 3)).heap.size) := by
  obtain ⟨i0, hi, hz0, hz1, hz2⟩ := info_parts info_int
  obtain ⟨v', w', hr, g2, g3, _, g5⟩ := run_append_own_at (P := Tryd.prog) (w.alloc (.cells #[.int .i64 c] 3)) base 24 ty 3 i0 _ 1 8 under_ints hi hz0 hz1 hz2 rfl (by decide) x xs.length (xs.map I64) (ownsRow_later ho.2 (below_alloc _)) ⟨w.heap.size, 0, none⟩ 1 1 [I64 c] rfl
    (fun j u hj => by
      rw [Addr.add_lit, Nat.zero_add]
      cases j with
      | zero => simp at hj; subst hj; exact cell_new rfl
      | succ j => simp at hj) (fun u hu => by simp at hu; subst hu; rfl) (by unfold maxLen; omega) (by omega) (Nat.le_trans hb (below_alloc _).size)
  refine ⟨v', w', hr, ⟨fun k y hk => ?_, ?_⟩, g3, g5⟩
  · by_cases hkl : k < xs.length
    · rw [List.getElem?_append_left hkl] at hk
      exact ho.1 k y hk
    · rw [List.getElem?_append_right (by omega)] at hk
      have hk0 : k - xs.length = 0 := by
        have := (List.getElem?_eq_some_iff.1 hk).1
        simp at this
        omega
      rw [hk0] at hk
      simp at hk
      subst hk
      exact ⟨h1, h2⟩
  · rw [List.length_append, List.map_append]
    exact g2

end Go.Proofs.YtcoaabgaolblfaaDoor

/- kidsOf walked. -/
namespace Go.Proofs.YtcoaabgaolblfaaDoor
open Go.RowKit Go.Maps

/-- The places of trees that stand one behind the other. -/
def kidsGo : Nat → List Tr → List Int
  | _, [] => []
  | p, t :: ts => (p : Int) :: kidsGo (p + t.size) ts

theorem kidsGo_app : ∀ (p : Nat) (a b : List Tr), kidsGo p (a ++ b) = kidsGo p a ++ kidsGo (p + sizes a) b
  | p, [], b => by simp [kidsGo, sizes]
  | p, t :: a, b => by simp only [List.cons_append, kidsGo, kidsGo_app (p + t.size) a b, sizes, Nat.add_assoc]

theorem kidsGo_len : ∀ (p : Nat) (a : List Tr), (kidsGo p a).length = a.length
  | _, [] => rfl
  | p, t :: a => by simp only [kidsGo, List.length_cons, kidsGo_len (p + t.size) a]

def kidsR (p : Nat) : Tr → List Int
  | .var => []
  | .app ts => kidsGo (p + 1) ts

end Go.Proofs.YtcoaabgaolblfaaDoor

/- Where the term at a place ends; endOf walked. -/
namespace Go.Proofs.YtcoaabgaolblfaaDoor
open Go.RowKit Go.Maps

/-- A part of a row. -/
theorem Is.mid {w : World} {b off cap k m : Nat} {t : List Int} (h : Is w (.slice (some ⟨b, off, none⟩) t.length cap) t) (hk : k < t.length) (hm : k + m ≤ t.length) : Is w (.slice (some ⟨b, off + k, none⟩) m (cap - k)) ((t.drop k).take m) := by
  obtain ⟨ao, cap', e, h1, h2, h3⟩ := h
  simp only [Value.slice.injEq, true_and] at e
  obtain ⟨rfl, rfl⟩ := e
  obtain ⟨g, o, e, hg, hE⟩ := h3 (by omega)
  simp only [Option.some.injEq, Addr.mk.injEq, and_true] at e
  obtain ⟨rfl, rfl⟩ := e
  have hl : ((t.drop k).take m).length = m := by rw [List.length_take, List.length_drop]; omega
  refine ⟨some ⟨b, off + k, none⟩, cap - k, by rw [hl], by omega, by omega, fun _ => ⟨b, off + k, rfl, hg, fun j x hj => ?_⟩⟩
  have hjl := (List.getElem?_eq_some_iff.1 hj).1
  rw [List.getElem?_take_of_lt (by omega), List.getElem?_drop] at hj
  have := hE (k + j) x hj
  rw [show off + k + j * 1 = off + (k + j) * 1 by omega]
  exact this

/-- What is found at a row's head is a right term by itself. -/
theorem first_take {sig : List Sy} : ∀ (r : List Int) (m : Int) (i : Nat) (n : Int), firstT sig m i r = (n, 0) → ∃ k : Nat, n = (i : Int) + k ∧ 1 ≤ k ∧ k ≤ r.length ∧ firstT sig m i (r.take k) = (n, 0)
  | [], m, i, n, h => by simp [firstT] at h
  | c :: r, m, i, n, h => by
    rw [firstT_cons] at h
    cases hc : codeD sig c with
    | none => rw [hc] at h; simp at h
    | some e =>
      rw [hc] at h
      simp only at h
      by_cases h0 : m + e = 0
      · rw [if_pos h0] at h
        refine ⟨1, ?_, Nat.le_refl _, by simp, ?_⟩
        · have := congrArg Prod.fst h
          simp only at this
          omega
        · rw [List.take_succ_cons, List.take_zero, firstT_cons, hc]
          simp only
          rw [if_pos h0]
          exact h
      · rw [if_neg h0] at h
        obtain ⟨k, h1, h2, h3, h4⟩ := first_take r (m + e) (i + 1) n h
        refine ⟨k + 1, by omega, by omega, by simp; omega, ?_⟩
        rw [List.take_succ_cons, firstT_cons, hc]
        simp only
        rw [if_neg h0]
        exact h4

/-- Where the term at a place ends, and what is wrong. -/
def endP (sig : List Sy) (t : List Int) (p : Int) : Int × Int := if p < 0 ∨ (t.length : Int) ≤ p then (0, 33) else (p + (firstT sig 1 0 (t.drop p.toNat)).1, (firstT sig 1 0 (t.drop p.toNat)).2)

theorem endP_ok {sig : List Sy} {t : List Int} {p n : Int} (h : endP sig t p = (n, 0)) : ∃ k m : Nat, p = k ∧ k < t.length ∧ 1 ≤ m ∧ n = ((k + m : Nat) : Int) ∧ k + m ≤ t.length ∧ rowE sig ((t.drop k).take m) = 0 := by
  unfold endP at h
  by_cases hp : p < 0 ∨ (t.length : Int) ≤ p
  · rw [if_pos hp] at h
    simp at h
  · rw [if_neg hp] at h
    obtain ⟨k, rfl⟩ : ∃ k : Nat, p = k := ⟨p.toNat, by omega⟩
    rw [Int.toNat_natCast] at h
    simp only [Prod.mk.injEq] at h
    obtain ⟨m, h1, h2, h3, h4⟩ := first_take (t.drop k) 1 0 (firstT sig 1 0 (t.drop k)).1 (Prod.ext rfl h.2)
    simp only [Int.natCast_zero, Int.zero_add] at h1
    rw [List.length_drop] at h3
    refine ⟨k, m, rfl, by omega, h2, by omega, by omega, ?_⟩
    rw [row_first, h4, List.length_take, List.length_drop]
    simp only [Prod.mk.injEq, and_true]
    rw [h1]
    omega

theorem first_rng {sig : List Sy} : ∀ (r : List Int) (m : Int) (i : Nat), 0 ≤ (firstT sig m i r).1 ∧ (firstT sig m i r).1 ≤ (i : Int) + r.length
  | [], m, i => by simp [firstT]
  | c :: r, m, i => by
    rw [firstT_cons]
    cases hc : codeD sig c with
    | none => simp; omega
    | some e =>
      simp only
      by_cases h0 : m + e = 0
      · rw [if_pos h0]; simp; omega
      · rw [if_neg h0]
        have := first_rng (sig := sig) r (m + e) (i + 1)
        simp only [List.length_cons]
        omega

end Go.Proofs.YtcoaabgaolblfaaDoor

/- What the path order knows of places; the small methods of package lpo. -/
namespace Go.Proofs.YtcoaabgaolblfaaDoor
open Go.RowKit Go.Maps Go.BigFrame

/-- What is known of each two places is so. -/
structure Kn (sig : List Sy) (ab : Int → Int → Bool) (s t : List Int) (L : List (Pl × Bool)) : Prop where
  nod : (L.map Prod.fst).Nodup
  grid : ∀ e ∈ L, ∃ i j : Nat, e.1 = ((i : Int), (j : Int)) ∧ i < s.length ∧ j < t.length
  ok : ∀ e ∈ L, ∀ (i j : Nat), e.1 = ((i : Int), (j : Int)) → ∀ x y, WfT sig x → WfT sig y → AtP s x i → AtP t y j → (e.2 = true ↔ LG ab x y)

theorem Kn.nil (sig : List Sy) (ab : Int → Int → Bool) (s t : List Int) : Kn sig ab s t [] := ⟨List.nodup_nil, fun e he => (by cases he), fun e he => (by cases he)⟩

theorem lookup_memL : ∀ {L : List (Pl × Bool)} {k : Pl} {b : Bool}, L.lookup k = some b → (k, b) ∈ L
  | (k', v) :: L, k, b, h => by
    rw [List.lookup_cons] at h
    cases hk : k == k' with
    | true =>
      rw [hk] at h
      cases h
      rw [beq_iff_eq] at hk
      subst hk
      exact .head _
    | false =>
      rw [hk] at h
      exact .tail _ (lookup_memL h)

theorem lookup_noneL {L : List (Pl × Bool)} {k : Pl} (h : L.lookup k = none) : ∀ e ∈ L, e.1 ≠ k := fun e he heq => by
  have := (List.lookup_eq_none_iff.1 h) e he
  rw [heq] at this
  simp at this

theorem nodup_lenN : ∀ {l l' : List Nat}, l.Nodup → (∀ x ∈ l, x ∈ l') → l.length ≤ l'.length
  | [], _, _, _ => Nat.zero_le _
  | x :: l, l', h, hs => by
    rw [List.nodup_cons] at h
    have hx := hs x (List.mem_cons_self ..)
    have ih := nodup_lenN (l := l) (l' := l'.erase x) h.2 (fun y hy => by
      have hne : y ≠ x := fun e => h.1 (e ▸ hy)
      exact (List.mem_erase_of_ne hne).2 (hs y (List.mem_cons_of_mem _ hy)))
    rw [List.length_erase_of_mem hx] at ih
    have := List.length_pos_of_mem hx
    rw [List.length_cons]
    omega

/-- No more is known than there are places. -/
theorem Kn.few {sig : List Sy} {ab : Int → Int → Bool} {s t : List Int} {L : List (Pl × Bool)} (h : Kn sig ab s t L) (hs : s.length ≤ 512) (ht : t.length ≤ 512) : L.length ≤ 262144 := by
  have h1 : ((L.map Prod.fst).map fun k : Pl => k.1.toNat * 512 + k.2.toNat).Nodup := by
    rw [List.nodup_iff_pairwise_ne, List.pairwise_map]
    refine List.Pairwise.imp_of_mem ?_ (List.nodup_iff_pairwise_ne.1 h.nod)
    intro a b ha hb hne he
    obtain ⟨e1, he1, rfl⟩ := List.mem_map.1 ha
    obtain ⟨e2, he2, rfl⟩ := List.mem_map.1 hb
    obtain ⟨i, j, q1, hi, hj⟩ := h.grid e1 he1
    obtain ⟨i', j', q2, hi', hj'⟩ := h.grid e2 he2
    rw [q1, q2] at he
    simp only [Int.toNat_natCast] at he
    refine hne ?_
    rw [q1, q2]
    have k1 : i = i' := by omega
    have k2 : j = j' := by omega
    rw [k1, k2]
  have h2 := nodup_lenN (l' := List.range 262144) h1 (fun x hx => by
    obtain ⟨k, hk, rfl⟩ := List.mem_map.1 hx
    obtain ⟨e, he, rfl⟩ := List.mem_map.1 hk
    obtain ⟨i, j, q1, hi, hj⟩ := h.grid e he
    rw [q1, List.mem_range]
    simp only [Int.toNat_natCast]
    omega)
  rw [List.length_map, List.length_map, List.length_range] at h2
  exact h2

theorem Kn.more {sig : List Sy} {ab : Int → Int → Bool} {s t : List Int} {L : List (Pl × Bool)} (h : Kn sig ab s t L) {i j : Nat} (hi : i < s.length) (hj : j < t.length) {x y : Te} (hx : WfT sig x) (hy : WfT sig y) (ax : AtP s x i) (ay : AtP t y j) {b : Bool} (hb : b = true ↔ LG ab x y) (hn : ∀ e ∈ L, e.1 ≠ ((i : Int), (j : Int))) : Kn sig ab s t (((( i : Int), (j : Int)), b) :: L) := by
  refine ⟨?_, fun e he => ?_, fun e he i' j' q x' y' hx' hy' ax' ay' => ?_⟩
  · rw [List.map_cons, List.nodup_cons]
    refine ⟨fun hm => ?_, h.nod⟩
    obtain ⟨e, he, q⟩ := List.mem_map.1 hm
    exact hn e he q
  · rcases List.mem_cons.1 he with rfl | he
    · exact ⟨i, j, rfl, hi, hj⟩
    · exact h.grid e he
  · rcases List.mem_cons.1 he with rfl | he
    · simp only [Prod.mk.injEq] at q
      have k1 : i = i' := by omega
      have k2 : j = j' := by omega
      subst k1
      subst k2
      rw [AtP.one hx' hx ax' ax, AtP.one hy' hy ay' ay]
      exact hb
    · exact h.ok e he i' j' q x' y' hx' hy' ax' ay'

theorem under_appL : Tryd.prog.underlying 88 = some (.pointer 109) := by kernel_rfl

theorem zero_appL : (Tryd.prog.info? 88).map (·.zero) = some (some (.pointer none)) := by kernel_rfl

theorem as_appL (v : Value) (xT : TypeId) (ok : Bool) (w : World) : (Instr.typeAssert (.iface 88 v) xT 88 ok).run Tryd.prog w = .ok (if ok then .tuple #[v, .bool true] else v) w := by
  simp [Instr.typeAssert, run_underlying under_appL, go_sem, Result.andThen]

theorem as_notL (v : Value) (xT : TypeId) (w : World) : (Instr.typeAssert (.iface 96 v) xT 88 true).run Tryd.prog w = .ok (.tuple #[.pointer none, .bool false]) w := by
  obtain ⟨i, hi, hz⟩ : ∃ i, Tryd.prog.info? 88 = some i ∧ i.zero = some (.pointer none) := by
    have h := zero_appL
    cases hi : Tryd.prog.info? 88 with
    | none => rw [hi] at h; cases h
    | some i => rw [hi] at h; exact ⟨i, rfl, by simpa using h⟩
  simp [Instr.typeAssert, run_underlying under_appL, go_sem, Result.andThen, zeroValue, typeInfo, hi, hz]

theorem as_varL (v : Value) (xT : TypeId) (ok : Bool) (w : World) : (Instr.typeAssert (.iface 96 v) xT 96 ok).run Tryd.prog w = .ok (if ok then .tuple #[v, .bool true] else v) w := by kernel_rfl

theorem as_novL (v : Value) (xT : TypeId) (w : World) : (Instr.typeAssert (.iface 88 v) xT 96 true).run Tryd.prog w = .ok (.tuple #[.agg #[.int .i64 0, .slice none 0 0], .bool false]) w := by kernel_rfl

/-- The codes of a tree. -/
theorem is_at {w : World} {b o c : Nat} {s : List Int} (h : Is w (.slice (some ⟨b, o, none⟩) s.length c) s) {x : Te} {i : Nat} (hx : AtP s x i) : Is w (cdL b o c i x.size) x.row := by
  have hl := hx.len
  have hp := size_pos x
  have h9 := Is.mid (k := i) (m := x.size) h (by omega) hl
  rw [hx.take] at h9
  exact h9

set_option maxHeartbeats 800000 in
theorem isVariableL_any (A : Nat → Prop) (b0 o0 c0 : Nat) (v : Value) (x : Te) (p : Nat) (w W : World) (h : TL w A (cdL b0 o0 c0) v x p) :
    Calls Tryd.prog 28 #[v] W fun e w' => e = .returned (.bool (match x with | .v _ => true | .a _ _ => false)) ∧ Below W.heap.size W w' := by
  cases x with
  | v c =>
    unfold TL cdL at h
    subst h
    have ha := as_varL
    go_enter Tryd.func28, Tryd.ntmps28
    go_wp2
    go_ret
    exact ⟨rfl, below_alloc _⟩
  | a c ts =>
    unfold TL at h
    obtain ⟨b, a, cap, rfl, _⟩ := h
    have ha := as_novL
    go_enter Tryd.func28, Tryd.ntmps28
    go_wp2
    go_ret
    exact ⟨rfl, below_alloc _⟩

end Go.Proofs.YtcoaabgaolblfaaDoor

/- The path order of package lpo: what it leans on. -/
namespace Go.Proofs.YtcoaabgaolblfaaDoor
open Go.RowKit Go.Maps Go.BigFrame

/-- Two terms as trees, a precedence and a map, in the world where the order is first asked. -/
structure Ord (sig : List Sy) (ps : List (Int × Int)) (s t : List Int) (A : Nat → Prop) (w : World) (mb : Nat) (pv : Value) (b0 o0 c0 b1 o1 c1 : Nat) : Prop where
  hs : Is w (.slice (some ⟨b0, o0, none⟩) s.length c0) s
  ht : Is w (.slice (some ⟨b1, o1, none⟩) t.length c1) t
  ls : s.length ≤ 512
  lt : t.length ≤ 512
  pc : Pc w pv ps
  mp : ∃ es clock, w.heap[mb]? = some (.map es clock)
  irr : ∀ x, ¬ LG (abB ps) x x
  abi : ∀ f, abB ps f f = false

theorem Ord.kp {sig : List Sy} {ps : List (Int × Int)} {s t : List Int} {A : Nat → Prop} {w W : World} {mb : Nat} {pv : Value} {b0 o0 c0 b1 o1 c1 : Nat} (h : Ord sig ps s t A w mb pv b0 o0 c0 b1 o1 c1) (hg : w.grownBy W (some mb)) : Kp w W := by
  obtain ⟨es, clock, hm⟩ := h.mp
  exact Kp.of_map hg hm

theorem Ord.pcW {sig : List Sy} {ps : List (Int × Int)} {s t : List Int} {A : Nat → Prop} {w W : World} {mb : Nat} {pv : Value} {b0 o0 c0 b1 o1 c1 : Nat} (h : Ord sig ps s t A w mb pv b0 o0 c0 b1 o1 c1) (hg : w.grownBy W (some mb)) : Pc W pv ps := by
  obtain ⟨g, T, rfl, h1, h2, h3⟩ := h.pc
  refine ⟨g, T, rfl, h1, ?_, h3⟩
  obtain ⟨es, clock, hm⟩ := h.mp
  have hg2 : w.heap[g]? = _ := h2
  unfold Tb at h2 ⊢
  rw [hg.block g (Array.getElem?_eq_some_iff.1 h2).1 (fun e => by cases e; rw [hm] at h2; cases h2)]
  exact h2

/-- What is known more is of places from i, j on. -/
def Nw (i j : Nat) (no : Bool) (L L' : List (Pl × Bool)) : Prop := ∀ x ∈ L', x ∈ L ∨ ((i : Int) ≤ x.1.1 ∧ (j : Int) ≤ x.1.2 ∧ (no = true → x.1 ≠ ((i : Int), (j : Int))))

theorem Nw.refl (i j : Nat) (no : Bool) (L : List (Pl × Bool)) : Nw i j no L L := fun _ h => .inl h

theorem Nw.step {i j i' j' : Nat} {L L' L'' : List (Pl × Bool)} (h : Nw i j true L L') (h' : Nw i' j' false L' L'') (h1 : i ≤ i') (h2 : j ≤ j') (h3 : i < i' ∨ j < j') : Nw i j true L L'' := fun x hx => by
  rcases h' x hx with hx | ⟨q1, q2, _⟩
  · exact h x hx
  · refine .inr ⟨by omega, by omega, fun _ e => ?_⟩
    rw [e] at q1 q2
    simp only at q1 q2
    omega

theorem Nw.join {i j : Nat} {L L' L'' : List (Pl × Bool)} (h : Nw i j true L L') (h' : Nw i j true L' L'') : Nw i j true L L'' := fun x hx => by
  rcases h' x hx with hx | h9
  · exact h x hx
  · exact .inr h9

/-- What a call of the order leaves: an answer; the map alone is written, with places from i, j on. -/
def OrdO (sig : List Sy) (ps : List (Int × Int)) (s t : List Int) (mb i j : Nat) (no : Bool) (L : List (Pl × Bool)) (B : Prop) (W : World) (e : Ending) (W' : World) : Prop :=
  ∃ b : Bool, e = .returned (.bool b) ∧ (b = true ↔ B) ∧ W.grownBy W' (some mb) ∧ ∃ L', MapL W' mb L' ∧ Kn sig (abB ps) s t L' ∧ Nw i j no L L'

/-- greater does what it must, for trees of so many nodes. -/
def GrOk (sig : List Sy) (ps : List (Int × Int)) (s t : List Int) (A : Nat → Prop) (w : World) (mb : Nat) (pv : Value) (b0 o0 c0 b1 o1 c1 : Nat) (n : Nat) : Prop :=
  ∀ (x y : Te) (i j : Nat) (vx vy : Value) (L : List (Pl × Bool)) (W : World), x.size + y.size ≤ n → WfT sig x → WfT sig y → AtP s x i → AtP t y j → TL w A (cdL b0 o0 c0) vx x i → TL w A (cdL b1 o1 c1) vy y j → w.grownBy W (some mb) → MapL W mb L → Kn sig (abB ps) s t L →
    Calls Tryd.prog 16 #[.agg #[pv, .map (some mb)], vx, vy] W (OrdO sig ps s t mb i j false L (LG (abB ps) x y) W)

theorem TL.kp {w w' : World} {A : Nat → Prop} {S : Nat → Nat → Value} {v : Value} {x : Te} {p : Nat} (h : TL w A S v x p) (hk : Kp w w') : TL w' A S v x p := h.keep (fun _ _ _ _ hx => hk.cell _ _ hx) (fun _ h => h)

set_option maxRecDepth 100000 in
set_option maxHeartbeats 1600000 in
theorem lpoSameD_any {A : Nat → Prop} {b0 o0 c0 b1 o1 c1 : Nat} {vx vy : Value} {x y : Te} {i j : Nat} {s t : List Int} (W : World) (hs : Is W (.slice (some ⟨b0, o0, none⟩) s.length c0) s) (ht : Is W (.slice (some ⟨b1, o1, none⟩) t.length c1) t)
    (ax : AtP s x i) (ay : AtP t y j) (tx : TL W A (cdL b0 o0 c0) vx x i) (ty : TL W A (cdL b1 o1 c1) vy y j) :
    Calls Tryd.prog 53 #[vx, vy] W fun e W' => e = .returned (.bool (decide (x.row = y.row))) ∧ Below W.heap.size W W' := by
  have hx := is_at hs ax
  have hy := is_at ht ay
  have HQ : Hid (∀ W', Below W.heap.size W W' → Calls Tryd.prog 64 #[cdL b0 o0 c0 i x.size, cdL b1 o1 c1 j y.size] W' fun e w' => e = .returned (.bool (decide (x.row = y.row))) ∧ Below W.heap.size W w') := fun W' hb =>
    (equalI_any _ _ x.row y.row W' (hx.kp (Kp.of_below hb)) (hy.kp (Kp.of_below hb))).mono fun e w' ⟨h1, n, h2⟩ => ⟨h1, below_step hb (drawn_below h2)⟩
  obtain ⟨B, hB⟩ : ∃ B, B = decide (x.row = y.row) := ⟨_, rfl⟩
  rw [← hB] at HQ ⊢
  clear hB hx hy hs ht ax ay
  have key : ∀ (v : Value) (z : Te) (p a o c : Nat) (W' : World), TL W' A (cdL a o c) v z p → (∃ q, v = .iface 96 (.agg #[q, cdL a o c p z.size])) ∨ ∃ g q, v = .iface 88 (.pointer (some ⟨g, 0, none⟩)) ∧ W'.cell? ⟨g, 0, none⟩ = some q ∧ W'.cell? ⟨g, 1, none⟩ = some (cdL a o c p z.size) := fun v z p a o c W' h => by
    cases z with
    | v c => unfold TL at h; exact .inl ⟨_, h⟩
    | a c ts => unfold TL at h; obtain ⟨g, _, _, h1, _, h2, h3, _⟩ := h; exact .inr ⟨g, _, h1, h2, h3⟩
  have kx := key vx x i b0 o0 c0 W tx
  have ky := key vy y j b1 o1 c1 W ty
  clear key tx ty
  rcases kx with ⟨q, rfl⟩ | ⟨g, q, rfl, hq0, hq1⟩
  · rcases ky with ⟨q', rfl⟩ | ⟨g', q', rfl, hr0, hr1⟩
    · go_enter Tryd.func53, Tryd.ntmps53
      go_wp2_with fail
      refine (nodeRow_any _ _ W).mono ?_
      rintro e w2 ⟨rfl, hb2⟩
      have HB2 := hid hb2
      clear hb2
      go_wp2_with fail
      refine (nodeRow_any _ _ w2).mono ?_
      rintro e w3 ⟨rfl, hb3⟩
      have HB3 := hid (below_step HB2.out hb3)
      clear hb3
      go_wp2_with fail
      refine (HQ.out w3 HB3.out).mono ?_
      rintro e w4 ⟨rfl, hb4⟩
      go_wp2
      go_ret
      exact ⟨rfl, hb4⟩
    · go_enter Tryd.func53, Tryd.ntmps53
      go_wp2_with fail
      refine (nodeRow_any _ _ W).mono ?_
      rintro e w2 ⟨rfl, hb2⟩
      have HB2 := hid hb2
      have hr2 := (Kp.of_below hb2).cell _ _ hr0
      have hr3 := (Kp.of_below hb2).cell _ _ hr1
      clear hb2
      go_wp2_with fail
      rw [run_rowA _ hr2 hr3]
      simp only [Result.andThen_ok]
      refine (nodeRow_any _ _ w2).mono ?_
      rintro e w3 ⟨rfl, hb3⟩
      have HB3 := hid (below_step HB2.out hb3)
      clear hb3
      go_wp2_with fail
      refine (HQ.out w3 HB3.out).mono ?_
      rintro e w4 ⟨rfl, hb4⟩
      go_wp2
      go_ret
      exact ⟨rfl, hb4⟩
  · rcases ky with ⟨q', rfl⟩ | ⟨g', q', rfl, hr0, hr1⟩
    · go_enter Tryd.func53, Tryd.ntmps53
      go_wp2_with fail
      rw [run_rowA _ hq0 hq1]
      simp only [Result.andThen_ok]
      refine (nodeRow_any _ _ W).mono ?_
      rintro e w2 ⟨rfl, hb2⟩
      have HB2 := hid hb2
      clear hb2
      go_wp2_with fail
      refine (nodeRow_any _ _ w2).mono ?_
      rintro e w3 ⟨rfl, hb3⟩
      have HB3 := hid (below_step HB2.out hb3)
      clear hb3
      go_wp2_with fail
      refine (HQ.out w3 HB3.out).mono ?_
      rintro e w4 ⟨rfl, hb4⟩
      go_wp2
      go_ret
      exact ⟨rfl, hb4⟩
    · go_enter Tryd.func53, Tryd.ntmps53
      go_wp2_with fail
      rw [run_rowA _ hq0 hq1]
      simp only [Result.andThen_ok]
      refine (nodeRow_any _ _ W).mono ?_
      rintro e w2 ⟨rfl, hb2⟩
      have HB2 := hid hb2
      have hr2 := (Kp.of_below hb2).cell _ _ hr0
      have hr3 := (Kp.of_below hb2).cell _ _ hr1
      clear hb2
      go_wp2_with fail
      rw [run_rowA _ hr2 hr3]
      simp only [Result.andThen_ok]
      refine (nodeRow_any _ _ w2).mono ?_
      rintro e w3 ⟨rfl, hb3⟩
      have HB3 := hid (below_step HB2.out hb3)
      clear hb3
      go_wp2_with fail
      refine (HQ.out w3 HB3.out).mono ?_
      rintro e w4 ⟨rfl, hb4⟩
      go_wp2
      go_ret
      exact ⟨rfl, hb4⟩

theorem lpoSame_any {A : Nat → Prop} {b0 o0 c0 b1 o1 c1 : Nat} {vx vy : Value} {x y : Te} {i j : Nat} {s t : List Int} {sig : List Sy} (W : World) (hs : Is W (.slice (some ⟨b0, o0, none⟩) s.length c0) s) (ht : Is W (.slice (some ⟨b1, o1, none⟩) t.length c1) t)
    (wx : WfT sig x) (wy : WfT sig y) (ax : AtP s x i) (ay : AtP t y j) (tx : TL W A (cdL b0 o0 c0) vx x i) (ty : TL W A (cdL b1 o1 c1) vy y j) :
    Calls Tryd.prog 53 #[vx, vy] W fun e W' => ∃ b : Bool, e = .returned (.bool b) ∧ (b = true ↔ x = y) ∧ Below W.heap.size W W' :=
  (lpoSameD_any W hs ht ax ay tx ty).mono fun e w' ⟨h1, h2⟩ => ⟨_, h1, by rw [decide_eq_true_iff]; exact ⟨fun h => wf_inj wx wy h, fun h => by rw [h]⟩, h2⟩

end Go.Proofs.YtcoaabgaolblfaaDoor

/- The path order of package lpo: its loops. -/
namespace Go.Proofs.YtcoaabgaolblfaaDoor
open Go.RowKit Go.Maps Go.BigFrame

theorem wf_kids {sig : List Sy} {c : Int} {ts : List Te} (h : WfT sig (.a c ts)) : ¬ c < 0 ∧ ts.length = arN sig c ∧ ∀ u ∈ ts, WfT sig u := by
  cases h with
  | a h1 h2 h3 => exact ⟨h1, h2, h3⟩

theorem kid_size {ts : List Te} {k : Nat} {u : Te} (hk : ts[k]? = some u) : sizeL (ts.take k) + u.size ≤ sizeL ts := by
  have h1 := sizeL_take ts (k + 1)
  rw [take_get hk, sizeL_app] at h1
  simp only [sizeL] at h1
  omega

section
variable {sig : List Sy} {ps : List (Int × Int)} {s t : List Int} {A : Nat → Prop} {w : World} {mb : Nat} {pv : Value} {b0 o0 c0 b1 o1 c1 : Nat}

theorem Ord.ptr (H : Ord sig ps s t A w mb pv b0 o0 c0 b1 o1 c1) : ∃ g, pv = .pointer (some ⟨g, 0, none⟩) := by
  obtain ⟨g, T, h, _⟩ := H.pc
  exact ⟨g, h⟩

set_option maxRecDepth 100000 in
set_option maxHeartbeats 3200000 in
theorem hasAtLeast_any (H : Ord sig ps s t A w mb pv b0 o0 c0 b1 o1 c1) {n : Nat} (HG : GrOk sig ps s t A w mb pv b0 o0 c0 b1 o1 c1 n) {c : Int} {ts : List Te} {y : Te} {i j : Nat} {ao : Option Addr} {cap : Nat} {vy : Value} {L : List (Pl × Bool)} (W : World)
    (hsz : (Te.a c ts).size + y.size ≤ n + 1) (wx : WfT sig (.a c ts)) (wy : WfT sig y) (ax : AtP s (.a c ts) i) (ay : AtP t y j) (ha : ts = [] ∨ ∃ g off, ao = some ⟨g, off, none⟩ ∧ A g ∧ TLs w A (cdL b0 o0 c0) g off ts (i + 1)) (_hc : ts.length ≤ cap) (_hcm : cap ≤ maxLen) (ty : TL w A (cdL b1 o1 c1) vy y j)
    (hg : w.grownBy W (some mb)) (hm : MapL W mb L) (hk : Kn sig (abB ps) s t L) :
    Calls Tryd.prog 43 #[.agg #[pv, .map (some mb)], .slice ao ts.length cap, vy] W (OrdO sig ps s t mb i j true L (∃ u ∈ ts, u = y ∨ LG (abB ps) u y) W) := by
  obtain ⟨pg, rfl⟩ := H.ptr
  have HH := hid H
  have HGr := hid HG
  have HWx := hid (wf_kids wx)
  have HWy := hid wy
  have HAx := hid ax
  have HAy := hid ay
  have HAa := hid ha
  have HTy := hid ty
  have hlen := len_sizeL ts
  simp only [Te.size] at hsz
  have hal := ax.len
  simp only [Te.size] at hal
  have hls := H.ls
  unfold maxLen at _hcm
  have HGw := hid (grown_trans hg (grown_of_below (below_alloc (w := W) (.cells #[.pointer (some ⟨pg, 0, none⟩), .map (some mb)] 49)) (some mb)))
  have HM := hid (hm.later (below_alloc (w := W) (.cells #[.pointer (some ⟨pg, 0, none⟩), .map (some mb)] 49)))
  have HK := hid hk
  have HB1 := hid (below_alloc (w := W) (.cells #[.pointer (some ⟨pg, 0, none⟩), .map (some mb)] 49))
  have hx0 : (W.alloc (.cells #[.pointer (some ⟨pg, 0, none⟩), .map (some mb)] 49)).cell? ⟨W.heap.size, 0, none⟩ = some (.pointer (some ⟨pg, 0, none⟩)) := by rw [cell_of_row _ _ _ _ _ _ (heap_alloc_new _ _)]; rfl
  have hx1 : (W.alloc (.cells #[.pointer (some ⟨pg, 0, none⟩), .map (some mb)] 49)).cell? ⟨W.heap.size, 1, none⟩ = some (.map (some mb)) := by rw [cell_of_row _ _ _ _ _ _ (heap_alloc_new _ _)]; rfl
  have HX0 := hid hx0
  have HX1 := hid hx1
  clear H HG wx wy ax ay ha ty hg hm hk hx0 hx1
  go_enter Tryd.func43, Tryd.ntmps43
  go_wp2
  generalize hW1 : W.alloc (.cells #[.pointer (some ⟨pg, 0, none⟩), .map (some mb)] 49) = W1 at HGw HM HB1 HX0 HX1 ⊢
  clear hW1
  go_loopw [11] (fun iv wr => ∃ (k : Nat) (L' : List (Pl × Bool)), k ≤ ts.length ∧ iv = .int .i64 k ∧ W1.grownBy wr (some mb) ∧ MapL wr mb L' ∧ Kn sig (abB ps) s t L' ∧ Nw i j true L L' ∧ ∀ u ∈ ts.take k, ¬ (u = y ∨ LG (abB ps) u y)) (fun iv _ => ts.length - (intOf iv).toNat)
  case atStart => exact ⟨0, L, Nat.zero_le _, rfl, World.grownBy.refl _ _, HM.out, HK.out, Nw.refl _ _ _ _, fun u hu => by simp at hu⟩
  case round =>
    obtain ⟨k, L', hkl, rfl, hgr, hmr, hkr, hnw, hall⟩ := hrel
    have HGr1 := hid hgr
    have HMr := hid hmr
    have HKr := hid hkr
    have HNw := hid hnw
    have HAll := hid hall
    have HGw2 := hid (grown_trans HGw.out hgr)
    clear hgr hmr hkr hnw hall
    by_cases hlt : k < ts.length
    · obtain ⟨u, hu⟩ : ∃ u, ts[k]? = some u := ⟨_, List.getElem?_eq_getElem hlt⟩
      obtain ⟨g, off, rfl, hAg, hts⟩ := HAa.out.resolve_left (fun e => by rw [e] at hlt; simp at hlt)
      obtain ⟨vu, hcl, htu⟩ := hts.get hu
      have HU := hid hu
      have hks := kid_size hu
      have hkp := HH.out.kp HGw2.out
      have hcl2 := hkp.cell _ _ hcl
      have HTu := hid htu
      have HAu := hid (HAx.out.kid hu)
      have HWu := hid (HWx.out.2.2 u (List.mem_of_getElem? hu))
      have HSame := hid (lpoSame_any (A := A) wr (HH.out.hs.kp hkp) (HH.out.ht.kp hkp) HWu.out HWy.out HAu.out HAy.out (htu.kp hkp) (HTy.out.kp hkp))
      have hm1 := (Kp.of_map HGr1.out HM.out.isMap.choose_spec.choose_spec).cell _ _ HX0.out
      have hm2 := (Kp.of_map HGr1.out HM.out.isMap.choose_spec.choose_spec).cell _ _ HX1.out
      clear hu hcl hts htu hkp
      go_wp2_with fail
      refine HSame.out.mono ?_
      rintro e w2 ⟨b, rfl, hb, hb2⟩
      cases b with
      | true =>
        have HE := hid (hb.1 rfl)
        have HB2 := hid hb2
        clear hb hb2
        go_wp2
        go_ret
        refine ⟨true, rfl, ⟨fun _ => ⟨u, List.mem_of_getElem? HU.out, .inl HE.out⟩, fun _ => rfl⟩, ?_, L', HMr.out.later HB2.out, HKr.out, HNw.out⟩
        exact grown_trans (grown_trans (grown_of_below HB1.out (some mb)) HGr1.out) (grown_of_below HB2.out (some mb))
      | false =>
        have HE : Hid (¬ u = y) := fun h => by have := hb.2 h; cases this
        have HB2 := hid hb2
        have hn1 := (Kp.of_below hb2).cell _ _ hm1
        have hn2 := (Kp.of_below hb2).cell _ _ hm2
        have HCall := hid (HGr.out u y (i + 1 + sizeL (ts.take k)) j vu vy L' w2 (by omega) HWu.out HWy.out HAu.out HAy.out HTu.out HTy.out (grown_trans HGw2.out (grown_of_below hb2 (some mb))) (HMr.out.later hb2) HKr.out)
        clear hb hb2 hm1 hm2
        go_wp2_with fail
        refine HCall.out.mono ?_
        rintro e w3 ⟨b, rfl, hb, hg3, L3, hm3, hk3, hn3⟩
        have HG3 := hid (grown_trans HGr1.out (grown_trans (grown_of_below HB2.out (some mb)) hg3))
        have HM3 := hid hm3
        have HK3 := hid hk3
        have HN3 := hid (HNw.out.step hn3 (by omega) (Nat.le_refl j) (.inl (by omega)))
        clear hg3 hm3 hk3 hn3
        cases b with
        | true =>
          have HE2 := hid (hb.1 rfl)
          clear hb
          go_wp2
          go_ret
          exact ⟨true, rfl, ⟨fun _ => ⟨u, List.mem_of_getElem? HU.out, .inr HE2.out⟩, fun _ => rfl⟩, grown_trans (grown_of_below HB1.out (some mb)) HG3.out, L3, HM3.out, HK3.out, HN3.out⟩
        | false =>
          have HE2 : Hid (¬ LG (abB ps) u y) := fun h => by have := hb.2 h; cases this
          clear hb
          go_wp2
          go_roundw
          case rel =>
            refine ⟨k + 1, L3, by omega, by go_num, HG3.out, HM3.out, HK3.out, HN3.out, fun z hz => ?_⟩
            rw [take_get HU.out, List.mem_append, List.mem_singleton] at hz
            rcases hz with hz | rfl
            · exact HAll.out z hz
            · exact fun h => h.elim HE.out HE2.out
          case measure => simp [intOf]; omega
    · have hke : k = ts.length := by omega
      go_wp2
      go_ret
      refine ⟨false, rfl, ⟨fun h => (by cases h), fun ⟨u, hu, h⟩ => absurd h (HAll.out u (by rw [hke, List.take_length]; exact hu))⟩, grown_trans (grown_of_below HB1.out (some mb)) HGr1.out, L', HMr.out, HKr.out, HNw.out⟩

end

end Go.Proofs.YtcoaabgaolblfaaDoor
