/- package prec: hasCycle, Above. -/
import Derived.Test.YtagndlcpcggmpaaTPrcC
namespace Go.Proofs.Ytagndlcpcggmpaa
open Go.RowKit Go.Maps

theorem run_index_tab (w : World) {T : List Nat} {f a b : Nat} (hf : f < 128) (h1 : T[f * 2]? = some a) (h2 : T[f * 2 + 1]? = some b) : (Instr.index 43 (.agg (cellsT T)) (.int .i64 (f : Int))).run Try.prog w = .ok (rowV a b) w := by
  obtain ⟨i, hi⟩ := has_info info_row
  have hs := run_sizeOf (P := Try.prog) w hi
  rw [cells_row] at hs
  have hp := run_part_row w T (f * 2) a b h1 h2
  simp [Instr.index, asIntOf, Sem.run_bind, run_underlying under_table w, hs, hp]
  intro h
  omega

/-- Whether a symbol is above itself. -/
def cycB (T : List Nat) (k : Nat) : Bool := (List.range k).any fun i => hasN T i i

theorem cycB_step (T : List Nat) (k : Nat) : cycB T (k + 1) = (cycB T k || hasN T k k) := by
  unfold cycB
  rw [List.range_succ, List.any_append]
  simp

theorem cycB_iff (T : List Nat) : cycB T 128 = true ↔ ∃ i, TR T i i := by
  unfold cycB
  simp only [List.any_eq_true, List.mem_range]
  exact ⟨fun ⟨i, h1, h2⟩ => ⟨i, h1, h1, h2⟩, fun ⟨i, h1, _, h2⟩ => ⟨i, h1, h2⟩⟩

set_option maxRecDepth 100000 in
set_option maxHeartbeats 1600000 in
theorem hasCycle_any (T : List Nat) (w : World) (hT : Tab T) :
    Calls Try.prog 17 #[.agg (cellsT T)] w fun e w' => e = .returned (.bool (cycB T 128)) ∧ Below w.heap.size w w' := by
  have H1 : Hid (Tb 43 (w.alloc (.cells (cellsT T) 43)) w.heap.size T) := heap_alloc_new _ _
  have HT : Hid (Tab T) := hT
  clear hT
  go_enter Try.func17, Try.ntmps17
  go_wp2_with (first
    | (refine wpList_load_row rfl _ _ rfl w.heap.size rfl _ _ _ _ H1.out under_table rfl (by rw [info_table, cellsT_size, HT.out.len]) ?_))
  go_loopw [6] (fun i wr => ∃ k : Nat, k ≤ 128 ∧ i = .int .i64 k ∧ cycB T k = false ∧ Below w.heap.size w wr) (fun i _ => 128 - (intOf i).toNat)
  case atStart => exact ⟨0, by omega, rfl, rfl, below_alloc _⟩
  case round =>
    obtain ⟨k, hk, rfl, hc, hbl⟩ := hrel
    have HB : Hid (Below w.heap.size w wr) := hbl
    have HC : Hid (cycB T k = false) := hc
    clear hbl hc
    by_cases hk2 : k < 128
    · obtain ⟨a, ha, ha2⟩ := HT.out.get (k := k * 2) (by omega)
      obtain ⟨b, hb, hb2⟩ := HT.out.get (k := k * 2 + 1) (by omega)
      have hix := fun w => run_index_tab w hk2 ha hb
      have HR : Hid (rowHas a b k = hasN T k k) := hasN_row hk2 ha hb
      clear ha hb
      unfold rowV U64 at hix
      go_wp2_with fail
      have hbl2 : Below w.heap.size w (wr.alloc (.cells #[U64 a, U64 b] 41)) := HB.out.trans ((below_alloc _).mono HB.out.size)
      refine (has_any a b k _ ha2 hb2 hk2).mono ?_
      rintro e w2 ⟨rfl, hb3⟩
      have HB2 : Hid (Below w.heap.size w w2) := hbl2.trans (hb3.mono hbl2.size)
      clear hb3 hbl2
      rw [HR.out]
      cases hh : hasN T k k with
      | false =>
        go_wp2
        go_roundw
        case rel => exact ⟨k + 1, by omega, by go_num, by rw [cycB_step, HC.out, hh]; rfl, HB2.out⟩
        case measure => simp [intOf]; omega
      | true =>
        go_wp2
        go_ret
        refine ⟨ret1b (Eq.symm ?_), HB2.out⟩
        unfold cycB
        exact List.any_eq_true.2 ⟨k, List.mem_range.2 hk2, hh⟩
    · obtain rfl : k = 128 := by omega
      go_wp2
      go_ret
      exact ⟨ret1b HC.out.symm, HB.out⟩

/-- A precedence of these pairs. -/
def Pc (w : World) (v : Value) (ps : List (Int × Int)) : Prop := ∃ g T, v = .pointer (some ⟨g, 0, none⟩) ∧ Tab T ∧ Tb 47 w g T ∧ ∀ i j, TR T i j ↔ Up ps i j

theorem Pc.later {w w' : World} {v : Value} {ps : List (Int × Int)} (h : Pc w v ps) (hb : Below w.heap.size w w') : Pc w' v ps := by
  obtain ⟨g, T, hv, h1, h2, h3⟩ := h
  exact ⟨g, T, hv, h1, h2.later hb, h3⟩

theorem Pc.same {w : World} {v : Value} {ps qs : List (Int × Int)} (h : Pc w v ps) (hs : ∀ x, x ∈ ps ↔ x ∈ qs) : Pc w v qs := by
  obtain ⟨g, T, hv, h1, h2, h3⟩ := h
  exact ⟨g, T, hv, h1, h2, fun i j => (h3 i j).trans (Up.same hs i j)⟩

theorem abB_no {ps : List (Int × Int)} {f g : Int} {T : List Nat} (h : ∀ i j, TR T i j ↔ Up ps i j) (hn : ¬ (0 ≤ f ∧ f < 128 ∧ 0 ≤ g ∧ g < 128)) : abB ps f g = false := by
  rw [Bool.eq_false_iff]
  intro hh
  rw [abB_iff] at hh
  obtain ⟨h1, h2, h3⟩ := hh
  have := (h _ _).2 h3
  have h4 := this.1
  have h5 := this.2.1
  omega

theorem abB_tab {ps : List (Int × Int)} {T : List Nat} (h : ∀ i j, TR T i j ↔ Up ps i j) {f g : Nat} (hf : f < 128) (hg : g < 128) : abB ps (f : Int) (g : Int) = hasN T f g := by
  rw [Bool.eq_iff_iff, abB_nat, ← h]
  exact ⟨fun x => x.2.2, fun x => ⟨hf, hg, x⟩⟩

set_option maxRecDepth 100000 in
theorem above_any (ps : List (Int × Int)) (v : Value) (f g : Int) (w : World) (h : Pc w v ps) :
    Calls Try.prog 11 #[v, .int .i64 f, .int .i64 g] w fun e w' => e = .returned (.bool (abB ps f g)) ∧ Below w.heap.size w w' := by
  obtain ⟨b, T, rfl, hT, hb, hu⟩ := h
  have HU : Hid (∀ i j, TR T i j ↔ Up ps i j) := hu
  have HB : Hid (Tb 47 w b T) := hb
  clear hu hb
  by_cases h1 : 0 ≤ f ∧ f < 128
  · have e1 : decide (0 ≤ f ∧ f < 128) = true := by simp [h1]
    by_cases h2 : 0 ≤ g ∧ g < 128
    · have e2 : decide (0 ≤ g ∧ g < 128) = true := by simp [h2]
      obtain ⟨f, rfl⟩ := Int.eq_ofNat_of_zero_le h1.1
      obtain ⟨g, rfl⟩ := Int.eq_ofNat_of_zero_le h2.1
      have hf : f < 128 := by omega
      have hg : g < 128 := by omega
      have hfi : (f : Int) < 128 := by omega
      obtain ⟨x, hx, hx2⟩ := hT.get (k := f * 2) (by omega)
      obtain ⟨y, hy, hy2⟩ := hT.get (k := f * 2 + 1) (by omega)
      have c1 := HB.out.cell hx
      have c2 := HB.out.cell hy
      have HR : Hid (rowHas x y g = abB ps (f : Int) (g : Int)) := (hasN_row hg hx hy).trans (abB_tab HU.out hf hg).symm
      have E1 := hidP e1
      have E2 := hidP e2
      clear hx hy e1 e2 hT h1 h2
      go_enter Try.func11, Try.ntmps11
      go_wp2_with fail
      refine (isSymbol_any 128 f w).mono ?_
      rintro e w2 ⟨rfl, hw2⟩
      subst hw2
      rw [E1.out]
      go_wp2_with fail
      refine (isSymbol_any 128 g w2).mono ?_
      rintro e w3 ⟨rfl, hw3⟩
      subst hw3
      rw [E2.out]
      go_wp2_with fail
      refine (has_any x y g w3 hx2 hy2 hg).mono ?_
      rintro e w4 ⟨rfl, hb4⟩
      go_wp2
      go_ret
      exact ⟨ret1b HR.out, hb4⟩
    · have E1 := hidP e1
      have E2 : Hid (decide (0 ≤ g ∧ g < 128) = false) := by simp only [decide_eq_false_iff_not]; exact h2
      have HR : Hid (abB ps f g = false) := abB_no HU.out (by omega)
      clear e1 h1 h2 hT
      go_enter Try.func11, Try.ntmps11
      go_wp2_with fail
      refine (isSymbol_any 128 f w).mono ?_
      rintro e w2 ⟨rfl, hw2⟩
      subst hw2
      rw [E1.out]
      go_wp2_with fail
      refine (isSymbol_any 128 g w2).mono ?_
      rintro e w3 ⟨rfl, hw3⟩
      subst hw3
      rw [E2.out]
      go_wp2
      go_ret
      exact ⟨ret1b HR.out.symm, Below.refl _ _⟩
  · have E1 : Hid (decide (0 ≤ f ∧ f < 128) = false) := by simp only [decide_eq_false_iff_not]; exact h1
    have HR : Hid (abB ps f g = false) := abB_no HU.out (by omega)
    clear h1 hT
    go_enter Try.func11, Try.ntmps11
    go_wp2_with fail
    refine (isSymbol_any 128 f w).mono ?_
    rintro e w2 ⟨rfl, hw2⟩
    subst hw2
    rw [E1.out]
    go_wp2
    go_ret
    exact ⟨ret1b HR.out.symm, Below.refl _ _⟩

end Go.Proofs.Ytagndlcpcggmpaa
