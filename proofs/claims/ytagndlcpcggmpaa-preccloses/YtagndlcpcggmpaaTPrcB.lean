/- Tables of bits in memory; two of them held against each other. -/
import Derived.Test.YtagndlcpcggmpaaTPrcA
import Derived.ChangeKeysEq
namespace Go.Proofs.Ytagndlcpcggmpaa
open Go.RowKit Go.Maps

/-- A table's cells. -/
def cellsT (T : List Nat) : Array Value := (T.map U64).toArray

theorem cellsT_size (T : List Nat) : (cellsT T).size = T.length := by simp [cellsT]

theorem cellsT_get (T : List Nat) (k : Nat) : (cellsT T)[k]? = (T[k]?).map U64 := by simp [cellsT]

theorem cellsT_one (T : List Nat) : (cellsT T).all (·.oneCell') = true := by
  rw [Array.all_eq_true_iff_forall_mem]
  intro v hv
  simp only [cellsT, List.mem_toArray, List.mem_map] at hv
  obtain ⟨x, _, rfl⟩ := hv
  rfl

theorem cellsT_inj {T W : List Nat} (h : cellsT T = cellsT W) : T = W := by
  unfold cellsT at h
  have h2 := congrArg Array.toList h
  simp only at h2
  apply List.ext_getElem?
  intro k
  have := congrArg (·[k]?) h2
  simp only [List.getElem?_map] at this
  cases h1 : T[k]? <;> cases h3 : W[k]? <;> rw [h1, h3] at this <;> simp [U64] at this <;> first | rfl | (congr 1; omega)

/-- Block g holds a table (as a block of type t). -/
def Tb (t : TypeId) (w : World) (g : Nat) (T : List Nat) : Prop := w.heap[g]? = some (.cells (cellsT T) t (0, 0))

theorem Tb.lt {t : TypeId} {w : World} {g : Nat} {T : List Nat} (h : Tb t w g T) : g < w.heap.size := (Array.getElem?_eq_some_iff.1 h).1

theorem Tb.below {t : TypeId} {w w' : World} {B g : Nat} {T : List Nat} (h : Tb t w g T) (hb : Below B w w') (hg : g < B) : Tb t w' g T := (hb.block g hg).trans h

theorem Tb.later {t : TypeId} {w w' : World} {g : Nat} {T : List Nat} (h : Tb t w g T) (hb : Below w.heap.size w w') : Tb t w' g T := h.below hb h.lt

theorem Tb.cell {t : TypeId} {w : World} {g : Nat} {T : List Nat} (h : Tb t w g T) {k x : Nat} (hk : T[k]? = some x) : w.cell? ⟨g, k, none⟩ = some (.int .u64 (x : Int)) := by
  rw [cell_of_row w g k _ _ _ h, cellsT_get, hk]
  rfl

theorem Tb.frozen {t : TypeId} {w : World} {g : Nat} {T : List Nat} (h : Tb t w g T) (k : Nat) : w.frozen? ⟨g, k, none⟩ = false := frozen_of_row w g k _ _ h

theorem Tb.set {t : TypeId} {w : World} {g : Nat} {T : List Nat} (h : Tb t w g T) (k x : Nat) : Tb t (w.setCell ⟨g, k, none⟩ (.int .u64 (x : Int))) g (T.set k x) := by
  unfold Tb at h ⊢
  rw [heap_setCell_same w g k _ _ _ h]
  congr 2
  simp [cellsT, List.map_set, U64]

theorem Tb.setOther {t : TypeId} {w : World} {g g' k : Nat} {T : List Nat} {v : Value} (h : Tb t w g T) (hne : g ≠ g') : Tb t (w.setCell ⟨g', k, none⟩ v) g T := (heap_setCell_other _ _ _ _ hne).trans h

theorem Tb.setRowOther {t : TypeId} {w : World} {g g' : Nat} {T : List Nat} {cs : Array Value} (h : Tb t w g T) (hne : g ≠ g') : Tb t (w.setRow g' cs) g T := (setRow_other w g' g cs hne).trans h

theorem info_table : (Try.prog.info? 43).map (·.size) = some 256 := by kernel_rfl

theorem under_table : Try.prog.underlying 43 = some (.array 128 41) := by kernel_rfl

theorem cells_row : Try.prog.cellsOf 41 = 2 := by kernel_rfl

theorem cells_u64 : Try.prog.cellsOf 39 = 1 := by kernel_rfl

theorem under_u64 : Try.prog.underlying 39 = some (.int .u64) := by kernel_rfl

theorem has_info {t : TypeId} {n : Nat} (h : (Try.prog.info? t).map (·.size) = some n) : ∃ i, Try.prog.info? t = some i := by
  cases hi : Try.prog.info? t with
  | none => rw [hi] at h; cases h
  | some i => exact ⟨i, rfl⟩

theorem info_u64 : (Try.prog.info? 39).map (·.size) = some 1 := by kernel_rfl

theorem run_part_u64 (w : World) (cs : Array Value) (k x : Nat) (h : cs[k]? = some (U64 x)) : (part 39 cs k).run Try.prog w = .ok (U64 x) w := by
  simp [part, isAgg, Sem.run_bind, run_underlying under_u64 w, h]

theorem run_part_row (w : World) (T : List Nat) (k x y : Nat) (h : T[k]? = some x) (h2 : T[k + 1]? = some y) : (part 41 (cellsT T) k).run Try.prog w = .ok (rowV x y) w := by
  obtain ⟨i, hi⟩ := has_info info_row
  have hs := run_sizeOf (P := Try.prog) w hi
  rw [cells_row] at hs
  have he : (cellsT T).extract k (k + 2) = #[U64 x, U64 y] := by
    apply Array.ext'
    unfold cellsT
    rw [List.extract_toArray]
    simp only [List.extract_eq_take_drop, Nat.add_sub_cancel_left]
    rw [← List.map_drop, drop_get h, drop_get h2]
    rfl
  simp [part, isAgg, Sem.run_bind, run_underlying under_row w, he, rowV]

theorem run_equal_row (w : World) (d a b c e : Nat) : (Op.equalIn (d + 2) 41 (rowV a b) (rowV c e)).run Try.prog w = .ok (decide (a = c ∧ b = e)) w := by
  obtain ⟨i, hi⟩ := has_info info_u64
  unfold rowV
  rw [run_equalIn_array w (d + 1) _ _ under_row hi, cells_u64]
  have h0 := run_part_u64 w #[U64 a, U64 b] 0 a rfl
  have h1 := run_part_u64 w #[U64 a, U64 b] 1 b rfl
  have h2 := run_part_u64 w #[U64 c, U64 e] 0 c rfl
  have h3 := run_part_u64 w #[U64 c, U64 e] 1 e rfl
  have h4 : (Op.equalIn (d + 1) 39 (U64 a) (U64 c)).run Try.prog w = .ok (decide (a = c)) w := by
    unfold U64
    rw [run_equalIn_int w d _ _ .u64 _ _ under_u64]
    congr 1
    rw [Bool.eq_iff_iff]
    simp only [beq_iff_eq, decide_eq_true_eq]
    omega
  have h5 : (Op.equalIn (d + 1) 39 (U64 b) (U64 e)).run Try.prog w = .ok (decide (b = e)) w := by
    unfold U64
    rw [run_equalIn_int w d _ _ .u64 _ _ under_u64]
    congr 1
    rw [Bool.eq_iff_iff]
    simp only [beq_iff_eq, decide_eq_true_eq]
    omega
  show (Op.eqItems (d + 1) 39 1 #[U64 a, U64 b] #[U64 c, U64 e] [0, 1]).run Try.prog w = _
  simp only [Op.eqItems, Sem.run_bind, Nat.zero_mul, Nat.one_mul, h0, h2, h4, Result.andThen_ok]
  by_cases x : a = c
  · subst x
    by_cases y : b = e
    · subst y
      simp [h1, h5]
    · simp [h1, h3, h5, y]
  · simp [x]

theorem run_eqItems_tab (w : World) (d : Nat) {T W : List Nat} (hT : T.length = 256) (hW : W.length = 256) : ∀ (is : List Nat), (∀ i ∈ is, i < 128) →
    ∃ r : Bool, (Op.eqItems (d + 2) 41 2 (cellsT T) (cellsT W) is).run Try.prog w = .ok r w ∧ (r = true ↔ ∀ i ∈ is, T[i * 2]? = W[i * 2]? ∧ T[i * 2 + 1]? = W[i * 2 + 1]?)
  | [], _ => ⟨true, by simp [Op.eqItems], by simp⟩
  | i :: is, h => by
    have hi : i < 128 := h i (List.mem_cons_self ..)
    obtain ⟨r', hr', hiff⟩ := run_eqItems_tab w d hT hW is (fun j hj => h j (List.mem_cons_of_mem _ hj))
    have a1 : T[i * 2]? = some T[i * 2] := List.getElem?_eq_getElem (by omega)
    have a2 : T[i * 2 + 1]? = some T[i * 2 + 1] := List.getElem?_eq_getElem (by omega)
    have b1 : W[i * 2]? = some W[i * 2] := List.getElem?_eq_getElem (by omega)
    have b2 : W[i * 2 + 1]? = some W[i * 2 + 1] := List.getElem?_eq_getElem (by omega)
    have e1 := run_part_row w T (i * 2) _ _ a1 a2
    have e2 := run_part_row w W (i * 2) _ _ b1 b2
    have e3 := run_equal_row w d T[i * 2] T[i * 2 + 1] W[i * 2] W[i * 2 + 1]
    simp only [Op.eqItems, Sem.run_bind, e1, e2, e3, Result.andThen_ok]
    by_cases hc : T[i * 2] = W[i * 2] ∧ T[i * 2 + 1] = W[i * 2 + 1]
    · refine ⟨r', by simpa [hc] using hr', ?_⟩
      rw [hiff]
      simp only [List.mem_cons, forall_eq_or_imp, a1, a2, b1, b2, hc, and_self, true_and]
    · refine ⟨false, by simp [hc], ?_⟩
      simp only [List.mem_cons, forall_eq_or_imp, a1, a2, b1, b2, Option.some.injEq, hc, false_and, Bool.false_eq_true]

theorem run_eql_tab (w : World) {T W : List Nat} (hT : T.length = 256) (hW : W.length = 256) : (binOp .eql 43 (.agg (cellsT T)) (.agg (cellsT W))).run Try.prog w = .ok (.bool (decide (T = W))) w := by
  obtain ⟨i, hi⟩ := has_info info_row
  obtain ⟨r, hr, hiff⟩ := run_eqItems_tab w 9997 hT hW (List.range 128) (fun i hi => List.mem_range.1 hi)
  rw [run_eql_struct, run_equalIn_array w 9999 _ _ under_table hi, cells_row, hr]
  simp only [Result.andThen_ok]
  congr 2
  rw [Bool.eq_iff_iff, hiff, decide_eq_true_iff]
  constructor
  · intro h
    apply List.ext_getElem?
    intro k
    by_cases hk : k < 256
    · have := h (k / 2) (List.mem_range.2 (by omega))
      rcases (show k = k / 2 * 2 ∨ k = k / 2 * 2 + 1 by omega) with e | e
      · rw [e]; exact this.1
      · rw [e]; exact this.2
    · rw [List.getElem?_eq_none (by omega), List.getElem?_eq_none (by omega)]
  · rintro rfl i _
    exact ⟨rfl, rfl⟩

end Go.Proofs.Ytagndlcpcggmpaa
