/- one of the law file, and small rows in memory. -/
import Derived.Test.YtfifgmcjilkigaaPRefB
namespace Go.Proofs.Ytfifgmcjilkigaa
open Go.RowKit Go.Maps

theorem sl_one {w : World} {g : Nat} (h : w.cell? ⟨g, 0, none⟩ = some (.int .u32 1)) : Sl w (.slice (some ⟨g, 0, none⟩) 1 1) [1] := by
  refine ⟨by intro y hy; simp at hy; omega, _, 1, rfl, by simp, by simp [maxLen], fun _ => ⟨g, 0, rfl, World.block_lt_of_cell? w _ h, ?_⟩⟩
  intro k x hk
  have hlt := (List.getElem?_eq_some_iff.1 hk).1
  match k, hlt with
  | 0, _ =>
    simp only [List.getElem?_cons_zero, Option.some.injEq] at hk
    subst hk
    exact h

theorem ms_of {w : World} {g : Nat} {cv ev : Value} {m : Mn} (h0 : w.cell? ⟨g, 0, none⟩ = some cv) (h1 : w.cell? ⟨g, 1, none⟩ = some ev) (hm : Mo w cv ev m) : Ms w (.slice (some ⟨g, 0, none⟩) 1 1) [m] := by
  refine ⟨_, 1, rfl, by simp, by simp [maxLen], fun _ => ⟨g, 0, rfl, World.block_lt_of_cell? w _ h0, ?_⟩⟩
  intro k x hk
  have hlt := (List.getElem?_eq_some_iff.1 hk).1
  match k, hlt with
  | 0, _ =>
    simp only [List.getElem?_cons_zero, Option.some.injEq] at hk
    subst hk
    exact ⟨cv, ev, h0, h1, hm⟩

set_option maxRecDepth 100000 in
theorem one_any (w : World) : Calls Try.prog 28 #[] w fun e w' => ∃ v, e = .returned v ∧ Ms w' v [([1], [])] ∧ Below w.heap.size w w' := by
  go_enter Try.func28, Try.ntmps28
  go_wp2
  go_ret
  refine ⟨_, rfl, ms_of (cv := .slice (some ⟨w.heap.size, 0, none⟩) 1 1) (ev := .slice none 0 0) (by simp) (by simp) ⟨sl_one (by simp), Row.nil (by simp [maxLen])⟩, below_step (below_alloc _) (below_alloc _)⟩

theorem is_one {w : World} {g : Nat} (h : w.cell? ⟨g, 0, none⟩ = some (.int .i64 1)) : Is w (.slice (some ⟨g, 0, none⟩) 1 1) [1] := by
  refine ⟨_, 1, rfl, by simp, by simp [maxLen], fun _ => ⟨g, 0, rfl, World.block_lt_of_cell? w _ h, ?_⟩⟩
  intro k x hk
  have hlt := (List.getElem?_eq_some_iff.1 hk).1
  match k, hlt with
  | 0, _ =>
    simp only [List.getElem?_cons_zero, Option.some.injEq] at hk
    subst hk
    exact ⟨by omega, by omega, h⟩

theorem is_two {w : World} {g : Nat} {a b : Int} (ha : -9223372036854775808 ≤ a ∧ a ≤ 9223372036854775807) (hb : -9223372036854775808 ≤ b ∧ b ≤ 9223372036854775807) (h : w.cell? ⟨g, 0, none⟩ = some (.int .i64 a)) (h' : w.cell? ⟨g, 1, none⟩ = some (.int .i64 b)) : Is w (.slice (some ⟨g, 0, none⟩) 2 2) [a, b] := by
  refine ⟨_, 2, rfl, by simp, by simp [maxLen], fun _ => ⟨g, 0, rfl, World.block_lt_of_cell? w _ h, ?_⟩⟩
  intro k x hk
  have hlt := (List.getElem?_eq_some_iff.1 hk).1
  match k, hlt with
  | 0, _ =>
    simp only [List.getElem?_cons_zero, Option.some.injEq] at hk
    subst hk
    exact ⟨ha.1, ha.2, h⟩
  | 1, _ =>
    simp only [List.getElem?_cons_succ, List.getElem?_cons_zero, Option.some.injEq] at hk
    subst hk
    exact ⟨hb.1, hb.2, h'⟩

end Go.Proofs.Ytfifgmcjilkigaa
