/- x and y of the law file. -/
import Derived.Test.YtfifgmcjilkigaaPLawA
namespace Go.Proofs.Ytfifgmcjilkigaa
open Go.RowKit Go.Maps

theorem cell_new {w : World} {vs : Array Value} {t : TypeId} {g i : Nat} {v : Value} (hg : g = w.heap.size) (hv : vs[i]? = some v) : (w.alloc (.cells vs t)).cell? ⟨g, i, none⟩ = some v := by
  subst hg
  rw [cell_of_row _ _ _ _ _ _ (heap_alloc_new _ _)]
  exact hv

theorem cell_old {w : World} {o : Obj} {a : Addr} {v : Value} (h : w.cell? a = some v) : (w.alloc o).cell? a = some v := (Kp.of_below (below_alloc o)).cell _ _ h

set_option maxRecDepth 100000 in
theorem x_any (w : World) : Calls Try.prog 29 #[] w fun e w' => ∃ v, e = .returned v ∧ Ms w' v [([1], [1])] ∧ Below w.heap.size w w' := by
  go_enter Try.func29, Try.ntmps29
  go_wp2
  go_ret
  refine ⟨_, rfl, ms_of (cv := .slice (some ⟨w.heap.size, 0, none⟩) 1 1) (ev := .slice (some ⟨w.heap.size + 1, 0, none⟩) 1 1) ?_ ?_ ⟨sl_one ?_, is_one ?_⟩, below_step (below_step (below_alloc _) (below_alloc _)) (below_alloc _)⟩
  · exact cell_new (by simp) rfl
  · exact cell_new (by simp) rfl
  · exact cell_old (cell_old (cell_new (by simp) rfl))
  · exact cell_old (cell_new (by simp) rfl)

set_option maxRecDepth 100000 in
theorem y_any (w : World) : Calls Try.prog 30 #[] w fun e w' => ∃ v, e = .returned v ∧ Ms w' v [([1], [0, 1])] ∧ Below w.heap.size w w' := by
  go_enter Try.func30, Try.ntmps30
  go_wp2
  go_ret
  refine ⟨_, rfl, ms_of (cv := .slice (some ⟨w.heap.size, 0, none⟩) 1 1) (ev := .slice (some ⟨w.heap.size + 1, 0, none⟩) 2 2) ?_ ?_ ⟨sl_one ?_, is_two (by omega) (by omega) ?_ ?_⟩, below_step (below_step (below_alloc _) (below_alloc _)) (below_alloc _)⟩
  · exact cell_new (by simp) rfl
  · exact cell_new (by simp) rfl
  · exact cell_old (cell_old (cell_new (by simp) rfl))
  · exact cell_old (cell_new (by simp) rfl)
  · exact cell_old (cell_new (by simp) rfl)

end Go.Proofs.Ytfifgmcjilkigaa
