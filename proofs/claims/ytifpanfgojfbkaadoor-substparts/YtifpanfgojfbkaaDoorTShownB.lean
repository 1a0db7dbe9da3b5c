/- The calls of the examples, one by one. -/
import Derived.Test.YtifpanfgojfbkaaDoorTShown
namespace Go.Proofs.YtifpanfgojfbkaaDoor
open Go.RowKit Go.Maps Go.BigFrame

theorem call_apply (w : World) (v1 : Value) (hs : Sg w v1 sumS) (hT : Tabs w) :
    Calls Tryd.prog 14 #[v1, .slice (some ⟨w.heap.size + 1 + 1, 0, none⟩) 2 2, .slice (some ⟨w.heap.size + 1 + 1 + 1, 0, none⟩) 3 3]
      ((((w.alloc (Obj.cells #[Value.int IntKind.i64 1, Value.int IntKind.i64 (-2)] 3)).alloc (Obj.cells #[Value.int IntKind.i64 0] 3)).alloc (Obj.cells #[Value.int IntKind.i64 0, Value.slice (some ⟨w.heap.size, 0, none⟩) 2 2, Value.int IntKind.i64 1, Value.slice (some ⟨w.heap.size + 1, 0, none⟩) 1 1] 43)).alloc (Obj.cells #[Value.int IntKind.i64 2, Value.int IntKind.i64 (-1), Value.int IntKind.i64 (-2)] 3))
      fun e w' => ∃ v', e = .returned (.tuple #[v', .int .i64 0]) ∧ Is w' v' [2, 1, -2, 0] ∧ Below w.heap.size w w' := by
  obtain ⟨W, hW⟩ : ∃ W, W = ((((w.alloc (Obj.cells #[Value.int IntKind.i64 1, Value.int IntKind.i64 (-2)] 3)).alloc (Obj.cells #[Value.int IntKind.i64 0] 3)).alloc (Obj.cells #[Value.int IntKind.i64 0, Value.slice (some ⟨w.heap.size, 0, none⟩) 2 2, Value.int IntKind.i64 1, Value.slice (some ⟨w.heap.size + 1, 0, none⟩) 1 1] 43)).alloc (Obj.cells #[Value.int IntKind.i64 2, Value.int IntKind.i64 (-1), Value.int IntKind.i64 (-2)] 3)) := ⟨_, rfl⟩
  obtain ⟨h1, h2, h3⟩ := w_apply w W hW
  rw [← hW]
  refine (apply_any v1 _ _ sumS [(0, [1, -2]), (1, [0])] [2, -1, -2] W (hs.kp (Kp.of_below h3)) h2 h1 (hT.below h3) (by decide)).mono ?_
  rintro e w' ⟨v', rfl, ho, hb⟩
  rw [applyE_1]
  rw [applyL_1] at ho
  exact ⟨v', rfl, ho.is, below_step h3 hb⟩

theorem call_shift (w : World) : Calls Tryd.prog 17 #[.slice (some ⟨w.heap.size, 0, none⟩) 3 3, .int .i64 3] (w.alloc (Obj.cells #[Value.int IntKind.i64 2, Value.int IntKind.i64 (-1), Value.int IntKind.i64 (-2)] 3))
    fun e w' => ∃ v', e = .returned (.tuple #[v', .int .i64 0]) ∧ Is w' v' [2, -4, -5] ∧ Below w.heap.size w w' := by
  refine (shift_any _ [2, -1, -2] 3 _ (is_new w [2, -1, -2] _ (by decide) (by decide)) (by decide) (by omega) (by omega)).mono ?_
  rintro e w' ⟨v', rfl, ho, hb⟩
  rw [shift_1]
  rw [shift_2] at ho
  exact ⟨v', rfl, ho.is, below_step (below_alloc _) hb⟩

theorem call_shift2 (w : World) : Calls Tryd.prog 17 #[.slice (some ⟨w.heap.size, 0, none⟩) 1 1, .int .i64 (-3)] (w.alloc (Obj.cells #[Value.int IntKind.i64 (-3)] 3))
    fun e w' => ∃ v', e = .returned (.tuple #[v', .int .i64 40]) ∧ Below w.heap.size w w' := by
  refine (shift_any _ [-3] (-3) _ (is_new w [-3] _ (by decide) (by decide)) (by decide) (by omega) (by omega)).mono ?_
  rintro e w' ⟨v', rfl, ho, hb⟩
  rw [shift_3]
  exact ⟨v', rfl, below_step (below_alloc _) hb⟩

theorem call_canon (w : World) :
    Calls Tryd.prog 19 #[.slice (some ⟨w.heap.size + 1 + 1, 0, none⟩) 2 2]
      (((w.alloc (Obj.cells #[Value.int IntKind.i64 2, Value.int IntKind.i64 (-7), Value.int IntKind.i64 (-3)] 3)).alloc (Obj.cells #[Value.int IntKind.i64 (-3), Value.int IntKind.i64 (-9)] 3)).alloc (Obj.cells #[Value.slice (some ⟨w.heap.size, 0, none⟩) 3 3, Value.slice (some ⟨w.heap.size + 1, 0, none⟩) 2 2] 30))
      fun e w' => ∃ g cap u1 u2, e = .returned (.slice (some ⟨g, 0, none⟩) 2 cap) ∧ w'.cell? ⟨g, 0, none⟩ = some u1 ∧ w'.cell? ⟨g, 1, none⟩ = some u2 ∧ Is w' u1 [2, -1, -2] ∧ Is w' u2 [-2, -3] ∧ 2 ≤ cap ∧ cap ≤ 9223372036854775807 ∧ Below w.heap.size w w' := by
  obtain ⟨W, hW⟩ : ∃ W, W = (((w.alloc (Obj.cells #[Value.int IntKind.i64 2, Value.int IntKind.i64 (-7), Value.int IntKind.i64 (-3)] 3)).alloc (Obj.cells #[Value.int IntKind.i64 (-3), Value.int IntKind.i64 (-9)] 3)).alloc (Obj.cells #[Value.slice (some ⟨w.heap.size, 0, none⟩) 3 3, Value.slice (some ⟨w.heap.size + 1, 0, none⟩) 2 2] 30)) := ⟨_, rfl⟩
  have hsz : W.heap.size = w.heap.size + 3 := by rw [hW]; simp
  have h3 : Below w.heap.size w W := by rw [hW]; exact b1 (b1 (b1 b0))
  have i1 : Is W (.slice (some ⟨w.heap.size, 0, none⟩) 3 3) [2, -7, -3] := by
    refine is_lit (p := [2, -7, -3]) (by omega) (by decide) ⟨ei (by omega) (by omega) ?_, ei (by omega) (by omega) ?_, ei (by omega) (by omega) ?_, trivial⟩ <;> (rw [hW]; repeat (first | (refine cell_newg ?_ rfl; simp; done) | refine cell_old ?_))
  have i2 : Is W (.slice (some ⟨w.heap.size + 1, 0, none⟩) 2 2) [-3, -9] := by
    refine is_lit (p := [-3, -9]) (by omega) (by decide) ⟨ei (by omega) (by omega) ?_, ei (by omega) (by omega) ?_, trivial⟩ <;> (rw [hW]; repeat (first | (refine cell_newg ?_ rfl; simp; done) | refine cell_old ?_))
  have i3 : Rs W (.slice (some ⟨w.heap.size + 1 + 1, 0, none⟩) 2 2) [[2, -7, -3], [-3, -9]] := by
    refine rs_lit (p := [[2, -7, -3], [-3, -9]]) (by omega) (by decide) ⟨⟨by decide, _, ?_, i1⟩, ⟨by decide, _, ?_, i2⟩, trivial⟩ <;> (rw [hW]; repeat (first | (refine cell_newg ?_ rfl; simp; done) | refine cell_old ?_))
  rw [← hW]
  refine (canon_any _ [[2, -7, -3], [-3, -9]] W i3 (by decide) (by decide)).mono ?_
  rintro e w' ⟨v', vs, rfl, ho, hr, hb⟩
  rw [canon_1] at hr
  obtain ⟨g, cap, rfl⟩ := own_form ho (by decide)
  obtain ⟨u1, u2, rfl⟩ : ∃ u1 u2, vs = [u1, u2] := by
    have := hr.1
    match vs, this with
    | [a, b], _ => exact ⟨a, b, rfl⟩
  have hcap : 2 ≤ cap ∧ cap ≤ 9223372036854775807 := by
    rcases ho.2 with ⟨hv, _⟩ | ⟨g', cap', cur, hv, _, _, hc, hm, _⟩
    · cases hv
    · cases hv
      unfold maxLen at hm
      exact ⟨hc, by omega⟩
  exact ⟨g, cap, u1, u2, rfl, World.ownsRow.cellAt ho 0 (by decide), World.ownsRow.cellAt ho 1 (by decide), (hr.2 0 u1 _ rfl rfl).is, (hr.2 1 u2 _ rfl rfl).is, hcap.1, hcap.2, below_step h3 hb⟩

theorem call_check1 (w : World) (v1 : Value) (hs : Sg w v1 sumS) (hT : Tabs w) :
    Calls Tryd.prog 11 #[v1, .slice (some ⟨w.heap.size + 1 + 1, 0, none⟩) 2 2]
      (((w.alloc (Obj.cells #[Value.int IntKind.i64 0] 3)).alloc (Obj.cells #[Value.int IntKind.i64 0] 3)).alloc (Obj.cells #[Value.int IntKind.i64 2, Value.slice (some ⟨w.heap.size, 0, none⟩) 1 1, Value.int IntKind.i64 2, Value.slice (some ⟨w.heap.size + 1, 0, none⟩) 1 1] 43))
      fun e w' => e = .returned (.int .i64 41) ∧ Below w.heap.size w w' := by
  obtain ⟨W, hW⟩ : ∃ W, W = (((w.alloc (Obj.cells #[Value.int IntKind.i64 0] 3)).alloc (Obj.cells #[Value.int IntKind.i64 0] 3)).alloc (Obj.cells #[Value.int IntKind.i64 2, Value.slice (some ⟨w.heap.size, 0, none⟩) 1 1, Value.int IntKind.i64 2, Value.slice (some ⟨w.heap.size + 1, 0, none⟩) 1 1] 43)) := ⟨_, rfl⟩
  have hsz : W.heap.size = w.heap.size + 3 := by rw [hW]; simp
  have h3 : Below w.heap.size w W := by rw [hW]; exact b1 (b1 (b1 b0))
  have i1 : Is W (.slice (some ⟨w.heap.size, 0, none⟩) 1 1) [0] := by
    refine is_lit (p := [0]) (by omega) (by decide) ⟨ei (by omega) (by omega) ?_, trivial⟩ <;> (rw [hW]; repeat (first | (refine cell_newg ?_ rfl; simp; done) | refine cell_old ?_))
  have i2 : Is W (.slice (some ⟨w.heap.size + 1, 0, none⟩) 1 1) [0] := by
    refine is_lit (p := [0]) (by omega) (by decide) ⟨ei (by omega) (by omega) ?_, trivial⟩ <;> (rw [hW]; repeat (first | (refine cell_newg ?_ rfl; simp; done) | refine cell_old ?_))
  have i3 : Bs W (.slice (some ⟨w.heap.size + 1 + 1, 0, none⟩) 2 2) [(2, [0]), (2, [0])] := by
    refine bs_lit (p := [(2, [0]), (2, [0])]) (by omega) (by decide) ⟨⟨by decide, by decide, by decide, ?_, _, ?_, i1⟩, ⟨by decide, by decide, by decide, ?_, _, ?_, i2⟩, trivial⟩ <;> (rw [hW]; repeat (first | (refine cell_newg ?_ rfl; simp; done) | refine cell_old ?_))
  rw [← hW]
  refine (substCheck_any v1 _ sumS [(2, [0]), (2, [0])] W (hs.kp (Kp.of_below h3)) i3 (hT.below h3)).mono ?_
  rintro e w' ⟨rfl, hb⟩
  rw [bindE_1]
  exact ⟨rfl, below_step h3 hb⟩

theorem call_check2 (w : World) (v1 : Value) (hs : Sg w v1 sumS) (hT : Tabs w) :
    Calls Tryd.prog 11 #[v1, .slice (some ⟨w.heap.size + 1, 0, none⟩) 1 1]
      ((w.alloc (Obj.cells #[Value.int IntKind.i64 1] 3)).alloc (Obj.cells #[Value.int IntKind.i64 0, Value.slice (some ⟨w.heap.size, 0, none⟩) 1 1] 43))
      fun e w' => e = .returned (.int .i64 31) ∧ Below w.heap.size w w' := by
  obtain ⟨W, hW⟩ : ∃ W, W = ((w.alloc (Obj.cells #[Value.int IntKind.i64 1] 3)).alloc (Obj.cells #[Value.int IntKind.i64 0, Value.slice (some ⟨w.heap.size, 0, none⟩) 1 1] 43)) := ⟨_, rfl⟩
  have hsz : W.heap.size = w.heap.size + 2 := by rw [hW]; simp
  have h3 : Below w.heap.size w W := by rw [hW]; exact b1 (b1 b0)
  have i1 : Is W (.slice (some ⟨w.heap.size, 0, none⟩) 1 1) [1] := by
    refine is_lit (p := [1]) (by omega) (by decide) ⟨ei (by omega) (by omega) ?_, trivial⟩ <;> (rw [hW]; repeat (first | (refine cell_newg ?_ rfl; simp; done) | refine cell_old ?_))
  have i3 : Bs W (.slice (some ⟨w.heap.size + 1, 0, none⟩) 1 1) [(0, [1])] := by
    refine bs_lit (p := [(0, [1])]) (by omega) (by decide) ⟨⟨by decide, by decide, by decide, ?_, _, ?_, i1⟩, trivial⟩ <;> (rw [hW]; repeat (first | (refine cell_newg ?_ rfl; simp; done) | refine cell_old ?_))
  rw [← hW]
  refine (substCheck_any v1 _ sumS [(0, [1])] W (hs.kp (Kp.of_below h3)) i3 (hT.below h3)).mono ?_
  rintro e w' ⟨rfl, hb⟩
  rw [bindE_2]
  exact ⟨rfl, below_step h3 hb⟩

end Go.Proofs.YtifpanfgojfbkaaDoor
