/- Texts of the proof, one behind the other. -/
import Derived.Test.YtelacmijkbgliaaDoorOwn10
import Derived.Test.YtelacmijkbgliaaDoorOwn2
import Derived.Test.YtelacmijkbgliaaDoorOwn9
/- The examples of layer 6 come out true. -/
namespace Go.Proofs.YtelacmijkbgliaaDoor
open Go.RowKit Go.Maps Go.BigFrame

set_option maxRecDepth 100000 in
theorem u6_1 (w : World) (sv : Value) (hs : Sg w sv sumS) (hT : Tabs w) : Calls Tryd.prog 10 #[sv, .slice (some ⟨w.heap.size, 0, none⟩) 4 4, .slice (some ⟨w.heap.size + 1, 0, none⟩) 4 4] ((w.alloc (Obj.cells #[Value.int IntKind.i64 2, Value.int IntKind.i64 (-1), Value.int IntKind.i64 1, Value.int IntKind.i64 (-1)] 3)).alloc (Obj.cells #[Value.int IntKind.i64 2, Value.int IntKind.i64 1, Value.int IntKind.i64 (-2), Value.int IntKind.i64 (-3)] 3))
    fun e w' => ∃ ao cap, e = .returned (.tuple #[.slice ao 2 cap, .int .i64 0]) ∧ Bs w' (.slice ao 2 cap) [(0, [1, -2]), (2, [1, 1, -2])] ∧ Below w.heap.size w w' := by
  have hB : Below w.heap.size w ((w.alloc (Obj.cells #[Value.int IntKind.i64 2, Value.int IntKind.i64 (-1), Value.int IntKind.i64 1, Value.int IntKind.i64 (-1)] 3)).alloc (Obj.cells #[Value.int IntKind.i64 2, Value.int IntKind.i64 1, Value.int IntKind.i64 (-2), Value.int IntKind.i64 (-3)] 3)) := (below_step (below_alloc _) (below_alloc _))
  obtain ⟨W, hW⟩ : ∃ W, W = ((w.alloc (Obj.cells #[Value.int IntKind.i64 2, Value.int IntKind.i64 (-1), Value.int IntKind.i64 1, Value.int IntKind.i64 (-1)] 3)).alloc (Obj.cells #[Value.int IntKind.i64 2, Value.int IntKind.i64 1, Value.int IntKind.i64 (-2), Value.int IntKind.i64 (-3)] 3)) := ⟨_, rfl⟩
  have hsz : W.heap.size = w.heap.size + 2 := by rw [hW]; simp
  have i1 : Is W (.slice (some ⟨w.heap.size, 0, none⟩) 4 4) [2, -1, 1, -1] := by
    refine is_lit (p := [2, -1, 1, -1]) (by omega) (by decide) ⟨ei (by omega) (by omega) ?_, ei (by omega) (by omega) ?_, ei (by omega) (by omega) ?_, ei (by omega) (by omega) ?_, trivial⟩ <;> (rw [hW]; repeat (first | (refine cell_newg ?_ rfl; simp; done) | refine cell_old ?_))
  have i2 : Is W (.slice (some ⟨w.heap.size + 1, 0, none⟩) 4 4) [2, 1, -2, -3] := by
    refine is_lit (p := [2, 1, -2, -3]) (by omega) (by decide) ⟨ei (by omega) (by omega) ?_, ei (by omega) (by omega) ?_, ei (by omega) (by omega) ?_, ei (by omega) (by omega) ?_, trivial⟩ <;> (rw [hW]; repeat (first | (refine cell_newg ?_ rfl; simp; done) | refine cell_old ?_))
  rw [← hW] at hB ⊢
  refine (unify_any sv _ _ sumS [2, -1, 1, -1] [2, 1, -2, -3] W (hs.kp (Kp.of_below hB)) i1 i2 (hT.below hB) (by decide) (by decide)).mono ?_
  rintro e w' ⟨v, rfl, ho, hb⟩
  have hx := ex1_ok
  rw [hx.2] at ho
  obtain ⟨ao, cap, hv, _⟩ := Row.flat ho.bs
  subst hv
  exact ⟨ao, cap, by rw [hx.1]; rfl, ho.bs, below_step hB hb⟩

set_option maxRecDepth 100000 in
theorem u6_2 (w : World) (sv : Value) (hs : Sg w sv sumS) (hT : Tabs w) : Calls Tryd.prog 10 #[sv, .slice (some ⟨w.heap.size, 0, none⟩) 3 3, .slice (some ⟨w.heap.size + 1, 0, none⟩) 3 3] ((w.alloc (Obj.cells #[Value.int IntKind.i64 2, Value.int IntKind.i64 (-1), Value.int IntKind.i64 (-2)] 3)).alloc (Obj.cells #[Value.int IntKind.i64 2, Value.int IntKind.i64 (-2), Value.int IntKind.i64 (-3)] 3))
    fun e w' => ∃ ao cap, e = .returned (.tuple #[.slice ao 2 cap, .int .i64 0]) ∧ Bs w' (.slice ao 2 cap) [(1, [-1]), (2, [-1])] ∧ Below w.heap.size w w' := by
  have hB : Below w.heap.size w ((w.alloc (Obj.cells #[Value.int IntKind.i64 2, Value.int IntKind.i64 (-1), Value.int IntKind.i64 (-2)] 3)).alloc (Obj.cells #[Value.int IntKind.i64 2, Value.int IntKind.i64 (-2), Value.int IntKind.i64 (-3)] 3)) := (below_step (below_alloc _) (below_alloc _))
  obtain ⟨W, hW⟩ : ∃ W, W = ((w.alloc (Obj.cells #[Value.int IntKind.i64 2, Value.int IntKind.i64 (-1), Value.int IntKind.i64 (-2)] 3)).alloc (Obj.cells #[Value.int IntKind.i64 2, Value.int IntKind.i64 (-2), Value.int IntKind.i64 (-3)] 3)) := ⟨_, rfl⟩
  have hsz : W.heap.size = w.heap.size + 2 := by rw [hW]; simp
  have i1 : Is W (.slice (some ⟨w.heap.size, 0, none⟩) 3 3) [2, -1, -2] := by
    refine is_lit (p := [2, -1, -2]) (by omega) (by decide) ⟨ei (by omega) (by omega) ?_, ei (by omega) (by omega) ?_, ei (by omega) (by omega) ?_, trivial⟩ <;> (rw [hW]; repeat (first | (refine cell_newg ?_ rfl; simp; done) | refine cell_old ?_))
  have i2 : Is W (.slice (some ⟨w.heap.size + 1, 0, none⟩) 3 3) [2, -2, -3] := by
    refine is_lit (p := [2, -2, -3]) (by omega) (by decide) ⟨ei (by omega) (by omega) ?_, ei (by omega) (by omega) ?_, ei (by omega) (by omega) ?_, trivial⟩ <;> (rw [hW]; repeat (first | (refine cell_newg ?_ rfl; simp; done) | refine cell_old ?_))
  rw [← hW] at hB ⊢
  refine (unify_any sv _ _ sumS [2, -1, -2] [2, -2, -3] W (hs.kp (Kp.of_below hB)) i1 i2 (hT.below hB) (by decide) (by decide)).mono ?_
  rintro e w' ⟨v, rfl, ho, hb⟩
  have hx := ex2_ok
  rw [hx.2] at ho
  obtain ⟨ao, cap, hv, _⟩ := Row.flat ho.bs
  subst hv
  exact ⟨ao, cap, by rw [hx.1]; rfl, ho.bs, below_step hB hb⟩

set_option maxRecDepth 100000 in
theorem u6_3 (w : World) (sv : Value) (hs : Sg w sv sumS) (hT : Tabs w) : Calls Tryd.prog 10 #[sv, .slice (some ⟨w.heap.size, 0, none⟩) 1 1, .slice (some ⟨w.heap.size + 1, 0, none⟩) 2 2] ((w.alloc (Obj.cells #[Value.int IntKind.i64 (-1)] 3)).alloc (Obj.cells #[Value.int IntKind.i64 1, Value.int IntKind.i64 (-1)] 3))
    fun e w' => ∃ ao cap, e = .returned (.tuple #[.slice ao 0 cap, .int .i64 60]) ∧ Bs w' (.slice ao 0 cap) [] ∧ Below w.heap.size w w' := by
  have hB : Below w.heap.size w ((w.alloc (Obj.cells #[Value.int IntKind.i64 (-1)] 3)).alloc (Obj.cells #[Value.int IntKind.i64 1, Value.int IntKind.i64 (-1)] 3)) := (below_step (below_alloc _) (below_alloc _))
  obtain ⟨W, hW⟩ : ∃ W, W = ((w.alloc (Obj.cells #[Value.int IntKind.i64 (-1)] 3)).alloc (Obj.cells #[Value.int IntKind.i64 1, Value.int IntKind.i64 (-1)] 3)) := ⟨_, rfl⟩
  have hsz : W.heap.size = w.heap.size + 2 := by rw [hW]; simp
  have i1 : Is W (.slice (some ⟨w.heap.size, 0, none⟩) 1 1) [-1] := by
    refine is_lit (p := [-1]) (by omega) (by decide) ⟨ei (by omega) (by omega) ?_, trivial⟩ <;> (rw [hW]; repeat (first | (refine cell_newg ?_ rfl; simp; done) | refine cell_old ?_))
  have i2 : Is W (.slice (some ⟨w.heap.size + 1, 0, none⟩) 2 2) [1, -1] := by
    refine is_lit (p := [1, -1]) (by omega) (by decide) ⟨ei (by omega) (by omega) ?_, ei (by omega) (by omega) ?_, trivial⟩ <;> (rw [hW]; repeat (first | (refine cell_newg ?_ rfl; simp; done) | refine cell_old ?_))
  rw [← hW] at hB ⊢
  refine (unify_any sv _ _ sumS [-1] [1, -1] W (hs.kp (Kp.of_below hB)) i1 i2 (hT.below hB) (by decide) (by decide)).mono ?_
  rintro e w' ⟨v, rfl, ho, hb⟩
  have hx := (uniE_no (sig := sumS) (a := [-1]) (b := [1, -1]) (by kernel_rfl) ex3_no)
  rw [hx.2] at ho
  obtain ⟨ao, cap, hv, _⟩ := Row.flat ho.bs
  subst hv
  exact ⟨ao, cap, by rw [hx.1]; rfl, ho.bs, below_step hB hb⟩

set_option maxRecDepth 100000 in
theorem u6_4 (w : World) (sv : Value) (hs : Sg w sv sumS) (hT : Tabs w) : Calls Tryd.prog 10 #[sv, .slice (some ⟨w.heap.size, 0, none⟩) 3 3, .slice (some ⟨w.heap.size + 1, 0, none⟩) 4 4] ((w.alloc (Obj.cells #[Value.int IntKind.i64 2, Value.int IntKind.i64 0, Value.int IntKind.i64 (-2)] 3)).alloc (Obj.cells #[Value.int IntKind.i64 2, Value.int IntKind.i64 1, Value.int IntKind.i64 (-1), Value.int IntKind.i64 (-2)] 3))
    fun e w' => ∃ ao cap, e = .returned (.tuple #[.slice ao 0 cap, .int .i64 60]) ∧ Bs w' (.slice ao 0 cap) [] ∧ Below w.heap.size w w' := by
  have hB : Below w.heap.size w ((w.alloc (Obj.cells #[Value.int IntKind.i64 2, Value.int IntKind.i64 0, Value.int IntKind.i64 (-2)] 3)).alloc (Obj.cells #[Value.int IntKind.i64 2, Value.int IntKind.i64 1, Value.int IntKind.i64 (-1), Value.int IntKind.i64 (-2)] 3)) := (below_step (below_alloc _) (below_alloc _))
  obtain ⟨W, hW⟩ : ∃ W, W = ((w.alloc (Obj.cells #[Value.int IntKind.i64 2, Value.int IntKind.i64 0, Value.int IntKind.i64 (-2)] 3)).alloc (Obj.cells #[Value.int IntKind.i64 2, Value.int IntKind.i64 1, Value.int IntKind.i64 (-1), Value.int IntKind.i64 (-2)] 3)) := ⟨_, rfl⟩
  have hsz : W.heap.size = w.heap.size + 2 := by rw [hW]; simp
  have i1 : Is W (.slice (some ⟨w.heap.size, 0, none⟩) 3 3) [2, 0, -2] := by
    refine is_lit (p := [2, 0, -2]) (by omega) (by decide) ⟨ei (by omega) (by omega) ?_, ei (by omega) (by omega) ?_, ei (by omega) (by omega) ?_, trivial⟩ <;> (rw [hW]; repeat (first | (refine cell_newg ?_ rfl; simp; done) | refine cell_old ?_))
  have i2 : Is W (.slice (some ⟨w.heap.size + 1, 0, none⟩) 4 4) [2, 1, -1, -2] := by
    refine is_lit (p := [2, 1, -1, -2]) (by omega) (by decide) ⟨ei (by omega) (by omega) ?_, ei (by omega) (by omega) ?_, ei (by omega) (by omega) ?_, ei (by omega) (by omega) ?_, trivial⟩ <;> (rw [hW]; repeat (first | (refine cell_newg ?_ rfl; simp; done) | refine cell_old ?_))
  rw [← hW] at hB ⊢
  refine (unify_any sv _ _ sumS [2, 0, -2] [2, 1, -1, -2] W (hs.kp (Kp.of_below hB)) i1 i2 (hT.below hB) (by decide) (by decide)).mono ?_
  rintro e w' ⟨v, rfl, ho, hb⟩
  have hx := (uniE_no (sig := sumS) (a := [2, 0, -2]) (b := [2, 1, -1, -2]) (by kernel_rfl) ex4_no)
  rw [hx.2] at ho
  obtain ⟨ao, cap, hv, _⟩ := Row.flat ho.bs
  subst hv
  exact ⟨ao, cap, by rw [hx.1]; rfl, ho.bs, below_step hB hb⟩

set_option maxRecDepth 100000 in
theorem u6_5 (w : World) (sv : Value) (hs : Sg w sv sumS) (hT : Tabs w) : Calls Tryd.prog 10 #[sv, .slice (some ⟨w.heap.size, 0, none⟩) 1 1, .slice (some ⟨w.heap.size + 1, 0, none⟩) 1 1] ((w.alloc (Obj.cells #[Value.int IntKind.i64 (-5)] 3)).alloc (Obj.cells #[Value.int IntKind.i64 (-5)] 3))
    fun e w' => ∃ ao cap, e = .returned (.tuple #[.slice ao 0 cap, .int .i64 0]) ∧ Bs w' (.slice ao 0 cap) [] ∧ Below w.heap.size w w' := by
  have hB : Below w.heap.size w ((w.alloc (Obj.cells #[Value.int IntKind.i64 (-5)] 3)).alloc (Obj.cells #[Value.int IntKind.i64 (-5)] 3)) := (below_step (below_alloc _) (below_alloc _))
  obtain ⟨W, hW⟩ : ∃ W, W = ((w.alloc (Obj.cells #[Value.int IntKind.i64 (-5)] 3)).alloc (Obj.cells #[Value.int IntKind.i64 (-5)] 3)) := ⟨_, rfl⟩
  have hsz : W.heap.size = w.heap.size + 2 := by rw [hW]; simp
  have i1 : Is W (.slice (some ⟨w.heap.size, 0, none⟩) 1 1) [-5] := by
    refine is_lit (p := [-5]) (by omega) (by decide) ⟨ei (by omega) (by omega) ?_, trivial⟩ <;> (rw [hW]; repeat (first | (refine cell_newg ?_ rfl; simp; done) | refine cell_old ?_))
  have i2 : Is W (.slice (some ⟨w.heap.size + 1, 0, none⟩) 1 1) [-5] := by
    refine is_lit (p := [-5]) (by omega) (by decide) ⟨ei (by omega) (by omega) ?_, trivial⟩ <;> (rw [hW]; repeat (first | (refine cell_newg ?_ rfl; simp; done) | refine cell_old ?_))
  rw [← hW] at hB ⊢
  refine (unify_any sv _ _ sumS [-5] [-5] W (hs.kp (Kp.of_below hB)) i1 i2 (hT.below hB) (by decide) (by decide)).mono ?_
  rintro e w' ⟨v, rfl, ho, hb⟩
  have hx := ex5_ok
  rw [hx.2] at ho
  obtain ⟨ao, cap, hv, _⟩ := Row.flat ho.bs
  subst hv
  exact ⟨ao, cap, by rw [hx.1]; rfl, ho.bs, below_step hB hb⟩

set_option maxRecDepth 100000 in
theorem c6_6 (w : World) (sv : Value) (hs : Sg w sv sumS) (hT : Tabs w) : Calls Tryd.prog 14 #[sv, .slice (some ⟨w.heap.size, 0, none⟩) 1 1, .slice (some ⟨w.heap.size + 1, 0, none⟩) 1 1] ((w.alloc (Obj.cells #[Value.int IntKind.i64 (-1)] 3)).alloc (Obj.cells #[Value.int IntKind.i64 0] 3))
    fun e w' => e = .returned (.bool true) ∧ Below w.heap.size w w' := by
  have hB : Below w.heap.size w ((w.alloc (Obj.cells #[Value.int IntKind.i64 (-1)] 3)).alloc (Obj.cells #[Value.int IntKind.i64 0] 3)) := (below_step (below_alloc _) (below_alloc _))
  obtain ⟨W, hW⟩ : ∃ W, W = ((w.alloc (Obj.cells #[Value.int IntKind.i64 (-1)] 3)).alloc (Obj.cells #[Value.int IntKind.i64 0] 3)) := ⟨_, rfl⟩
  have hsz : W.heap.size = w.heap.size + 2 := by rw [hW]; simp
  have i1 : Is W (.slice (some ⟨w.heap.size, 0, none⟩) 1 1) [-1] := by
    refine is_lit (p := [-1]) (by omega) (by decide) ⟨ei (by omega) (by omega) ?_, trivial⟩ <;> (rw [hW]; repeat (first | (refine cell_newg ?_ rfl; simp; done) | refine cell_old ?_))
  have i2 : Is W (.slice (some ⟨w.heap.size + 1, 0, none⟩) 1 1) [0] := by
    refine is_lit (p := [0]) (by omega) (by decide) ⟨ei (by omega) (by omega) ?_, trivial⟩ <;> (rw [hW]; repeat (first | (refine cell_newg ?_ rfl; simp; done) | refine cell_old ?_))
  rw [← hW] at hB ⊢
  refine (can_any sv _ _ sumS [-1] [0] W (hs.kp (Kp.of_below hB)) i1 i2 (hT.below hB) (by decide)).mono ?_
  rintro e w' ⟨rfl, hb⟩
  exact ⟨ret1b (by classical exact decide_eq_true ⟨by kernel_rfl, ex6_yes⟩), below_step hB hb⟩

set_option maxRecDepth 100000 in
theorem c6_7 (w : World) (sv : Value) (hs : Sg w sv sumS) (hT : Tabs w) : Calls Tryd.prog 14 #[sv, .slice (some ⟨w.heap.size, 0, none⟩) 1 1, .slice (some ⟨w.heap.size + 1, 0, none⟩) 2 2] ((w.alloc (Obj.cells #[Value.int IntKind.i64 0] 3)).alloc (Obj.cells #[Value.int IntKind.i64 1, Value.int IntKind.i64 0] 3))
    fun e w' => e = .returned (.bool false) ∧ Below w.heap.size w w' := by
  have hB : Below w.heap.size w ((w.alloc (Obj.cells #[Value.int IntKind.i64 0] 3)).alloc (Obj.cells #[Value.int IntKind.i64 1, Value.int IntKind.i64 0] 3)) := (below_step (below_alloc _) (below_alloc _))
  obtain ⟨W, hW⟩ : ∃ W, W = ((w.alloc (Obj.cells #[Value.int IntKind.i64 0] 3)).alloc (Obj.cells #[Value.int IntKind.i64 1, Value.int IntKind.i64 0] 3)) := ⟨_, rfl⟩
  have hsz : W.heap.size = w.heap.size + 2 := by rw [hW]; simp
  have i1 : Is W (.slice (some ⟨w.heap.size, 0, none⟩) 1 1) [0] := by
    refine is_lit (p := [0]) (by omega) (by decide) ⟨ei (by omega) (by omega) ?_, trivial⟩ <;> (rw [hW]; repeat (first | (refine cell_newg ?_ rfl; simp; done) | refine cell_old ?_))
  have i2 : Is W (.slice (some ⟨w.heap.size + 1, 0, none⟩) 2 2) [1, 0] := by
    refine is_lit (p := [1, 0]) (by omega) (by decide) ⟨ei (by omega) (by omega) ?_, ei (by omega) (by omega) ?_, trivial⟩ <;> (rw [hW]; repeat (first | (refine cell_newg ?_ rfl; simp; done) | refine cell_old ?_))
  rw [← hW] at hB ⊢
  refine (can_any sv _ _ sumS [0] [1, 0] W (hs.kp (Kp.of_below hB)) i1 i2 (hT.below hB) (by decide)).mono ?_
  rintro e w' ⟨rfl, hb⟩
  exact ⟨ret1b (by rw [decide_eq_false_iff_not]; exact fun h => ex7_no h.2), below_step hB hb⟩

set_option maxRecDepth 100000 in
theorem s6_1 (w : World) (v : Value) (h : Bs w v [(0, [1, -2]), (2, [1, 1, -2])]) : Calls Tryd.prog 12 #[v, .slice (some ⟨w.heap.size + 1 + 1, 0, none⟩) 2 2] (((w.alloc (Obj.cells #[Value.int IntKind.i64 1, Value.int IntKind.i64 (-2)] 3)).alloc (Obj.cells #[Value.int IntKind.i64 1, Value.int IntKind.i64 1, Value.int IntKind.i64 (-2)] 3)).alloc (Obj.cells #[Value.int IntKind.i64 0, .slice (some ⟨w.heap.size, 0, none⟩) 2 2, Value.int IntKind.i64 2, .slice (some ⟨w.heap.size + 1, 0, none⟩) 3 3] 31))
    fun e w' => e = .returned (.bool true) ∧ Below w.heap.size w w' := by
  have hB : Below w.heap.size w (((w.alloc (Obj.cells #[Value.int IntKind.i64 1, Value.int IntKind.i64 (-2)] 3)).alloc (Obj.cells #[Value.int IntKind.i64 1, Value.int IntKind.i64 1, Value.int IntKind.i64 (-2)] 3)).alloc (Obj.cells #[Value.int IntKind.i64 0, .slice (some ⟨w.heap.size, 0, none⟩) 2 2, Value.int IntKind.i64 2, .slice (some ⟨w.heap.size + 1, 0, none⟩) 3 3] 31)) := (below_step (below_step (below_alloc _) (below_alloc _)) (below_alloc _))
  obtain ⟨W, hW⟩ : ∃ W, W = (((w.alloc (Obj.cells #[Value.int IntKind.i64 1, Value.int IntKind.i64 (-2)] 3)).alloc (Obj.cells #[Value.int IntKind.i64 1, Value.int IntKind.i64 1, Value.int IntKind.i64 (-2)] 3)).alloc (Obj.cells #[Value.int IntKind.i64 0, .slice (some ⟨w.heap.size, 0, none⟩) 2 2, Value.int IntKind.i64 2, .slice (some ⟨w.heap.size + 1, 0, none⟩) 3 3] 31)) := ⟨_, rfl⟩
  have hsz : W.heap.size = w.heap.size + 3 := by rw [hW]; simp
  have i1 : Is W (.slice (some ⟨w.heap.size, 0, none⟩) 2 2) [1, -2] := by
    refine is_lit (p := [1, -2]) (by omega) (by decide) ⟨ei (by omega) (by omega) ?_, ei (by omega) (by omega) ?_, trivial⟩ <;> (rw [hW]; repeat (first | (refine cell_newg ?_ rfl; simp; done) | refine cell_old ?_))
  have i2 : Is W (.slice (some ⟨w.heap.size + 1, 0, none⟩) 3 3) [1, 1, -2] := by
    refine is_lit (p := [1, 1, -2]) (by omega) (by decide) ⟨ei (by omega) (by omega) ?_, ei (by omega) (by omega) ?_, ei (by omega) (by omega) ?_, trivial⟩ <;> (rw [hW]; repeat (first | (refine cell_newg ?_ rfl; simp; done) | refine cell_old ?_))
  have i3 : Bs W (.slice (some ⟨w.heap.size + 1 + 1, 0, none⟩) 2 2) [(0, [1, -2]), (2, [1, 1, -2])] := by
    refine bs_lit (p := [(0, [1, -2]), (2, [1, 1, -2])]) (by omega) (by decide) ⟨⟨by decide, by decide, by decide, ?_, _, ?_, i1⟩, ⟨by decide, by decide, by decide, ?_, _, ?_, i2⟩, trivial⟩ <;> (rw [hW]; repeat (first | (refine cell_newg ?_ rfl; simp; done) | refine cell_old ?_))
  rw [← hW] at hB ⊢
  refine (same6_any v _ _ W (h.kp (Kp.of_below hB)) i3).mono ?_
  rintro e w' ⟨rfl, hb⟩
  exact ⟨rfl, below_step hB hb⟩

set_option maxRecDepth 100000 in
theorem s6_2 (w : World) (v : Value) (h : Bs w v [(1, [-1]), (2, [-1])]) : Calls Tryd.prog 12 #[v, .slice (some ⟨w.heap.size + 1 + 1, 0, none⟩) 2 2] (((w.alloc (Obj.cells #[Value.int IntKind.i64 (-1)] 3)).alloc (Obj.cells #[Value.int IntKind.i64 (-1)] 3)).alloc (Obj.cells #[Value.int IntKind.i64 1, .slice (some ⟨w.heap.size, 0, none⟩) 1 1, Value.int IntKind.i64 2, .slice (some ⟨w.heap.size + 1, 0, none⟩) 1 1] 31))
    fun e w' => e = .returned (.bool true) ∧ Below w.heap.size w w' := by
  have hB : Below w.heap.size w (((w.alloc (Obj.cells #[Value.int IntKind.i64 (-1)] 3)).alloc (Obj.cells #[Value.int IntKind.i64 (-1)] 3)).alloc (Obj.cells #[Value.int IntKind.i64 1, .slice (some ⟨w.heap.size, 0, none⟩) 1 1, Value.int IntKind.i64 2, .slice (some ⟨w.heap.size + 1, 0, none⟩) 1 1] 31)) := (below_step (below_step (below_alloc _) (below_alloc _)) (below_alloc _))
  obtain ⟨W, hW⟩ : ∃ W, W = (((w.alloc (Obj.cells #[Value.int IntKind.i64 (-1)] 3)).alloc (Obj.cells #[Value.int IntKind.i64 (-1)] 3)).alloc (Obj.cells #[Value.int IntKind.i64 1, .slice (some ⟨w.heap.size, 0, none⟩) 1 1, Value.int IntKind.i64 2, .slice (some ⟨w.heap.size + 1, 0, none⟩) 1 1] 31)) := ⟨_, rfl⟩
  have hsz : W.heap.size = w.heap.size + 3 := by rw [hW]; simp
  have i1 : Is W (.slice (some ⟨w.heap.size, 0, none⟩) 1 1) [-1] := by
    refine is_lit (p := [-1]) (by omega) (by decide) ⟨ei (by omega) (by omega) ?_, trivial⟩ <;> (rw [hW]; repeat (first | (refine cell_newg ?_ rfl; simp; done) | refine cell_old ?_))
  have i2 : Is W (.slice (some ⟨w.heap.size + 1, 0, none⟩) 1 1) [-1] := by
    refine is_lit (p := [-1]) (by omega) (by decide) ⟨ei (by omega) (by omega) ?_, trivial⟩ <;> (rw [hW]; repeat (first | (refine cell_newg ?_ rfl; simp; done) | refine cell_old ?_))
  have i3 : Bs W (.slice (some ⟨w.heap.size + 1 + 1, 0, none⟩) 2 2) [(1, [-1]), (2, [-1])] := by
    refine bs_lit (p := [(1, [-1]), (2, [-1])]) (by omega) (by decide) ⟨⟨by decide, by decide, by decide, ?_, _, ?_, i1⟩, ⟨by decide, by decide, by decide, ?_, _, ?_, i2⟩, trivial⟩ <;> (rw [hW]; repeat (first | (refine cell_newg ?_ rfl; simp; done) | refine cell_old ?_))
  rw [← hW] at hB ⊢
  refine (same6_any v _ _ W (h.kp (Kp.of_below hB)) i3).mono ?_
  rintro e w' ⟨rfl, hb⟩
  exact ⟨rfl, below_step hB hb⟩

set_option maxRecDepth 100000 in
set_option maxHeartbeats 3200000 in
theorem shown6_any (w : World) (hT : Tabs w) : Calls Tryd.prog 9 #[] w fun e w' => e = .returned (.bool true) ∧ Below w.heap.size w w' := by
  have HT := hid hT
  clear hT
  have HBz := hid (Below.refl w.heap.size w)
  go_enter Tryd.func9, Tryd.ntmps9
  go_wp2_with fail
  refine (sum6_any w).mono ?_
  rintro e w1 ⟨sv1, rfl, hs1, hb1⟩
  obtain ⟨so1, sc1, rfl, _, _, _⟩ := Row.flat hs1
  have HS := hid hs1
  have HBzn := hid (below_step HBz.out hb1)
  clear HBz 
  have HBz := HBzn
  clear HBzn
  clear hs1 hb1
  go_wp2_with fail
  refine (u6_1 w1 _ HS.out (HT.out.below HBz.out)).mono ?_
  rintro e w2 ⟨ao1, cap1, rfl, hbs1, hb2⟩
  clear HS
  have HBzn := hid (below_step HBz.out hb2)
  clear HBz 
  have HBz := HBzn
  clear HBzn
  have HV1 := hid hbs1
  clear hbs1
  clear hb2
  go_wp2_with fail
  refine (sum6_any w2).mono ?_
  rintro e w3 ⟨sv3, rfl, hs3, hb3⟩
  obtain ⟨so3, sc3, rfl, _, _, _⟩ := Row.flat hs3
  have HS := hid hs3
  have HV1n := hid (HV1.out.kp (Kp.of_below hb3))
  have HBzn := hid (below_step HBz.out hb3)
  clear HBz HV1
  have HBz := HBzn
  clear HBzn
  have HV1 := HV1n
  clear HV1n
  clear hs3 hb3
  go_wp2_with fail
  refine (u6_2 w3 _ HS.out (HT.out.below HBz.out)).mono ?_
  rintro e w4 ⟨ao2, cap2, rfl, hbs2, hb4⟩
  clear HS
  have HV1n := hid (HV1.out.kp (Kp.of_below hb4))
  have HBzn := hid (below_step HBz.out hb4)
  clear HBz HV1
  have HBz := HBzn
  clear HBzn
  have HV1 := HV1n
  clear HV1n
  have HV2 := hid hbs2
  clear hbs2
  clear hb4
  go_wp2_with fail
  refine (sum6_any w4).mono ?_
  rintro e w5 ⟨sv5, rfl, hs5, hb5⟩
  obtain ⟨so5, sc5, rfl, _, _, _⟩ := Row.flat hs5
  have HS := hid hs5
  have HV1n := hid (HV1.out.kp (Kp.of_below hb5))
  have HV2n := hid (HV2.out.kp (Kp.of_below hb5))
  have HBzn := hid (below_step HBz.out hb5)
  clear HBz HV1 HV2
  have HBz := HBzn
  clear HBzn
  have HV1 := HV1n
  clear HV1n
  have HV2 := HV2n
  clear HV2n
  clear hs5 hb5
  go_wp2_with fail
  refine (u6_3 w5 _ HS.out (HT.out.below HBz.out)).mono ?_
  rintro e w6 ⟨ao3, cap3, rfl, hbs3, hb6⟩
  clear HS
  have HV1n := hid (HV1.out.kp (Kp.of_below hb6))
  have HV2n := hid (HV2.out.kp (Kp.of_below hb6))
  have HBzn := hid (below_step HBz.out hb6)
  clear HBz HV1 HV2
  have HBz := HBzn
  clear HBzn
  have HV1 := HV1n
  clear HV1n
  have HV2 := HV2n
  clear HV2n
  clear hbs3
  clear hb6
  go_wp2_with fail
  refine (sum6_any w6).mono ?_
  rintro e w7 ⟨sv7, rfl, hs7, hb7⟩
  obtain ⟨so7, sc7, rfl, _, _, _⟩ := Row.flat hs7
  have HS := hid hs7
  have HV1n := hid (HV1.out.kp (Kp.of_below hb7))
  have HV2n := hid (HV2.out.kp (Kp.of_below hb7))
  have HBzn := hid (below_step HBz.out hb7)
  clear HBz HV1 HV2
  have HBz := HBzn
  clear HBzn
  have HV1 := HV1n
  clear HV1n
  have HV2 := HV2n
  clear HV2n
  clear hs7 hb7
  go_wp2_with fail
  refine (u6_4 w7 _ HS.out (HT.out.below HBz.out)).mono ?_
  rintro e w8 ⟨ao4, cap4, rfl, hbs4, hb8⟩
  clear HS
  have HV1n := hid (HV1.out.kp (Kp.of_below hb8))
  have HV2n := hid (HV2.out.kp (Kp.of_below hb8))
  have HBzn := hid (below_step HBz.out hb8)
  clear HBz HV1 HV2
  have HBz := HBzn
  clear HBzn
  have HV1 := HV1n
  clear HV1n
  have HV2 := HV2n
  clear HV2n
  clear hbs4
  clear hb8
  go_wp2_with fail
  refine (sum6_any w8).mono ?_
  rintro e w9 ⟨sv9, rfl, hs9, hb9⟩
  obtain ⟨so9, sc9, rfl, _, _, _⟩ := Row.flat hs9
  have HS := hid hs9
  have HV1n := hid (HV1.out.kp (Kp.of_below hb9))
  have HV2n := hid (HV2.out.kp (Kp.of_below hb9))
  have HBzn := hid (below_step HBz.out hb9)
  clear HBz HV1 HV2
  have HBz := HBzn
  clear HBzn
  have HV1 := HV1n
  clear HV1n
  have HV2 := HV2n
  clear HV2n
  clear hs9 hb9
  go_wp2_with fail
  refine (u6_5 w9 _ HS.out (HT.out.below HBz.out)).mono ?_
  rintro e w10 ⟨ao5, cap5, rfl, hbs5, hb10⟩
  clear HS
  have HV1n := hid (HV1.out.kp (Kp.of_below hb10))
  have HV2n := hid (HV2.out.kp (Kp.of_below hb10))
  have HBzn := hid (below_step HBz.out hb10)
  clear HBz HV1 HV2
  have HBz := HBzn
  clear HBzn
  have HV1 := HV1n
  clear HV1n
  have HV2 := HV2n
  clear HV2n
  clear hbs5
  clear hb10
  go_wp2_with fail
  refine (s6_1 w10 _ HV1.out).mono ?_
  rintro e w11 ⟨rfl, hb11⟩
  have HV1n := hid (HV1.out.kp (Kp.of_below hb11))
  have HV2n := hid (HV2.out.kp (Kp.of_below hb11))
  have HBzn := hid (below_step HBz.out hb11)
  clear HBz HV1 HV2
  have HBz := HBzn
  clear HBzn
  have HV1 := HV1n
  clear HV1n
  have HV2 := HV2n
  clear HV2n
  clear hb11
  go_wp2_with fail
  refine (s6_2 w11 _ HV2.out).mono ?_
  rintro e w12 ⟨rfl, hb12⟩
  have HV1n := hid (HV1.out.kp (Kp.of_below hb12))
  have HV2n := hid (HV2.out.kp (Kp.of_below hb12))
  have HBzn := hid (below_step HBz.out hb12)
  clear HBz HV1 HV2
  have HBz := HBzn
  clear HBzn
  have HV1 := HV1n
  clear HV1n
  have HV2 := HV2n
  clear HV2n
  clear hb12
  go_wp2_with fail
  refine (sum6_any w12).mono ?_
  rintro e w13 ⟨sv13, rfl, hs13, hb13⟩
  obtain ⟨so13, sc13, rfl, _, _, _⟩ := Row.flat hs13
  have HS := hid hs13
  have HV1n := hid (HV1.out.kp (Kp.of_below hb13))
  have HV2n := hid (HV2.out.kp (Kp.of_below hb13))
  have HBzn := hid (below_step HBz.out hb13)
  clear HBz HV1 HV2
  have HBz := HBzn
  clear HBzn
  have HV1 := HV1n
  clear HV1n
  have HV2 := HV2n
  clear HV2n
  clear hs13 hb13
  go_wp2_with fail
  refine (c6_6 w13 _ HS.out (HT.out.below HBz.out)).mono ?_
  rintro e w14 ⟨rfl, hb14⟩
  clear HS
  have HV1n := hid (HV1.out.kp (Kp.of_below hb14))
  have HV2n := hid (HV2.out.kp (Kp.of_below hb14))
  have HBzn := hid (below_step HBz.out hb14)
  clear HBz HV1 HV2
  have HBz := HBzn
  clear HBzn
  have HV1 := HV1n
  clear HV1n
  have HV2 := HV2n
  clear HV2n
  clear hb14
  go_wp2_with fail
  refine (sum6_any w14).mono ?_
  rintro e w15 ⟨sv15, rfl, hs15, hb15⟩
  obtain ⟨so15, sc15, rfl, _, _, _⟩ := Row.flat hs15
  have HS := hid hs15
  have HV1n := hid (HV1.out.kp (Kp.of_below hb15))
  have HV2n := hid (HV2.out.kp (Kp.of_below hb15))
  have HBzn := hid (below_step HBz.out hb15)
  clear HBz HV1 HV2
  have HBz := HBzn
  clear HBzn
  have HV1 := HV1n
  clear HV1n
  have HV2 := HV2n
  clear HV2n
  clear hs15 hb15
  go_wp2_with fail
  refine (c6_7 w15 _ HS.out (HT.out.below HBz.out)).mono ?_
  rintro e w16 ⟨rfl, hb16⟩
  clear HS
  have HV1n := hid (HV1.out.kp (Kp.of_below hb16))
  have HV2n := hid (HV2.out.kp (Kp.of_below hb16))
  have HBzn := hid (below_step HBz.out hb16)
  clear HBz HV1 HV2
  have HBz := HBzn
  clear HBzn
  have HV1 := HV1n
  clear HV1n
  have HV2 := HV2n
  clear HV2n
  clear hb16
  go_wp2
  go_ret
  exact ⟨rfl, HBz.out⟩

end Go.Proofs.YtelacmijkbgliaaDoor

/- The document's board of two terms, plainly: places, classes, what is joined; when two terms unify. -/
namespace Go.Proofs.YtelacmijkbgliaaDoor
open Go.RowKit

/-- A board: codes, and of each place those of its arguments, which stand behind it. -/
structure BOk6 (sig : List Sy) (X : List Int) (K : List (List Nat)) : Prop where
  len : K.length = X.length
  code : ∀ (i : Nat) (c : Int), X[i]? = some c → -1048576 ≤ c ∧ (¬ c < 0 → c.toNat < sig.length)
  kids : ∀ (i : Nat) (c : Int) (ks : List Nat), X[i]? = some c → K[i]? = some ks → (c < 0 → ks = []) ∧ (¬ c < 0 → ks.length = arN sig c)
  lt : ∀ (i : Nat) (ks : List Nat), K[i]? = some ks → ∀ j ∈ ks, i < j ∧ j < X.length

/-- What places become. -/
def ValB (sig : List Sy) (X : List Int) (K : List (List Nat)) (V : Nat → List Int) : Prop :=
  (∀ i, i < X.length → rowE sig (V i) = 0) ∧ (∀ (i : Nat) (c : Int) (ks : List Nat), X[i]? = some c → K[i]? = some ks → ¬ c < 0 → V i = c :: (ks.map V).flatten) ∧ ∀ (i j : Nat) (c : Int), c < 0 → X[i]? = some c → X[j]? = some c → V i = V j

/-- The term at a place. -/
inductive TmB (X : List Int) (K : List (List Nat)) : Nat → List Int → Prop
  | var {i : Nat} {c : Int} (h : X[i]? = some c) (hc : c < 0) : TmB X K i [c]
  | app {i : Nat} {c : Int} {ks : List Nat} {ts : List (List Int)} (h : X[i]? = some c) (hc : ¬ c < 0) (hk : K[i]? = some ks) (hl : ts.length = ks.length) (ht : ∀ (k x : Nat) (t : List Int), ks[k]? = some x → ts[k]? = some t → TmB X K x t) : TmB X K i (c :: ts.flatten)

theorem tmB_lt {X : List Int} {K : List (List Nat)} {i : Nat} {t : List Int} (h : TmB X K i t) : i < X.length := by
  cases h with
  | var h _ => exact (List.getElem?_eq_some_iff.1 h).1
  | app h _ _ _ _ => exact (List.getElem?_eq_some_iff.1 h).1

theorem tmB_one {X : List Int} {K : List (List Nat)} {i : Nat} {t : List Int} (h : TmB X K i t) : ∀ t', TmB X K i t' → t = t' := by
  induction h with
  | var h hc =>
    intro t' h'
    cases h' with
    | var h' _ => rw [h] at h'; cases h'; rfl
    | app h' hc' _ _ _ => rw [h] at h'; cases h'; exact absurd hc hc'
  | app h hc hk hl ht ih =>
    rename_i i c ks ts
    intro t' h'
    cases h' with
    | var h' hc' => rw [h] at h'; cases h'; exact absurd hc' hc
    | app h' hc2 hk' hl' ht' =>
      rw [h] at h'
      cases h'
      rw [hk] at hk'
      cases hk'
      rename_i ts'
      have e : ts = ts' := by
        apply List.ext_getElem (by omega)
        intro k h1 h2
        have hx : ks[k]? = some ks[k] := List.getElem?_eq_getElem (by omega)
        exact ih k _ _ hx (List.getElem?_eq_getElem h1) _ (ht' k _ _ hx (List.getElem?_eq_getElem h2))
      rw [e]

theorem tmB_right {sig : List Sy} (ha : ArOk sig) {X : List Int} {K : List (List Nat)} (hB : BOk6 sig X K) {i : Nat} {t : List Int} (h : TmB X K i t) : rowE sig t = 0 := by
  induction h with
  | var h hc => exact row_var hc (hB.code _ _ h).1
  | app h hc hk hl ht ih =>
    refine row_parts ha hc ((hB.code _ _ h).2 hc) (by rw [hl]; exact (hB.kids _ _ _ h hk).2 hc) (fun u hu => ?_)
    obtain ⟨k, hk'⟩ := List.getElem?_of_mem hu
    have hkl := (List.getElem?_eq_some_iff.1 hk').1
    exact ih k _ u (List.getElem?_eq_getElem (by omega)) hk'

noncomputable def tB (X : List Int) (K : List (List Nat)) (i : Nat) : List Int := @dite _ (∃ t, TmB X K i t) (Classical.propDecidable _) (fun h => Classical.choose h) (fun _ => [])

theorem tB_eq {X : List Int} {K : List (List Nat)} {i : Nat} {t : List Int} (h : TmB X K i t) : tB X K i = t := by
  have h9 : ∃ t, TmB X K i t := ⟨t, h⟩
  unfold tB
  rw [dif_pos h9]
  exact tmB_one (Classical.choose_spec h9) t h

theorem tmB_all {sig : List Sy} {X : List Int} {K : List (List Nat)} (hB : BOk6 sig X K) : ∀ (m i : Nat), X.length - i < m → i < X.length → ∃ t, TmB X K i t
  | 0, i, h, _ => by omega
  | m + 1, i, h, hi => by
    have hx : X[i]? = some X[i] := List.getElem?_eq_getElem hi
    by_cases hc : X[i] < 0
    · exact ⟨_, .var hx hc⟩
    · have hk : K[i]? = some (K[i]'(by rw [hB.len]; exact hi)) := List.getElem?_eq_getElem _
      refine ⟨_, .app (ts := (K[i]'(by rw [hB.len]; exact hi)).map (tB X K)) hx hc hk (by rw [List.length_map]) (fun k x t h1 h2 => ?_)⟩
      have h3 := hB.lt i _ hk x (List.mem_of_getElem? h1)
      obtain ⟨t', ht'⟩ := tmB_all hB m x (by omega) h3.2
      rw [List.getElem?_map, h1, Option.map_some, Option.some.injEq] at h2
      rw [← h2, tB_eq ht']
      exact ht'

/-- Where nothing makes two places one, no binds make the two terms one. -/
theorem unifB_no {sig : List Sy} (ha : ArOk sig) {X : List Int} {K : List (List Nat)} (hB : BOk6 sig X K) {a b : List Int} {ra rb : Nat} (hta : TmB X K ra a) (htb : TmB X K rb b) (hno : ∀ V, ValB sig X K V → V ra ≠ V rb) : ¬ Unif sig a b := by
  rintro ⟨f, hf, he⟩
  have hT : ∀ i, i < X.length → TmB X K i (tB X K i) := fun i hi => by
    obtain ⟨t, ht⟩ := tmB_all hB (X.length - i + 1) i (by omega) hi
    rw [tB_eq ht]
    exact ht
  refine hno (fun i => laidL f (tB X K i)) ⟨fun i hi => row_laid ha hf (tmB_right ha hB (hT i hi)), fun i c ks hx hk hc => ?_, fun i j c hc hi hj => ?_⟩ ?_
  · have hil := (List.getElem?_eq_some_iff.1 hx).1
    show laidL f (tB X K i) = _
    have h9 : TmB X K i (c :: (ks.map (tB X K)).flatten) := .app hx hc hk (by rw [List.length_map]) (fun k x t h1 h2 => by
      rw [List.getElem?_map, h1, Option.map_some, Option.some.injEq] at h2
      rw [← h2]
      exact hT x (hB.lt i ks hk x (List.mem_of_getElem? h1)).2)
    rw [tB_eq h9, laid_sym hc, laid_flat, List.map_map]
    rfl
  · show laidL f (tB X K i) = laidL f (tB X K j)
    rw [tB_eq (TmB.var hi hc), tB_eq (TmB.var hj hc)]
  · show laidL f (tB X K ra) = laidL f (tB X K rb)
    rw [tB_eq hta, tB_eq htb]
    exact he

/-- Classes: each by the place of a member that stands no later; all places of a variable are in one. -/
structure ClB (X : List Int) (C : List Nat) : Prop where
  len : C.length = X.length
  id : ∀ (i c : Nat), C[i]? = some c → c ≤ i ∧ C[c]? = some c
  var : ∀ (i j : Nat) (c : Int), c < 0 → X[i]? = some c → X[j]? = some c → C[i]? = C[j]?

/-- Whatever makes the two places one makes all of a class one. -/
def JnB (sig : List Sy) (X : List Int) (K : List (List Nat)) (C : List Nat) (ra rb : Nat) : Prop :=
  ∀ V, ValB sig X K V → V ra = V rb → ∀ i j, i < X.length → j < X.length → C[i]? = C[j]? → V i = V j

/-- Class b is joined to class a. -/
def joinC (C : List Nat) (a b : Nat) : List Nat := C.map fun c => if c = b then a else c

theorem joinC_at {C : List Nat} {a b i : Nat} : (joinC C a b)[i]? = (C[i]?).map fun c => if c = b then a else c := by
  unfold joinC
  rw [List.getElem?_map]

theorem clB_join {X : List Int} {C : List Nat} (h : ClB X C) {a b : Nat} (ha : C[a]? = some a) (_hb : C[b]? = some b) (hab : a < b) : ClB X (joinC C a b) := by
  refine ⟨by unfold joinC; rw [List.length_map, h.len], fun i c hc => ?_, fun i j c hc hi hj => ?_⟩
  · rw [joinC_at] at hc ⊢
    cases hd : C[i]? with
    | none => rw [hd] at hc; cases hc
    | some d =>
      rw [hd] at hc
      obtain ⟨h1, h2⟩ := h.id i d hd
      simp only [Option.map_some, Option.some.injEq] at hc
      by_cases hdb : d = b
      · rw [if_pos hdb] at hc
        subst hc
        rw [ha]
        exact ⟨by omega, by simp only [Option.map_some]; rw [if_neg (by omega)]⟩
      · rw [if_neg hdb] at hc
        subst hc
        rw [h2]
        exact ⟨h1, by simp only [Option.map_some]; rw [if_neg hdb]⟩
  · rw [joinC_at, joinC_at, h.var i j c hc hi hj]

theorem jnB_join {sig : List Sy} {X : List Int} {K : List (List Nat)} {C : List Nat} {ra rb : Nat} (h : JnB sig X K C ra rb) (hC : ClB X C) {a b i k : Nat} (hi : i < X.length) (hk : k < X.length) (hik : (C[i]? = some a ∧ C[k]? = some b) ∨ (C[i]? = some b ∧ C[k]? = some a)) (hv : ∀ V, ValB sig X K V → V ra = V rb → V i = V k) : JnB sig X K (joinC C a b) ra rb := fun V hV he x y hx hy hxy => by
  have h0 := h V hV he
  have h1 := hv V hV he
  have hab : ∀ x, x < X.length → (C[x]? = some a ∨ C[x]? = some b) → V x = V i := fun x hx hd => by
    rcases hik with ⟨e1, e2⟩ | ⟨e1, e2⟩ <;> rcases hd with hd | hd
    · exact h0 x i hx hi (by rw [hd, e1])
    · rw [h1]; exact h0 x k hx hk (by rw [hd, e2])
    · rw [h1]; exact h0 x k hx hk (by rw [hd, e2])
    · exact h0 x i hx hi (by rw [hd, e1])
  rw [joinC_at, joinC_at] at hxy
  have ex : C[x]? = some (C[x]'(by rw [hC.len]; exact hx)) := List.getElem?_eq_getElem _
  have ey : C[y]? = some (C[y]'(by rw [hC.len]; exact hy)) := List.getElem?_eq_getElem _
  generalize C[x]'(by rw [hC.len]; exact hx) = c at ex
  generalize C[y]'(by rw [hC.len]; exact hy) = d at ey
  rw [ex, ey] at hxy
  simp only [Option.map_some, Option.some.injEq] at hxy
  by_cases hc : c = b
  · rw [if_pos hc] at hxy
    by_cases hd : d = b
    · exact h0 x y hx hy (by rw [ex, ey, hc, hd])
    · rw [if_neg hd] at hxy
      rw [hab x hx (.inr (by rw [ex, hc])), hab y hy (.inl (by rw [ey, hxy]))]
  · rw [if_neg hc] at hxy
    by_cases hd : d = b
    · rw [if_pos hd] at hxy
      rw [hab x hx (.inl (by rw [ex, hxy])), hab y hy (.inr (by rw [ey, hd]))]
    · rw [if_neg hd] at hxy
      exact h0 x y hx hy (by rw [ex, ey, hxy])

/-- Arguments of two places of one symbol that become one. -/
theorem argsB_same {sig : List Sy} {X : List Int} {K : List (List Nat)} (hB : BOk6 sig X K) {V : Nat → List Int} (hV : ValB sig X K V) {i h : Nat} {c d : Int} {ks ls : List Nat} (hi : X[i]? = some c) (hh : X[h]? = some d) (hki : K[i]? = some ks) (hkh : K[h]? = some ls) (hc : ¬ c < 0) (hd : ¬ d < 0) (he : V i = V h) : c = d ∧ ks.map V = ls.map V := by
  have f1 := hV.2.1 i c ks hi hki hc
  have f2 := hV.2.1 h d ls hh hkh hd
  rw [he, f2] at f1
  simp only [List.cons.injEq] at f1
  obtain ⟨rfl, f3⟩ := f1
  refine ⟨rfl, (rows_one6 (sig := sig) _ _ (fun u hu => ?_) (fun u hu => ?_) ?_ f3).symm⟩
  · obtain ⟨j, hj, rfl⟩ := List.mem_map.1 hu
    exact hV.1 j (hB.lt h ls hkh j hj).2
  · obtain ⟨j, hj, rfl⟩ := List.mem_map.1 hu
    exact hV.1 j (hB.lt i ks hki j hj).2
  · rw [List.length_map, List.length_map, (hB.kids i _ ks hi hki).2 hc, (hB.kids h _ ls hh hkh).2 hd]

/-- The first place of a class that is no variable. -/
def headB (X : List Int) (C : List Nat) (c : Nat) : Option Nat := (List.range X.length).find? fun i => decide (C[i]? = some c) && decide (0 ≤ (X[i]?).getD (-1))

theorem headB_some {X : List Int} {C : List Nat} {c h : Nat} (hh : headB X C c = some h) : h < X.length ∧ C[h]? = some c ∧ ∃ d, X[h]? = some d ∧ ¬ d < 0 := by
  unfold headB at hh
  have h1 := List.find?_some hh
  have h2 := List.mem_of_find?_eq_some hh
  rw [List.mem_range] at h2
  simp only [Bool.and_eq_true, decide_eq_true_eq] at h1
  refine ⟨h2, h1.1, X[h], List.getElem?_eq_getElem h2, ?_⟩
  rw [List.getElem?_eq_getElem h2, Option.getD_some] at h1
  omega

theorem headB_of {X : List Int} {C : List Nat} {c i : Nat} {d : Int} (hi : X[i]? = some d) (hd : ¬ d < 0) (hc : C[i]? = some c) : ∃ h, headB X C c = some h := by
  cases hh : headB X C c with
  | some h => exact ⟨h, rfl⟩
  | none =>
    unfold headB at hh
    rw [List.find?_eq_none] at hh
    have := hh i (List.mem_range.2 (List.getElem?_eq_some_iff.1 hi).1)
    rw [hi, hc, Option.getD_some] at this
    simp at this
    omega

/-- All is joined that must be: applications of one class have one symbol, and their arguments are in one class. -/
def CloB (X : List Int) (K : List (List Nat)) (C : List Nat) : Prop := ∀ (i c h : Nat) (s : Int) (ks : List Nat), X[i]? = some s → ¬ s < 0 → K[i]? = some ks → C[i]? = some c → headB X C c = some h → X[h]? = some s ∧ ∀ ls, K[h]? = some ls → ∀ (k x y : Nat), ks[k]? = some x → ls[k]? = some y → C[x]? = C[y]?

/-- The variable of the least number in a class. -/
def lstS (c : Nat) (a : Int) (p : Int × Nat) : Int := if p.2 = c ∧ p.1 < 0 ∧ (a = 0 ∨ a < p.1) then p.1 else a

def lstB (X : List Int) (C : List Nat) (c : Nat) : Int := (X.zip C).foldl (lstS c) 0

/-- What a class becomes. -/
inductive TmK (X : List Int) (K : List (List Nat)) (C : List Nat) : Nat → List Int → Prop
  | var {c : Nat} (h : headB X C c = none) : TmK X K C c [lstB X C c]
  | app {c h : Nat} {s : Int} {ks : List Nat} {ts : List (List Int)} (hh : headB X C c = some h) (hx : X[h]? = some s) (hk : K[h]? = some ks) (hl : ts.length = ks.length) (ht : ∀ (k x d : Nat) (t : List Int), ks[k]? = some x → C[x]? = some d → ts[k]? = some t → TmK X K C d t) : TmK X K C c (s :: ts.flatten)

theorem lst_some (c : Nat) : ∀ (l : List (Int × Nat)) (a : Int), a < 0 → (l.foldl (lstS c) a = a ∨ ∃ p ∈ l, p.2 = c ∧ p.1 < 0 ∧ l.foldl (lstS c) a = p.1) ∧ l.foldl (lstS c) a < 0 ∧ a ≤ l.foldl (lstS c) a ∧ ∀ p ∈ l, p.2 = c → p.1 < 0 → p.1 ≤ l.foldl (lstS c) a
  | [], a, h => ⟨.inl rfl, h, Int.le_refl _, fun p hp => by cases hp⟩
  | p :: l, a, h => by
    rw [List.foldl_cons]
    by_cases hp : p.2 = c ∧ p.1 < 0 ∧ (a = 0 ∨ a < p.1)
    · have e : lstS c a p = p.1 := by unfold lstS; rw [if_pos hp]
      rw [e]
      obtain ⟨h1, h2, h3, h4⟩ := lst_some c l p.1 hp.2.1
      refine ⟨.inr ?_, h2, by omega, fun q hq hqc hq0 => ?_⟩
      · rcases h1 with h1 | ⟨q, hq, h5, h6, h7⟩
        · exact ⟨p, by simp, hp.1, hp.2.1, h1⟩
        · exact ⟨q, by simp [hq], h5, h6, h7⟩
      · rcases List.mem_cons.1 hq with rfl | hq
        · exact h3
        · exact h4 q hq hqc hq0
    · have e : lstS c a p = a := by unfold lstS; rw [if_neg hp]
      rw [e]
      obtain ⟨h1, h2, h3, h4⟩ := lst_some c l a h
      refine ⟨?_, h2, h3, fun q hq hqc hq0 => ?_⟩
      · rcases h1 with h1 | ⟨q, hq, h5, h6, h7⟩
        · exact .inl h1
        · exact .inr ⟨q, by simp [hq], h5, h6, h7⟩
      · rcases List.mem_cons.1 hq with rfl | hq
        · have : q.1 ≤ a := by
            by_cases h9 : a < q.1
            · exact absurd ⟨hqc, hq0, .inr h9⟩ hp
            · omega
          omega
        · exact h4 q hq hqc hq0

theorem lst_zero (c : Nat) : ∀ (l : List (Int × Nat)), (∃ p ∈ l, p.2 = c ∧ p.1 < 0) → ∃ p ∈ l, p.2 = c ∧ p.1 < 0 ∧ l.foldl (lstS c) 0 = p.1 ∧ ∀ q ∈ l, q.2 = c → q.1 < 0 → q.1 ≤ p.1
  | [], h => by obtain ⟨p, hp, _⟩ := h; cases hp
  | p :: l, h => by
    rw [List.foldl_cons]
    by_cases hp : p.2 = c ∧ p.1 < 0 ∧ ((0 : Int) = 0 ∨ 0 < p.1)
    · have e : lstS c 0 p = p.1 := by unfold lstS; rw [if_pos hp]
      rw [e]
      obtain ⟨h1, h2, h3, h4⟩ := lst_some c l p.1 hp.2.1
      rcases h1 with h1 | ⟨q, hq, h5, h6, h7⟩
      · refine ⟨p, by simp, hp.1, hp.2.1, h1, fun q hq hqc hq0 => ?_⟩
        rcases List.mem_cons.1 hq with rfl | hq
        · exact Int.le_refl _
        · rw [← h1]; exact h4 q hq hqc hq0
      · refine ⟨q, by simp [hq], h5, h6, h7, fun z hz hzc hz0 => ?_⟩
        rcases List.mem_cons.1 hz with rfl | hz
        · omega
        · rw [← h7]; exact h4 z hz hzc hz0
    · have e : lstS c 0 p = 0 := by unfold lstS; rw [if_neg hp]
      rw [e]
      have hp2 : ¬ (p.2 = c ∧ p.1 < 0) := fun h9 => hp ⟨h9.1, h9.2, .inl rfl⟩
      obtain ⟨q, hq, h5, h6⟩ := h
      have hql : q ∈ l := by
        rcases List.mem_cons.1 hq with rfl | hq
        · exact absurd ⟨h5, h6⟩ hp2
        · exact hq
      obtain ⟨z, hz, h7, h8, h9, h10⟩ := lst_zero c l ⟨q, hql, h5, h6⟩
      refine ⟨z, by simp [hz], h7, h8, h9, fun y hy hyc hy0 => ?_⟩
      rcases List.mem_cons.1 hy with rfl | hy
      · exact absurd ⟨hyc, hy0⟩ hp2
      · exact h10 y hy hyc hy0

/-- The least of a class without a symbol. -/
theorem lstB_of {X : List Int} {C : List Nat} (hC : ClB X C) {c : Nat} (hid : C[c]? = some c) (hn : headB X C c = none) : ∃ i : Nat, X[i]? = some (lstB X C c) ∧ C[i]? = some c ∧ lstB X C c < 0 ∧ ∀ (j : Nat) (d : Int), X[j]? = some d → d < 0 → C[j]? = some c → d ≤ lstB X C c := by
  have hcl : c < X.length := by rw [← hC.len]; exact (List.getElem?_eq_some_iff.1 hid).1
  have hx : X[c]? = some X[c] := List.getElem?_eq_getElem hcl
  have h0 : X[c] < 0 := by
    by_cases h9 : X[c] < 0
    · exact h9
    · obtain ⟨h, hh⟩ := headB_of hx h9 hid
      rw [hn] at hh
      cases hh
  have hz : ∀ (j : Nat) (d : Int), X[j]? = some d → C[j]? = some c → (d, c) ∈ X.zip C := fun j d h1 h2 => List.mem_of_getElem? (i := j) (by rw [List.getElem?_zip_eq_some]; exact ⟨h1, h2⟩)
  obtain ⟨p, hp, h1, h2, h3, h4⟩ := lst_zero c (X.zip C) ⟨_, hz c _ hx hid, rfl, h0⟩
  obtain ⟨i, hi⟩ := List.getElem?_of_mem hp
  rw [List.getElem?_zip_eq_some] at hi
  have e : lstB X C c = p.1 := h3
  rw [e]
  exact ⟨i, hi.1, by rw [hi.2, h1], h2, fun j d h5 h6 h7 => h4 _ (hz j d h5 h7) rfl h6⟩

theorem tmK_one {X : List Int} {K : List (List Nat)} {C : List Nat} (hlt : ∀ (i : Nat) (ks : List Nat), K[i]? = some ks → ∀ j ∈ ks, j < C.length) {c : Nat} {t : List Int} (h : TmK X K C c t) : ∀ t', TmK X K C c t' → t = t' := by
  induction h with
  | var h =>
    intro t' h'
    cases h' with
    | var _ => rfl
    | app hh _ _ _ _ => rw [h] at hh; cases hh
  | app hh hx hk hl ht ih =>
    rename_i c h s ks ts
    intro t' h'
    cases h' with
    | var h' => rw [hh] at h'; cases h'
    | app hh' hx' hk' hl' ht' =>
      rw [hh] at hh'
      cases hh'
      rw [hx] at hx'
      cases hx'
      rw [hk] at hk'
      cases hk'
      rename_i ts'
      have e : ts = ts' := by
        apply List.ext_getElem (by omega)
        intro k h1 h2
        have hx : ks[k]? = some ks[k] := List.getElem?_eq_getElem (by omega)
        have hd : C[ks[k]]? = some (C[ks[k]]'(hlt _ _ hk _ (List.getElem_mem _))) := List.getElem?_eq_getElem _
        exact ih k _ _ _ hx hd (List.getElem?_eq_getElem h1) _ (ht' k _ _ _ hx hd (List.getElem?_eq_getElem h2))
      rw [e]

theorem tmK_right {sig : List Sy} (ha : ArOk sig) {X : List Int} {K : List (List Nat)} (hB : BOk6 sig X K) {C : List Nat} (hC : ClB X C) {c : Nat} {t : List Int} (h : TmK X K C c t) : C[c]? = some c → rowE sig t = 0 := by
  induction h with
  | var h =>
    intro hid
    obtain ⟨i, h1, _, h3, _⟩ := lstB_of hC hid h
    exact row_var h3 (hB.code _ _ h1).1
  | app hh hx hk hl ht ih =>
    rename_i c h s ks ts
    intro hid
    obtain ⟨_, _, d, h3, h4⟩ := headB_some hh
    rw [hx] at h3
    cases h3
    refine row_parts ha h4 ((hB.code _ _ hx).2 h4) (by rw [hl]; exact (hB.kids _ _ _ hx hk).2 h4) (fun u hu => ?_)
    obtain ⟨k, hk'⟩ := List.getElem?_of_mem hu
    have hkl := (List.getElem?_eq_some_iff.1 hk').1
    have hxk : ks[k]? = some ks[k] := List.getElem?_eq_getElem (by omega)
    have hlt := (hB.lt _ _ hk _ (List.mem_of_getElem? hxk)).2
    have hd : C[ks[k]]? = some (C[ks[k]]'(by rw [hC.len]; exact hlt)) := List.getElem?_eq_getElem _
    exact ih k _ _ u hxk hd hk' (hC.id _ _ hd).2

/-- What classes become, at hand. -/
structure SolB (sig : List Sy) (X : List Int) (K : List (List Nat)) (C : List Nat) (ra rb : Nat) : Prop where
  ok : ClB X C
  clo : CloB X K C
  tm : ∀ (i c : Nat), C[i]? = some c → ∃ t, TmK X K C c t
  one : C[ra]? = C[rb]?
  jn : JnB sig X K C ra rb

noncomputable def tK (X : List Int) (K : List (List Nat)) (C : List Nat) (i : Nat) : List Int := @dite _ (∃ c t, C[i]? = some c ∧ TmK X K C c t) (Classical.propDecidable _) (fun h => Classical.choose (Classical.choose_spec h)) (fun _ => [])

theorem tK_eq {sig : List Sy} {X : List Int} {K : List (List Nat)} (hB : BOk6 sig X K) {C : List Nat} (hC : ClB X C) {i c : Nat} {t : List Int} (hi : C[i]? = some c) (h : TmK X K C c t) : tK X K C i = t := by
  have h9 : ∃ c t, C[i]? = some c ∧ TmK X K C c t := ⟨c, t, hi, h⟩
  unfold tK
  rw [dif_pos h9]
  have h8 := Classical.choose_spec (Classical.choose_spec h9)
  have e : Classical.choose h9 = c := Option.some.inj (h8.1.symm.trans hi)
  refine tmK_one (fun i ks hk j hj => by rw [hC.len]; exact (hB.lt i ks hk j hj).2) h8.2 t ?_
  rw [e]
  exact h

/-- The binds of the classes. -/
noncomputable def gB6 (X : List Int) (K : List (List Nat)) (C : List Nat) (n : Int) : Option (List Int) := @dite _ (∃ i : Nat, X[i]? = some (-1 - n) ∧ -1 - n < 0) (Classical.propDecidable _) (fun h => some (tK X K C (Classical.choose h))) (fun _ => none)

theorem gB6_eq {sig : List Sy} {X : List Int} {K : List (List Nat)} {C : List Nat} {ra rb : Nat} (hB : BOk6 sig X K) (h : SolB sig X K C ra rb) {i : Nat} {n : Int} (hi : X[i]? = some (-1 - n)) (h0 : -1 - n < 0) : gB6 X K C n = some (tK X K C i) := by
  have h9 : ∃ i : Nat, X[i]? = some (-1 - n) ∧ -1 - n < 0 := ⟨i, hi, h0⟩
  unfold gB6
  rw [dif_pos h9]
  have h8 := Classical.choose_spec h9
  generalize Classical.choose h9 = j at h8 ⊢
  have e := h.ok.var i j _ h0 hi h8.1
  have hil : i < C.length := by rw [h.ok.len]; exact (List.getElem?_eq_some_iff.1 hi).1
  have hc : C[i]? = some C[i] := List.getElem?_eq_getElem hil
  obtain ⟨t, ht⟩ := h.tm i _ hc
  rw [tK_eq hB h.ok hc ht, tK_eq hB h.ok (by rw [← e]; exact hc) ht]

/-- Binds laid into a place's term give its class's. -/
theorem solB_laid {sig : List Sy} {X : List Int} {K : List (List Nat)} {C : List Nat} {ra rb : Nat} (hB : BOk6 sig X K) (h : SolB sig X K C ra rb) {i : Nat} {t : List Int} (ht : TmB X K i t) : laidL (gB6 X K C) t = tK X K C i := by
  induction ht with
  | var hx hc =>
    rename_i i c
    rw [laidL_cons]
    unfold piece
    rw [if_pos hc, gB6_eq hB h (i := i) (by rw [hx]; congr 1; omega) (by omega)]
    simp [laidL]
  | app hx hc hk hl ht ih =>
    rename_i i c ks ts
    have hil : i < C.length := by rw [h.ok.len]; exact (List.getElem?_eq_some_iff.1 hx).1
    have hci : C[i]? = some C[i] := List.getElem?_eq_getElem hil
    obtain ⟨hd, hhd⟩ := headB_of hx hc hci
    obtain ⟨hdl, hdc, d, hxd, hd0⟩ := headB_some hhd
    obtain ⟨e1, e2⟩ := h.clo i _ hd c ks hx hc hk hci hhd
    have hkd : K[hd]? = some (K[hd]'(by rw [hB.len]; exact hdl)) := List.getElem?_eq_getElem _
    generalize K[hd]'(by rw [hB.len]; exact hdl) = ls at hkd
    have hll : ls.length = ks.length := by rw [(hB.kids _ _ _ e1 hkd).2 hc, (hB.kids _ _ _ hx hk).2 hc]
    have hT : TmK X K C C[i] (c :: (ks.map (tK X K C)).flatten) := .app hhd e1 hkd (by rw [List.length_map, hll]) (fun k y e u h1 h2 h3 => by
      have hkl := (List.getElem?_eq_some_iff.1 h1).1
      have hk1 : ks[k]? = some ks[k] := List.getElem?_eq_getElem (by omega)
      rw [List.getElem?_map, hk1, Option.map_some, Option.some.injEq] at h3
      have h4 := e2 ls hkd k _ y hk1 h1
      obtain ⟨u', hu'⟩ := h.tm y e h2
      rw [← h3, tK_eq hB h.ok (by rw [h4]; exact h2) hu']
      exact hu')
    rw [tK_eq hB h.ok hci hT, laid_sym hc, laid_flat]
    congr 2
    exact (map_of (by rw [List.length_map, hl]) (fun k x y h1 h2 => by
      rw [List.getElem?_map] at h2
      cases h3 : ts[k]? with
      | none => rw [h3] at h2; cases h2
      | some u =>
        rw [h3, Option.map_some, Option.some.injEq] at h2
        rw [← h2]
        exact (ih k x u h1 h3).symm)).symm

theorem gB6_right {sig : List Sy} (ha : ArOk sig) {X : List Int} {K : List (List Nat)} {C : List Nat} {ra rb : Nat} (hB : BOk6 sig X K) (h : SolB sig X K C ra rb) : ∀ n u, gB6 X K C n = some u → rowE sig u = 0 := fun n u hu => by
  have hu0 := hu
  unfold gB6 at hu
  split at hu
  · rename_i h9
    obtain ⟨i, hi, h0⟩ := h9
    rw [gB6_eq hB h hi h0] at hu0
    cases hu0
    have hil : i < C.length := by rw [h.ok.len]; exact (List.getElem?_eq_some_iff.1 hi).1
    have hci : C[i]? = some C[i] := List.getElem?_eq_getElem hil
    obtain ⟨t, ht⟩ := h.tm i _ hci
    rw [tK_eq hB h.ok hci ht]
    exact tmK_right ha hB h.ok ht (h.ok.id _ _ hci).2
  · cases hu

theorem unifB_yes {sig : List Sy} (ha : ArOk sig) {X : List Int} {K : List (List Nat)} {C : List Nat} {ra rb : Nat} (hB : BOk6 sig X K) (h : SolB sig X K C ra rb) {a b : List Int} (hta : TmB X K ra a) (htb : TmB X K rb b) : Unif sig a b := by
  refine ⟨gB6 X K C, gB6_right ha hB h, ?_⟩
  rw [solB_laid hB h hta, solB_laid hB h htb]
  have hal : ra < C.length := by rw [h.ok.len]; exact tmB_lt hta
  have hca : C[ra]? = some C[ra] := List.getElem?_eq_getElem hal
  obtain ⟨t, ht⟩ := h.tm ra _ hca
  rw [tK_eq hB h.ok hca ht, tK_eq hB h.ok (by rw [← h.one]; exact hca) ht]

/-- Classes without an end: nothing solves. -/
theorem circleB {sig : List Sy} {X : List Int} {K : List (List Nat)} {C : List Nat} {ra rb : Nat} (hB : BOk6 sig X K) (hC : ClB X C) (hj : JnB sig X K C ra rb) (Z : Nat → Prop) (hZ : ∀ c, Z c → C[c]? = some c ∧ ∃ (h x d : Nat) (s : Int) (ks : List Nat), C[h]? = some c ∧ X[h]? = some s ∧ ¬ s < 0 ∧ K[h]? = some ks ∧ x ∈ ks ∧ C[x]? = some d ∧ Z d) {V : Nat → List Int} (hV : ValB sig X K V) (he : V ra = V rb) : ∀ (m c : Nat), (V c).length ≤ m → ¬ Z c
  | 0, c, hm, hz => by
    obtain ⟨hid, h, x, d, s, ks, h1, h2, h3, h4, h5, h6, h7⟩ := hZ c hz
    have hcl : c < X.length := by rw [← hC.len]; exact (List.getElem?_eq_some_iff.1 hid).1
    have hhl := (List.getElem?_eq_some_iff.1 h2).1
    have e := hj V hV he c h hcl hhl (by rw [hid, h1])
    rw [e, hV.2.1 h s ks h2 h4 h3] at hm
    simp at hm
  | m + 1, c, hm, hz => by
    obtain ⟨hid, h, x, d, s, ks, h1, h2, h3, h4, h5, h6, h7⟩ := hZ c hz
    have hcl : c < X.length := by rw [← hC.len]; exact (List.getElem?_eq_some_iff.1 hid).1
    have hhl := (List.getElem?_eq_some_iff.1 h2).1
    have e := hj V hV he c h hcl hhl (by rw [hid, h1])
    have hxl := (hB.lt h ks h4 x h5).2
    have hd := (hC.id x d h6).2
    have hdl : d < X.length := by rw [← hC.len]; exact (List.getElem?_eq_some_iff.1 hd).1
    have e2 := hj V hV he x d hxl hdl (by rw [h6, hd])
    rw [e, hV.2.1 h s ks h2 h4 h3, List.length_cons] at hm
    have h8 : (V x).length ≤ ((ks.map V).flatten).length := by
      obtain ⟨p, q, rfl⟩ := List.append_of_mem h5
      rw [List.map_append, List.map_cons, List.flatten_append, List.flatten_cons, List.length_append, List.length_append]
      omega
    exact circleB hB hC hj Z hZ hV he m d (by rw [← e2]; omega) h7

end Go.Proofs.YtelacmijkbgliaaDoor
