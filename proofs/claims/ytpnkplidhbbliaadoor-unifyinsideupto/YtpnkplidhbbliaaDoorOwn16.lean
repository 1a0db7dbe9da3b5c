/- The examples of layer 6 come out true. -/
import Derived.Test.YtpnkplidhbbliaaDoorOwn15
import Derived.Test.YtpnkplidhbbliaaDoorOwn4
namespace Go.Proofs.YtpnkplidhbbliaaDoor
open Go.RowKit Go.Maps Go.BigFrame

set_option maxRecDepth 100000 in
theorem u6_1 (w : World) (sv : Value) (hs : Sg w sv sumS) (hT : Tabs w) : Calls Tryd.prog 10 #[sv, .slice (some ⟨w.heap.size, 0, none⟩) 4 4, .slice (some ⟨w.heap.size + 1, 0, none⟩) 4 4] ((w.alloc (Obj.cells #[Value.int IntKind.i64 2, Value.int IntKind.i64 (-1), Value.int IntKind.i64 1, Value.int IntKind.i64 (-1)] 3)).alloc (Obj.cells #[Value.int IntKind.i64 2, Value.int IntKind.i64 1, Value.int IntKind.i64 (-2), Value.int IntKind.i64 (-3)] 3))
    fun e w' => ∃ ao cap, e = .returned (.tuple #[.slice ao 2 cap, .int .i64 0]) ∧ Bs w' (.slice ao 2 cap) [(0, [1, -2]), (2, [1, 1, -2])] ∧ Below w.heap.size w w' := by
  have hB : Below w.heap.size w ((w.alloc (Obj.cells #[Value.int IntKind.i64 2, Value.int IntKind.i64 (-1), Value.int IntKind.i64 1, Value.int IntKind.i64 (-1)] 3)).alloc (Obj.cells #[Value.int IntKind.i64 2, Value.int IntKind.i64 1, Value.int IntKind.i64 (-2), Value.int IntKind.i64 (-3)] 3)) := (below_step (below_alloc _) (below_alloc _))
  obtain ⟨W, hW⟩ : ∃ W, W = ((w.alloc (Obj.cells #[Value.int IntKind.i64 2, Value.int IntKind.i64 (-1), Value.int IntKind.i64 1, Value.int IntKind.i64 (-1)] 3)).alloc (Obj.cells #[Value.int IntKind.i64 2, Value.int IntKind.i64 1, Value.int IntKind.i64 (-2), Value.int IntKind.i64 (-3)] 3)) := ⟨_, rfl⟩
  have hsz : W.heap.size = w.heap.size + 2 := by rw [hW]; simp
  have i1 : Is W (.slice (some ⟨w.heap.size, 0, none⟩) 4 4) [2, -1, 1, -1] := by
    refine is_lit (p := [2, -1, 1, -1]) (by omega) (by decide) ⟨ei (by omega) (by omega) ?_, ei (by omega) (by omega) ?_, ei (by omega) (by omega) ?_, ei (by omega) (by omega) ?_, trivial⟩ <;> (rw [hW]; repeat (first | (refine cell_newg ?_ rfl; simp; done) | refine cell_old ?_))
  have i2 : Is W (.slice (some ⟨w.heap.size + 1, 0, none⟩) 4 4) [2, 1, -2, -3] := by
    refine is_lit (p := [2, 1, -2, -3]) (by omega) (by decide) ⟨ei (by omega) (by omega) ?_, ei (by omega) (by omega) ?_, ei (by omega) (by omega) ?_, ei (by omega) (by omega) ?_, trivial⟩ <;> (rw [hW]; repeat (first | (refine cell_newg ?_ rfl; simp; done) | refine cell_old ?_))
  rw [← hW] at hB ⊢
  refine (unify_any sv _ _ sumS [2, -1, 1, -1] [2, 1, -2, -3] W (hs.kp (Kp.of_below hB)) i1 i2 (hT.below hB) (by decide) (by decide)).mono ?_
  rintro e w' ⟨v, rfl, ho, hb⟩
  have hx := ex1_ok
  rw [hx.2] at ho
  obtain ⟨ao, cap, hv, _⟩ := Row.flat ho.bs
  subst hv
  exact ⟨ao, cap, by rw [hx.1]; rfl, ho.bs, below_step hB hb⟩

set_option maxRecDepth 100000 in
theorem u6_2 (w : World) (sv : Value) (hs : Sg w sv sumS) (hT : Tabs w) : Calls Tryd.prog 10 #[sv, .slice (some ⟨w.heap.size, 0, none⟩) 3 3, .slice (some ⟨w.heap.size + 1, 0, none⟩) 3 3] ((w.alloc (Obj.cells #[Value.int IntKind.i64 2, Value.int IntKind.i64 (-1), Value.int IntKind.i64 (-2)] 3)).alloc (Obj.cells #[Value.int IntKind.i64 2, Value.int IntKind.i64 (-2), Value.int IntKind.i64 (-3)] 3))
    fun e w' => ∃ ao cap, e = .returned (.tuple #[.slice ao 2 cap, .int .i64 0]) ∧ Bs w' (.slice ao 2 cap) [(1, [-1]), (2, [-1])] ∧ Below w.heap.size w w' := by
  have hB : Below w.heap.size w ((w.alloc (Obj.cells #[Value.int IntKind.i64 2, Value.int IntKind.i64 (-1), Value.int IntKind.i64 (-2)] 3)).alloc (Obj.cells #[Value.int IntKind.i64 2, Value.int IntKind.i64 (-2), Value.int IntKind.i64 (-3)] 3)) := (below_step (below_alloc _) (below_alloc _))
  obtain ⟨W, hW⟩ : ∃ W, W = ((w.alloc (Obj.cells #[Value.int IntKind.i64 2, Value.int IntKind.i64 (-1), Value.int IntKind.i64 (-2)] 3)).alloc (Obj.cells #[Value.int IntKind.i64 2, Value.int IntKind.i64 (-2), Value.int IntKind.i64 (-3)] 3)) := ⟨_, rfl⟩
  have hsz : W.heap.size = w.heap.size + 2 := by rw [hW]; simp
  have i1 : Is W (.slice (some ⟨w.heap.size, 0, none⟩) 3 3) [2, -1, -2] := by
    refine is_lit (p := [2, -1, -2]) (by omega) (by decide) ⟨ei (by omega) (by omega) ?_, ei (by omega) (by omega) ?_, ei (by omega) (by omega) ?_, trivial⟩ <;> (rw [hW]; repeat (first | (refine cell_newg ?_ rfl; simp; done) | refine cell_old ?_))
  have i2 : Is W (.slice (some ⟨w.heap.size + 1, 0, none⟩) 3 3) [2, -2, -3] := by
    refine is_lit (p := [2, -2, -3]) (by omega) (by decide) ⟨ei (by omega) (by omega) ?_, ei (by omega) (by omega) ?_, ei (by omega) (by omega) ?_, trivial⟩ <;> (rw [hW]; repeat (first | (refine cell_newg ?_ rfl; simp; done) | refine cell_old ?_))
  rw [← hW] at hB ⊢
  refine (unify_any sv _ _ sumS [2, -1, -2] [2, -2, -3] W (hs.kp (Kp.of_below hB)) i1 i2 (hT.below hB) (by decide) (by decide)).mono ?_
  rintro e w' ⟨v, rfl, ho, hb⟩
  have hx := ex2_ok
  rw [hx.2] at ho
  obtain ⟨ao, cap, hv, _⟩ := Row.flat ho.bs
  subst hv
  exact ⟨ao, cap, by rw [hx.1]; rfl, ho.bs, below_step hB hb⟩

set_option maxRecDepth 100000 in
theorem u6_3 (w : World) (sv : Value) (hs : Sg w sv sumS) (hT : Tabs w) : Calls Tryd.prog 10 #[sv, .slice (some ⟨w.heap.size, 0, none⟩) 1 1, .slice (some ⟨w.heap.size + 1, 0, none⟩) 2 2] ((w.alloc (Obj.cells #[Value.int IntKind.i64 (-1)] 3)).alloc (Obj.cells #[Value.int IntKind.i64 1, Value.int IntKind.i64 (-1)] 3))
    fun e w' => ∃ ao cap, e = .returned (.tuple #[.slice ao 0 cap, .int .i64 60]) ∧ Bs w' (.slice ao 0 cap) [] ∧ Below w.heap.size w w' := by
  have hB : Below w.heap.size w ((w.alloc (Obj.cells #[Value.int IntKind.i64 (-1)] 3)).alloc (Obj.cells #[Value.int IntKind.i64 1, Value.int IntKind.i64 (-1)] 3)) := (below_step (below_alloc _) (below_alloc _))
  obtain ⟨W, hW⟩ : ∃ W, W = ((w.alloc (Obj.cells #[Value.int IntKind.i64 (-1)] 3)).alloc (Obj.cells #[Value.int IntKind.i64 1, Value.int IntKind.i64 (-1)] 3)) := ⟨_, rfl⟩
  have hsz : W.heap.size = w.heap.size + 2 := by rw [hW]; simp
  have i1 : Is W (.slice (some ⟨w.heap.size, 0, none⟩) 1 1) [-1] := by
    refine is_lit (p := [-1]) (by omega) (by decide) ⟨ei (by omega) (by omega) ?_, trivial⟩ <;> (rw [hW]; repeat (first | (refine cell_newg ?_ rfl; simp; done) | refine cell_old ?_))
  have i2 : Is W (.slice (some ⟨w.heap.size + 1, 0, none⟩) 2 2) [1, -1] := by
    refine is_lit (p := [1, -1]) (by omega) (by decide) ⟨ei (by omega) (by omega) ?_, ei (by omega) (by omega) ?_, trivial⟩ <;> (rw [hW]; repeat (first | (refine cell_newg ?_ rfl; simp; done) | refine cell_old ?_))
  rw [← hW] at hB ⊢
  refine (unify_any sv _ _ sumS [-1] [1, -1] W (hs.kp (Kp.of_below hB)) i1 i2 (hT.below hB) (by decide) (by decide)).mono ?_
  rintro e w' ⟨v, rfl, ho, hb⟩
  have hx := (uniE_no (sig := sumS) (a := [-1]) (b := [1, -1]) (by kernel_rfl) ex3_no)
  rw [hx.2] at ho
  obtain ⟨ao, cap, hv, _⟩ := Row.flat ho.bs
  subst hv
  exact ⟨ao, cap, by rw [hx.1]; rfl, ho.bs, below_step hB hb⟩

set_option maxRecDepth 100000 in
theorem u6_4 (w : World) (sv : Value) (hs : Sg w sv sumS) (hT : Tabs w) : Calls Tryd.prog 10 #[sv, .slice (some ⟨w.heap.size, 0, none⟩) 3 3, .slice (some ⟨w.heap.size + 1, 0, none⟩) 4 4] ((w.alloc (Obj.cells #[Value.int IntKind.i64 2, Value.int IntKind.i64 0, Value.int IntKind.i64 (-2)] 3)).alloc (Obj.cells #[Value.int IntKind.i64 2, Value.int IntKind.i64 1, Value.int IntKind.i64 (-1), Value.int IntKind.i64 (-2)] 3))
    fun e w' => ∃ ao cap, e = .returned (.tuple #[.slice ao 0 cap, .int .i64 60]) ∧ Bs w' (.slice ao 0 cap) [] ∧ Below w.heap.size w w' := by
  have hB : Below w.heap.size w ((w.alloc (Obj.cells #[Value.int IntKind.i64 2, Value.int IntKind.i64 0, Value.int IntKind.i64 (-2)] 3)).alloc (Obj.cells #[Value.int IntKind.i64 2, Value.int IntKind.i64 1, Value.int IntKind.i64 (-1), Value.int IntKind.i64 (-2)] 3)) := (below_step (below_alloc _) (below_alloc _))
  obtain ⟨W, hW⟩ : ∃ W, W = ((w.alloc (Obj.cells #[Value.int IntKind.i64 2, Value.int IntKind.i64 0, Value.int IntKind.i64 (-2)] 3)).alloc (Obj.cells #[Value.int IntKind.i64 2, Value.int IntKind.i64 1, Value.int IntKind.i64 (-1), Value.int IntKind.i64 (-2)] 3)) := ⟨_, rfl⟩
  have hsz : W.heap.size = w.heap.size + 2 := by rw [hW]; simp
  have i1 : Is W (.slice (some ⟨w.heap.size, 0, none⟩) 3 3) [2, 0, -2] := by
    refine is_lit (p := [2, 0, -2]) (by omega) (by decide) ⟨ei (by omega) (by omega) ?_, ei (by omega) (by omega) ?_, ei (by omega) (by omega) ?_, trivial⟩ <;> (rw [hW]; repeat (first | (refine cell_newg ?_ rfl; simp; done) | refine cell_old ?_))
  have i2 : Is W (.slice (some ⟨w.heap.size + 1, 0, none⟩) 4 4) [2, 1, -1, -2] := by
    refine is_lit (p := [2, 1, -1, -2]) (by omega) (by decide) ⟨ei (by omega) (by omega) ?_, ei (by omega) (by omega) ?_, ei (by omega) (by omega) ?_, ei (by omega) (by omega) ?_, trivial⟩ <;> (rw [hW]; repeat (first | (refine cell_newg ?_ rfl; simp; done) | refine cell_old ?_))
  rw [← hW] at hB ⊢
  refine (unify_any sv _ _ sumS [2, 0, -2] [2, 1, -1, -2] W (hs.kp (Kp.of_below hB)) i1 i2 (hT.below hB) (by decide) (by decide)).mono ?_
  rintro e w' ⟨v, rfl, ho, hb⟩
  have hx := (uniE_no (sig := sumS) (a := [2, 0, -2]) (b := [2, 1, -1, -2]) (by kernel_rfl) ex4_no)
  rw [hx.2] at ho
  obtain ⟨ao, cap, hv, _⟩ := Row.flat ho.bs
  subst hv
  exact ⟨ao, cap, by rw [hx.1]; rfl, ho.bs, below_step hB hb⟩

set_option maxRecDepth 100000 in
theorem u6_5 (w : World) (sv : Value) (hs : Sg w sv sumS) (hT : Tabs w) : Calls Tryd.prog 10 #[sv, .slice (some ⟨w.heap.size, 0, none⟩) 1 1, .slice (some ⟨w.heap.size + 1, 0, none⟩) 1 1] ((w.alloc (Obj.cells #[Value.int IntKind.i64 (-5)] 3)).alloc (Obj.cells #[Value.int IntKind.i64 (-5)] 3))
    fun e w' => ∃ ao cap, e = .returned (.tuple #[.slice ao 0 cap, .int .i64 0]) ∧ Bs w' (.slice ao 0 cap) [] ∧ Below w.heap.size w w' := by
  have hB : Below w.heap.size w ((w.alloc (Obj.cells #[Value.int IntKind.i64 (-5)] 3)).alloc (Obj.cells #[Value.int IntKind.i64 (-5)] 3)) := (below_step (below_alloc _) (below_alloc _))
  obtain ⟨W, hW⟩ : ∃ W, W = ((w.alloc (Obj.cells #[Value.int IntKind.i64 (-5)] 3)).alloc (Obj.cells #[Value.int IntKind.i64 (-5)] 3)) := ⟨_, rfl⟩
  have hsz : W.heap.size = w.heap.size + 2 := by rw [hW]; simp
  have i1 : Is W (.slice (some ⟨w.heap.size, 0, none⟩) 1 1) [-5] := by
    refine is_lit (p := [-5]) (by omega) (by decide) ⟨ei (by omega) (by omega) ?_, trivial⟩ <;> (rw [hW]; repeat (first | (refine cell_newg ?_ rfl; simp; done) | refine cell_old ?_))
  have i2 : Is W (.slice (some ⟨w.heap.size + 1, 0, none⟩) 1 1) [-5] := by
    refine is_lit (p := [-5]) (by omega) (by decide) ⟨ei (by omega) (by omega) ?_, trivial⟩ <;> (rw [hW]; repeat (first | (refine cell_newg ?_ rfl; simp; done) | refine cell_old ?_))
  rw [← hW] at hB ⊢
  refine (unify_any sv _ _ sumS [-5] [-5] W (hs.kp (Kp.of_below hB)) i1 i2 (hT.below hB) (by decide) (by decide)).mono ?_
  rintro e w' ⟨v, rfl, ho, hb⟩
  have hx := ex5_ok
  rw [hx.2] at ho
  obtain ⟨ao, cap, hv, _⟩ := Row.flat ho.bs
  subst hv
  exact ⟨ao, cap, by rw [hx.1]; rfl, ho.bs, below_step hB hb⟩

set_option maxRecDepth 100000 in
theorem c6_6 (w : World) (sv : Value) (hs : Sg w sv sumS) (hT : Tabs w) : Calls Tryd.prog 14 #[sv, .slice (some ⟨w.heap.size, 0, none⟩) 1 1, .slice (some ⟨w.heap.size + 1, 0, none⟩) 1 1] ((w.alloc (Obj.cells #[Value.int IntKind.i64 (-1)] 3)).alloc (Obj.cells #[Value.int IntKind.i64 0] 3))
    fun e w' => e = .returned (.bool true) ∧ Below w.heap.size w w' := by
  have hB : Below w.heap.size w ((w.alloc (Obj.cells #[Value.int IntKind.i64 (-1)] 3)).alloc (Obj.cells #[Value.int IntKind.i64 0] 3)) := (below_step (below_alloc _) (below_alloc _))
  obtain ⟨W, hW⟩ : ∃ W, W = ((w.alloc (Obj.cells #[Value.int IntKind.i64 (-1)] 3)).alloc (Obj.cells #[Value.int IntKind.i64 0] 3)) := ⟨_, rfl⟩
  have hsz : W.heap.size = w.heap.size + 2 := by rw [hW]; simp
  have i1 : Is W (.slice (some ⟨w.heap.size, 0, none⟩) 1 1) [-1] := by
    refine is_lit (p := [-1]) (by omega) (by decide) ⟨ei (by omega) (by omega) ?_, trivial⟩ <;> (rw [hW]; repeat (first | (refine cell_newg ?_ rfl; simp; done) | refine cell_old ?_))
  have i2 : Is W (.slice (some ⟨w.heap.size + 1, 0, none⟩) 1 1) [0] := by
    refine is_lit (p := [0]) (by omega) (by decide) ⟨ei (by omega) (by omega) ?_, trivial⟩ <;> (rw [hW]; repeat (first | (refine cell_newg ?_ rfl; simp; done) | refine cell_old ?_))
  rw [← hW] at hB ⊢
  refine (can_any sv _ _ sumS [-1] [0] W (hs.kp (Kp.of_below hB)) i1 i2 (hT.below hB) (by decide)).mono ?_
  rintro e w' ⟨rfl, hb⟩
  exact ⟨ret1b (by classical exact decide_eq_true ⟨by kernel_rfl, ex6_yes⟩), below_step hB hb⟩

set_option maxRecDepth 100000 in
theorem c6_7 (w : World) (sv : Value) (hs : Sg w sv sumS) (hT : Tabs w) : Calls Tryd.prog 14 #[sv, .slice (some ⟨w.heap.size, 0, none⟩) 1 1, .slice (some ⟨w.heap.size + 1, 0, none⟩) 2 2] ((w.alloc (Obj.cells #[Value.int IntKind.i64 0] 3)).alloc (Obj.cells #[Value.int IntKind.i64 1, Value.int IntKind.i64 0] 3))
    fun e w' => e = .returned (.bool false) ∧ Below w.heap.size w w' := by
  have hB : Below w.heap.size w ((w.alloc (Obj.cells #[Value.int IntKind.i64 0] 3)).alloc (Obj.cells #[Value.int IntKind.i64 1, Value.int IntKind.i64 0] 3)) := (below_step (below_alloc _) (below_alloc _))
  obtain ⟨W, hW⟩ : ∃ W, W = ((w.alloc (Obj.cells #[Value.int IntKind.i64 0] 3)).alloc (Obj.cells #[Value.int IntKind.i64 1, Value.int IntKind.i64 0] 3)) := ⟨_, rfl⟩
  have hsz : W.heap.size = w.heap.size + 2 := by rw [hW]; simp
  have i1 : Is W (.slice (some ⟨w.heap.size, 0, none⟩) 1 1) [0] := by
    refine is_lit (p := [0]) (by omega) (by decide) ⟨ei (by omega) (by omega) ?_, trivial⟩ <;> (rw [hW]; repeat (first | (refine cell_newg ?_ rfl; simp; done) | refine cell_old ?_))
  have i2 : Is W (.slice (some ⟨w.heap.size + 1, 0, none⟩) 2 2) [1, 0] := by
    refine is_lit (p := [1, 0]) (by omega) (by decide) ⟨ei (by omega) (by omega) ?_, ei (by omega) (by omega) ?_, trivial⟩ <;> (rw [hW]; repeat (first | (refine cell_newg ?_ rfl; simp; done) | refine cell_old ?_))
  rw [← hW] at hB ⊢
  refine (can_any sv _ _ sumS [0] [1, 0] W (hs.kp (Kp.of_below hB)) i1 i2 (hT.below hB) (by decide)).mono ?_
  rintro e w' ⟨rfl, hb⟩
  exact ⟨ret1b (by rw [decide_eq_false_iff_not]; exact fun h => ex7_no h.2), below_step hB hb⟩

set_option maxRecDepth 100000 in
theorem s6_1 (w : World) (v : Value) (h : Bs w v [(0, [1, -2]), (2, [1, 1, -2])]) : Calls Tryd.prog 12 #[v, .slice (some ⟨w.heap.size + 1 + 1, 0, none⟩) 2 2] (((w.alloc (Obj.cells #[Value.int IntKind.i64 1, Value.int IntKind.i64 (-2)] 3)).alloc (Obj.cells #[Value.int IntKind.i64 1, Value.int IntKind.i64 1, Value.int IntKind.i64 (-2)] 3)).alloc (Obj.cells #[Value.int IntKind.i64 0, .slice (some ⟨w.heap.size, 0, none⟩) 2 2, Value.int IntKind.i64 2, .slice (some ⟨w.heap.size + 1, 0, none⟩) 3 3] 31))
    fun e w' => e = .returned (.bool true) ∧ Below w.heap.size w w' := by
  have hB : Below w.heap.size w (((w.alloc (Obj.cells #[Value.int IntKind.i64 1, Value.int IntKind.i64 (-2)] 3)).alloc (Obj.cells #[Value.int IntKind.i64 1, Value.int IntKind.i64 1, Value.int IntKind.i64 (-2)] 3)).alloc (Obj.cells #[Value.int IntKind.i64 0, .slice (some ⟨w.heap.size, 0, none⟩) 2 2, Value.int IntKind.i64 2, .slice (some ⟨w.heap.size + 1, 0, none⟩) 3 3] 31)) := (below_step (below_step (below_alloc _) (below_alloc _)) (below_alloc _))
  obtain ⟨W, hW⟩ : ∃ W, W = (((w.alloc (Obj.cells #[Value.int IntKind.i64 1, Value.int IntKind.i64 (-2)] 3)).alloc (Obj.cells #[Value.int IntKind.i64 1, Value.int IntKind.i64 1, Value.int IntKind.i64 (-2)] 3)).alloc (Obj.cells #[Value.int IntKind.i64 0, .slice (some ⟨w.heap.size, 0, none⟩) 2 2, Value.int IntKind.i64 2, .slice (some ⟨w.heap.size + 1, 0, none⟩) 3 3] 31)) := ⟨_, rfl⟩
  have hsz : W.heap.size = w.heap.size + 3 := by rw [hW]; simp
  have i1 : Is W (.slice (some ⟨w.heap.size, 0, none⟩) 2 2) [1, -2] := by
    refine is_lit (p := [1, -2]) (by omega) (by decide) ⟨ei (by omega) (by omega) ?_, ei (by omega) (by omega) ?_, trivial⟩ <;> (rw [hW]; repeat (first | (refine cell_newg ?_ rfl; simp; done) | refine cell_old ?_))
  have i2 : Is W (.slice (some ⟨w.heap.size + 1, 0, none⟩) 3 3) [1, 1, -2] := by
    refine is_lit (p := [1, 1, -2]) (by omega) (by decide) ⟨ei (by omega) (by omega) ?_, ei (by omega) (by omega) ?_, ei (by omega) (by omega) ?_, trivial⟩ <;> (rw [hW]; repeat (first | (refine cell_newg ?_ rfl; simp; done) | refine cell_old ?_))
  have i3 : Bs W (.slice (some ⟨w.heap.size + 1 + 1, 0, none⟩) 2 2) [(0, [1, -2]), (2, [1, 1, -2])] := by
    refine bs_lit (p := [(0, [1, -2]), (2, [1, 1, -2])]) (by omega) (by decide) ⟨⟨by decide, by decide, by decide, ?_, _, ?_, i1⟩, ⟨by decide, by decide, by decide, ?_, _, ?_, i2⟩, trivial⟩ <;> (rw [hW]; repeat (first | (refine cell_newg ?_ rfl; simp; done) | refine cell_old ?_))
  rw [← hW] at hB ⊢
  refine (same6_any v _ _ W (h.kp (Kp.of_below hB)) i3).mono ?_
  rintro e w' ⟨rfl, hb⟩
  exact ⟨rfl, below_step hB hb⟩

set_option maxRecDepth 100000 in
theorem s6_2 (w : World) (v : Value) (h : Bs w v [(1, [-1]), (2, [-1])]) : Calls Tryd.prog 12 #[v, .slice (some ⟨w.heap.size + 1 + 1, 0, none⟩) 2 2] (((w.alloc (Obj.cells #[Value.int IntKind.i64 (-1)] 3)).alloc (Obj.cells #[Value.int IntKind.i64 (-1)] 3)).alloc (Obj.cells #[Value.int IntKind.i64 1, .slice (some ⟨w.heap.size, 0, none⟩) 1 1, Value.int IntKind.i64 2, .slice (some ⟨w.heap.size + 1, 0, none⟩) 1 1] 31))
    fun e w' => e = .returned (.bool true) ∧ Below w.heap.size w w' := by
  have hB : Below w.heap.size w (((w.alloc (Obj.cells #[Value.int IntKind.i64 (-1)] 3)).alloc (Obj.cells #[Value.int IntKind.i64 (-1)] 3)).alloc (Obj.cells #[Value.int IntKind.i64 1, .slice (some ⟨w.heap.size, 0, none⟩) 1 1, Value.int IntKind.i64 2, .slice (some ⟨w.heap.size + 1, 0, none⟩) 1 1] 31)) := (below_step (below_step (below_alloc _) (below_alloc _)) (below_alloc _))
  obtain ⟨W, hW⟩ : ∃ W, W = (((w.alloc (Obj.cells #[Value.int IntKind.i64 (-1)] 3)).alloc (Obj.cells #[Value.int IntKind.i64 (-1)] 3)).alloc (Obj.cells #[Value.int IntKind.i64 1, .slice (some ⟨w.heap.size, 0, none⟩) 1 1, Value.int IntKind.i64 2, .slice (some ⟨w.heap.size + 1, 0, none⟩) 1 1] 31)) := ⟨_, rfl⟩
  have hsz : W.heap.size = w.heap.size + 3 := by rw [hW]; simp
  have i1 : Is W (.slice (some ⟨w.heap.size, 0, none⟩) 1 1) [-1] := by
    refine is_lit (p := [-1]) (by omega) (by decide) ⟨ei (by omega) (by omega) ?_, trivial⟩ <;> (rw [hW]; repeat (first | (refine cell_newg ?_ rfl; simp; done) | refine cell_old ?_))
  have i2 : Is W (.slice (some ⟨w.heap.size + 1, 0, none⟩) 1 1) [-1] := by
    refine is_lit (p := [-1]) (by omega) (by decide) ⟨ei (by omega) (by omega) ?_, trivial⟩ <;> (rw [hW]; repeat (first | (refine cell_newg ?_ rfl; simp; done) | refine cell_old ?_))
  have i3 : Bs W (.slice (some ⟨w.heap.size + 1 + 1, 0, none⟩) 2 2) [(1, [-1]), (2, [-1])] := by
    refine bs_lit (p := [(1, [-1]), (2, [-1])]) (by omega) (by decide) ⟨⟨by decide, by decide, by decide, ?_, _, ?_, i1⟩, ⟨by decide, by decide, by decide, ?_, _, ?_, i2⟩, trivial⟩ <;> (rw [hW]; repeat (first | (refine cell_newg ?_ rfl; simp; done) | refine cell_old ?_))
  rw [← hW] at hB ⊢
  refine (same6_any v _ _ W (h.kp (Kp.of_below hB)) i3).mono ?_
  rintro e w' ⟨rfl, hb⟩
  exact ⟨rfl, below_step hB hb⟩

set_option maxRecDepth 100000 in
set_option maxHeartbeats 3200000 in
theorem shown6_any (w : World) (hT : Tabs w) : Calls Tryd.prog 9 #[] w fun e w' => e = .returned (.bool true) ∧ Below w.heap.size w w' := by
  have HT := hid hT
  clear hT
  have HBz := hid (Below.refl w.heap.size w)
  go_enter Tryd.func9, Tryd.ntmps9
  go_wp2_with fail
  refine (sum6_any w).mono ?_
  rintro e w1 ⟨sv1, rfl, hs1, hb1⟩
  obtain ⟨so1, sc1, rfl, _, _, _⟩ := Row.flat hs1
  have HS := hid hs1
  have HBzn := hid (below_step HBz.out hb1)
  clear HBz 
  have HBz := HBzn
  clear HBzn
  clear hs1 hb1
  go_wp2_with fail
  refine (u6_1 w1 _ HS.out (HT.out.below HBz.out)).mono ?_
  rintro e w2 ⟨ao1, cap1, rfl, hbs1, hb2⟩
  clear HS
  have HBzn := hid (below_step HBz.out hb2)
  clear HBz 
  have HBz := HBzn
  clear HBzn
  have HV1 := hid hbs1
  clear hbs1
  clear hb2
  go_wp2_with fail
  refine (sum6_any w2).mono ?_
  rintro e w3 ⟨sv3, rfl, hs3, hb3⟩
  obtain ⟨so3, sc3, rfl, _, _, _⟩ := Row.flat hs3
  have HS := hid hs3
  have HV1n := hid (HV1.out.kp (Kp.of_below hb3))
  have HBzn := hid (below_step HBz.out hb3)
  clear HBz HV1
  have HBz := HBzn
  clear HBzn
  have HV1 := HV1n
  clear HV1n
  clear hs3 hb3
  go_wp2_with fail
  refine (u6_2 w3 _ HS.out (HT.out.below HBz.out)).mono ?_
  rintro e w4 ⟨ao2, cap2, rfl, hbs2, hb4⟩
  clear HS
  have HV1n := hid (HV1.out.kp (Kp.of_below hb4))
  have HBzn := hid (below_step HBz.out hb4)
  clear HBz HV1
  have HBz := HBzn
  clear HBzn
  have HV1 := HV1n
  clear HV1n
  have HV2 := hid hbs2
  clear hbs2
  clear hb4
  go_wp2_with fail
  refine (sum6_any w4).mono ?_
  rintro e w5 ⟨sv5, rfl, hs5, hb5⟩
  obtain ⟨so5, sc5, rfl, _, _, _⟩ := Row.flat hs5
  have HS := hid hs5
  have HV1n := hid (HV1.out.kp (Kp.of_below hb5))
  have HV2n := hid (HV2.out.kp (Kp.of_below hb5))
  have HBzn := hid (below_step HBz.out hb5)
  clear HBz HV1 HV2
  have HBz := HBzn
  clear HBzn
  have HV1 := HV1n
  clear HV1n
  have HV2 := HV2n
  clear HV2n
  clear hs5 hb5
  go_wp2_with fail
  refine (u6_3 w5 _ HS.out (HT.out.below HBz.out)).mono ?_
  rintro e w6 ⟨ao3, cap3, rfl, hbs3, hb6⟩
  clear HS
  have HV1n := hid (HV1.out.kp (Kp.of_below hb6))
  have HV2n := hid (HV2.out.kp (Kp.of_below hb6))
  have HBzn := hid (below_step HBz.out hb6)
  clear HBz HV1 HV2
  have HBz := HBzn
  clear HBzn
  have HV1 := HV1n
  clear HV1n
  have HV2 := HV2n
  clear HV2n
  clear hbs3
  clear hb6
  go_wp2_with fail
  refine (sum6_any w6).mono ?_
  rintro e w7 ⟨sv7, rfl, hs7, hb7⟩
  obtain ⟨so7, sc7, rfl, _, _, _⟩ := Row.flat hs7
  have HS := hid hs7
  have HV1n := hid (HV1.out.kp (Kp.of_below hb7))
  have HV2n := hid (HV2.out.kp (Kp.of_below hb7))
  have HBzn := hid (below_step HBz.out hb7)
  clear HBz HV1 HV2
  have HBz := HBzn
  clear HBzn
  have HV1 := HV1n
  clear HV1n
  have HV2 := HV2n
  clear HV2n
  clear hs7 hb7
  go_wp2_with fail
  refine (u6_4 w7 _ HS.out (HT.out.below HBz.out)).mono ?_
  rintro e w8 ⟨ao4, cap4, rfl, hbs4, hb8⟩
  clear HS
  have HV1n := hid (HV1.out.kp (Kp.of_below hb8))
  have HV2n := hid (HV2.out.kp (Kp.of_below hb8))
  have HBzn := hid (below_step HBz.out hb8)
  clear HBz HV1 HV2
  have HBz := HBzn
  clear HBzn
  have HV1 := HV1n
  clear HV1n
  have HV2 := HV2n
  clear HV2n
  clear hbs4
  clear hb8
  go_wp2_with fail
  refine (sum6_any w8).mono ?_
  rintro e w9 ⟨sv9, rfl, hs9, hb9⟩
  obtain ⟨so9, sc9, rfl, _, _, _⟩ := Row.flat hs9
  have HS := hid hs9
  have HV1n := hid (HV1.out.kp (Kp.of_below hb9))
  have HV2n := hid (HV2.out.kp (Kp.of_below hb9))
  have HBzn := hid (below_step HBz.out hb9)
  clear HBz HV1 HV2
  have HBz := HBzn
  clear HBzn
  have HV1 := HV1n
  clear HV1n
  have HV2 := HV2n
  clear HV2n
  clear hs9 hb9
  go_wp2_with fail
  refine (u6_5 w9 _ HS.out (HT.out.below HBz.out)).mono ?_
  rintro e w10 ⟨ao5, cap5, rfl, hbs5, hb10⟩
  clear HS
  have HV1n := hid (HV1.out.kp (Kp.of_below hb10))
  have HV2n := hid (HV2.out.kp (Kp.of_below hb10))
  have HBzn := hid (below_step HBz.out hb10)
  clear HBz HV1 HV2
  have HBz := HBzn
  clear HBzn
  have HV1 := HV1n
  clear HV1n
  have HV2 := HV2n
  clear HV2n
  clear hbs5
  clear hb10
  go_wp2_with fail
  refine (s6_1 w10 _ HV1.out).mono ?_
  rintro e w11 ⟨rfl, hb11⟩
  have HV1n := hid (HV1.out.kp (Kp.of_below hb11))
  have HV2n := hid (HV2.out.kp (Kp.of_below hb11))
  have HBzn := hid (below_step HBz.out hb11)
  clear HBz HV1 HV2
  have HBz := HBzn
  clear HBzn
  have HV1 := HV1n
  clear HV1n
  have HV2 := HV2n
  clear HV2n
  clear hb11
  go_wp2_with fail
  refine (s6_2 w11 _ HV2.out).mono ?_
  rintro e w12 ⟨rfl, hb12⟩
  have HV1n := hid (HV1.out.kp (Kp.of_below hb12))
  have HV2n := hid (HV2.out.kp (Kp.of_below hb12))
  have HBzn := hid (below_step HBz.out hb12)
  clear HBz HV1 HV2
  have HBz := HBzn
  clear HBzn
  have HV1 := HV1n
  clear HV1n
  have HV2 := HV2n
  clear HV2n
  clear hb12
  go_wp2_with fail
  refine (sum6_any w12).mono ?_
  rintro e w13 ⟨sv13, rfl, hs13, hb13⟩
  obtain ⟨so13, sc13, rfl, _, _, _⟩ := Row.flat hs13
  have HS := hid hs13
  have HV1n := hid (HV1.out.kp (Kp.of_below hb13))
  have HV2n := hid (HV2.out.kp (Kp.of_below hb13))
  have HBzn := hid (below_step HBz.out hb13)
  clear HBz HV1 HV2
  have HBz := HBzn
  clear HBzn
  have HV1 := HV1n
  clear HV1n
  have HV2 := HV2n
  clear HV2n
  clear hs13 hb13
  go_wp2_with fail
  refine (c6_6 w13 _ HS.out (HT.out.below HBz.out)).mono ?_
  rintro e w14 ⟨rfl, hb14⟩
  clear HS
  have HV1n := hid (HV1.out.kp (Kp.of_below hb14))
  have HV2n := hid (HV2.out.kp (Kp.of_below hb14))
  have HBzn := hid (below_step HBz.out hb14)
  clear HBz HV1 HV2
  have HBz := HBzn
  clear HBzn
  have HV1 := HV1n
  clear HV1n
  have HV2 := HV2n
  clear HV2n
  clear hb14
  go_wp2_with fail
  refine (sum6_any w14).mono ?_
  rintro e w15 ⟨sv15, rfl, hs15, hb15⟩
  obtain ⟨so15, sc15, rfl, _, _, _⟩ := Row.flat hs15
  have HS := hid hs15
  have HV1n := hid (HV1.out.kp (Kp.of_below hb15))
  have HV2n := hid (HV2.out.kp (Kp.of_below hb15))
  have HBzn := hid (below_step HBz.out hb15)
  clear HBz HV1 HV2
  have HBz := HBzn
  clear HBzn
  have HV1 := HV1n
  clear HV1n
  have HV2 := HV2n
  clear HV2n
  clear hs15 hb15
  go_wp2_with fail
  refine (c6_7 w15 _ HS.out (HT.out.below HBz.out)).mono ?_
  rintro e w16 ⟨rfl, hb16⟩
  clear HS
  have HV1n := hid (HV1.out.kp (Kp.of_below hb16))
  have HV2n := hid (HV2.out.kp (Kp.of_below hb16))
  have HBzn := hid (below_step HBz.out hb16)
  clear HBz HV1 HV2
  have HBz := HBzn
  clear HBzn
  have HV1 := HV1n
  clear HV1n
  have HV2 := HV2n
  clear HV2n
  clear hb16
  go_wp2
  go_ret
  exact ⟨rfl, HBz.out⟩

end Go.Proofs.YtpnkplidhbbliaaDoor
