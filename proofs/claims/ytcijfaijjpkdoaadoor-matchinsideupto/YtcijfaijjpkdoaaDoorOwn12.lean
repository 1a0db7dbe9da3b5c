/- Texts of the proof, one behind the other. -/
import Derived.Test.YtcijfaijjpkdoaaDoorOwn11
import Derived.Test.YtcijfaijjpkdoaaDoorOwn10
import Derived.Test.YtcijfaijjpkdoaaDoorOwn9
import Derived.Deep.LoopGhost
import Derived.Lib.AppendZeros
/- The examples of layer 5 come out true. -/
namespace Go.Proofs.YtcijfaijjpkdoaaDoor
open Go.RowKit Go.Maps Go.BigFrame

theorem small_ints5 (xs : List Int) (h : (xs.all fun x => decide (-100 ≤ x ∧ x ≤ 100)) = true) : ∀ x ∈ xs, -9223372036854775808 ≤ x ∧ x ≤ 9223372036854775807 := fun x hx => by
  have := List.all_eq_true.1 h x hx
  simp at this
  omega

theorem sh5_p : termE sumS [2, -1, -2] = 0 := by kernel_rfl
theorem sh5_t : termE sumS [2, 1, 0, 0] = 0 := by kernel_rfl
theorem sh5_q : termE sumS [2, -1, -1] = 0 := by kernel_rfl
theorem sh5_u : termE sumS [2, 0, 1, 0] = 0 := by kernel_rfl
theorem sh5_a : (termsB sumS [[2, -1, -2], [-1], [2, -7, -3], [-7]] && decide (canL [[2, -1, -2], [-1]] = canL [[2, -7, -3], [-7]])) = true := by kernel_rfl
theorem sh5_b : (termsB sumS [[2, -1, -2], [-1], [2, -7, -3], [-3]] && decide (canL [[2, -1, -2], [-1]] = canL [[2, -7, -3], [-3]])) = false := by kernel_rfl

/-- The example's binds. -/
def shF (n : Int) : Option (List Int) := if n = 0 then some [1, 0] else if n = 1 then some [0] else none

theorem shF_rt : Rt sumS shF := fun n u hu => by
  unfold shF at hu
  split at hu
  · cases hu; kernel_rfl
  · split at hu
    · cases hu; kernel_rfl
    · cases hu

theorem shF_sm : Sm shF [2, -1, -2] [2, 1, 0, 0] := ⟨fun c hc h0 => by
  simp at hc
  rcases hc with rfl | rfl | rfl
  · omega
  · decide
  · decide, by decide⟩

theorem shF_vars : varsL [2, -1, -2] = [0, 1] := by kernel_rfl

theorem shF_sort : sortI [0, 1] = [0, 1] := by
  unfold sortI
  first
    | exact List.mergeSort_of_pairwise (by simp)
    | exact List.mergeSort_of_sorted (by simp)

theorem shF_binds : bindsL shF [2, -1, -2] = [(0, [1, 0]), (1, [0])] := by
  unfold bindsL
  rw [shF_vars, shF_sort]
  rfl

theorem sh_no (f : Int → Option (List Int)) (_hf : Rt sumS f) : ¬ Sm f [2, -1, -1] [2, 0, 1, 0] := fun h => by
  have h1 := h.2
  rw [laidL_cons, laidL_cons, laidL_cons] at h1
  have e1 : piece f 2 = [2] := by unfold piece; rw [if_neg (by omega)]
  have h2 := congrArg List.length h1
  rw [e1] at h2
  simp [laidL] at h2
  omega

set_option maxRecDepth 100000 in
theorem call_m1 (w : World) (sv : Value) (hs : Sg w sv sumS) (hT : Tabs w) : Calls Tryd.prog 10 #[sv, .slice (some ⟨w.heap.size, 0, none⟩) 3 3, .slice (some ⟨w.heap.size + 1, 0, none⟩) 4 4] ((w.alloc (Obj.cells #[Value.int IntKind.i64 2, Value.int IntKind.i64 (-1), Value.int IntKind.i64 (-2)] 3)).alloc (Obj.cells #[Value.int IntKind.i64 2, Value.int IntKind.i64 1, Value.int IntKind.i64 0, Value.int IntKind.i64 0] 3))
    fun e w' => ∃ v, e = .returned (.tuple #[v, .bool true]) ∧ Bs w' v [(0, [1, 0]), (1, [0])] ∧ Below w.heap.size w w' := by
  have hB : Below w.heap.size w ((w.alloc (Obj.cells #[Value.int IntKind.i64 2, Value.int IntKind.i64 (-1), Value.int IntKind.i64 (-2)] 3)).alloc (Obj.cells #[Value.int IntKind.i64 2, Value.int IntKind.i64 1, Value.int IntKind.i64 0, Value.int IntKind.i64 0] 3)) := (below_step (below_alloc _) (below_alloc _))
  obtain ⟨W, hW⟩ : ∃ W, W = ((w.alloc (Obj.cells #[Value.int IntKind.i64 2, Value.int IntKind.i64 (-1), Value.int IntKind.i64 (-2)] 3)).alloc (Obj.cells #[Value.int IntKind.i64 2, Value.int IntKind.i64 1, Value.int IntKind.i64 0, Value.int IntKind.i64 0] 3)) := ⟨_, rfl⟩
  have hsz : W.heap.size = w.heap.size + 2 := by rw [hW]; simp
  have i1 : Is W (.slice (some ⟨w.heap.size, 0, none⟩) 3 3) [2, -1, -2] := by
    refine is_lit (p := [2, -1, -2]) (by omega) (by decide) ⟨ei (by omega) (by omega) ?_, ei (by omega) (by omega) ?_, ei (by omega) (by omega) ?_, trivial⟩ <;> (rw [hW]; repeat (first | (refine cell_newg ?_ rfl; simp; done) | refine cell_old ?_))
  have i2 : Is W (.slice (some ⟨w.heap.size + 1, 0, none⟩) 4 4) [2, 1, 0, 0] := by
    refine is_lit (p := [2, 1, 0, 0]) (by omega) (by decide) ⟨ei (by omega) (by omega) ?_, ei (by omega) (by omega) ?_, ei (by omega) (by omega) ?_, ei (by omega) (by omega) ?_, trivial⟩ <;> (rw [hW]; repeat (first | (refine cell_newg ?_ rfl; simp; done) | refine cell_old ?_))
  rw [← hW] at hB ⊢
  refine (match_any sv _ _ sumS [2, -1, -2] [2, 1, 0, 0] W (hs.kp (Kp.of_below hB)) i1 i2 (hT.below hB) (by decide) (by decide)).mono ?_
  rintro e w' ⟨hb, ⟨rfl, h⟩ | ⟨v, f, rfl, _, _, hf, hsm, ho⟩⟩
  · exact absurd shF_sm (by
      rcases h with h | h | h
      · exact absurd sh5_p h
      · exact absurd sh5_t h
      · exact h shF shF_rt)
  · rw [binds_unique hf shF_rt hsm shF_sm, shF_binds] at ho
    exact ⟨v, rfl, ho.bs, below_step hB hb⟩

set_option maxRecDepth 100000 in
theorem call_m2 (w : World) (sv : Value) (hs : Sg w sv sumS) (hT : Tabs w) : Calls Tryd.prog 10 #[sv, .slice (some ⟨w.heap.size, 0, none⟩) 3 3, .slice (some ⟨w.heap.size + 1, 0, none⟩) 4 4] ((w.alloc (Obj.cells #[Value.int IntKind.i64 2, Value.int IntKind.i64 (-1), Value.int IntKind.i64 (-1)] 3)).alloc (Obj.cells #[Value.int IntKind.i64 2, Value.int IntKind.i64 0, Value.int IntKind.i64 1, Value.int IntKind.i64 0] 3))
    fun e w' => e = .returned (.tuple #[.slice none 0 0, .bool false]) ∧ Below w.heap.size w w' := by
  have hB : Below w.heap.size w ((w.alloc (Obj.cells #[Value.int IntKind.i64 2, Value.int IntKind.i64 (-1), Value.int IntKind.i64 (-1)] 3)).alloc (Obj.cells #[Value.int IntKind.i64 2, Value.int IntKind.i64 0, Value.int IntKind.i64 1, Value.int IntKind.i64 0] 3)) := (below_step (below_alloc _) (below_alloc _))
  obtain ⟨W, hW⟩ : ∃ W, W = ((w.alloc (Obj.cells #[Value.int IntKind.i64 2, Value.int IntKind.i64 (-1), Value.int IntKind.i64 (-1)] 3)).alloc (Obj.cells #[Value.int IntKind.i64 2, Value.int IntKind.i64 0, Value.int IntKind.i64 1, Value.int IntKind.i64 0] 3)) := ⟨_, rfl⟩
  have hsz : W.heap.size = w.heap.size + 2 := by rw [hW]; simp
  have i1 : Is W (.slice (some ⟨w.heap.size, 0, none⟩) 3 3) [2, -1, -1] := by
    refine is_lit (p := [2, -1, -1]) (by omega) (by decide) ⟨ei (by omega) (by omega) ?_, ei (by omega) (by omega) ?_, ei (by omega) (by omega) ?_, trivial⟩ <;> (rw [hW]; repeat (first | (refine cell_newg ?_ rfl; simp; done) | refine cell_old ?_))
  have i2 : Is W (.slice (some ⟨w.heap.size + 1, 0, none⟩) 4 4) [2, 0, 1, 0] := by
    refine is_lit (p := [2, 0, 1, 0]) (by omega) (by decide) ⟨ei (by omega) (by omega) ?_, ei (by omega) (by omega) ?_, ei (by omega) (by omega) ?_, ei (by omega) (by omega) ?_, trivial⟩ <;> (rw [hW]; repeat (first | (refine cell_newg ?_ rfl; simp; done) | refine cell_old ?_))
  rw [← hW] at hB ⊢
  refine (match_any sv _ _ sumS [2, -1, -1] [2, 0, 1, 0] W (hs.kp (Kp.of_below hB)) i1 i2 (hT.below hB) (by decide) (by decide)).mono ?_
  rintro e w' ⟨hb, ⟨rfl, _⟩ | ⟨v, f, rfl, _, _, hf, hsm, ho⟩⟩
  · exact ⟨rfl, below_step hB hb⟩
  · exact absurd hsm (sh_no f hf)

set_option maxRecDepth 100000 in
theorem call_v1 (w : World) (sv : Value) (hs : Sg w sv sumS) (hT : Tabs w) : Calls Tryd.prog 14 #[sv, .agg #[.slice (some ⟨w.heap.size, 0, none⟩) 3 3, .slice (some ⟨w.heap.size + 1, 0, none⟩) 1 1], .agg #[.slice (some ⟨w.heap.size + 1 + 1, 0, none⟩) 3 3, .slice (some ⟨w.heap.size + 1 + 1 + 1, 0, none⟩) 1 1]] ((((w.alloc (Obj.cells #[Value.int IntKind.i64 2, Value.int IntKind.i64 (-1), Value.int IntKind.i64 (-2)] 3)).alloc (Obj.cells #[Value.int IntKind.i64 (-1)] 3)).alloc (Obj.cells #[Value.int IntKind.i64 2, Value.int IntKind.i64 (-7), Value.int IntKind.i64 (-3)] 3)).alloc (Obj.cells #[Value.int IntKind.i64 (-7)] 3))
    fun e w' => e = .returned (.bool true) ∧ Below w.heap.size w w' := by
  have hB : Below w.heap.size w ((((w.alloc (Obj.cells #[Value.int IntKind.i64 2, Value.int IntKind.i64 (-1), Value.int IntKind.i64 (-2)] 3)).alloc (Obj.cells #[Value.int IntKind.i64 (-1)] 3)).alloc (Obj.cells #[Value.int IntKind.i64 2, Value.int IntKind.i64 (-7), Value.int IntKind.i64 (-3)] 3)).alloc (Obj.cells #[Value.int IntKind.i64 (-7)] 3)) := (below_step (below_step (below_step (below_alloc _) (below_alloc _)) (below_alloc _)) (below_alloc _))
  obtain ⟨W, hW⟩ : ∃ W, W = ((((w.alloc (Obj.cells #[Value.int IntKind.i64 2, Value.int IntKind.i64 (-1), Value.int IntKind.i64 (-2)] 3)).alloc (Obj.cells #[Value.int IntKind.i64 (-1)] 3)).alloc (Obj.cells #[Value.int IntKind.i64 2, Value.int IntKind.i64 (-7), Value.int IntKind.i64 (-3)] 3)).alloc (Obj.cells #[Value.int IntKind.i64 (-7)] 3)) := ⟨_, rfl⟩
  have hsz : W.heap.size = w.heap.size + 4 := by rw [hW]; simp
  have i1 : Is W (.slice (some ⟨w.heap.size, 0, none⟩) 3 3) [2, -1, -2] := by
    refine is_lit (p := [2, -1, -2]) (by omega) (by decide) ⟨ei (by omega) (by omega) ?_, ei (by omega) (by omega) ?_, ei (by omega) (by omega) ?_, trivial⟩ <;> (rw [hW]; repeat (first | (refine cell_newg ?_ rfl; simp; done) | refine cell_old ?_))
  have i2 : Is W (.slice (some ⟨w.heap.size + 1, 0, none⟩) 1 1) [-1] := by
    refine is_lit (p := [-1]) (by omega) (by decide) ⟨ei (by omega) (by omega) ?_, trivial⟩ <;> (rw [hW]; repeat (first | (refine cell_newg ?_ rfl; simp; done) | refine cell_old ?_))
  have i3 : Is W (.slice (some ⟨w.heap.size + 1 + 1, 0, none⟩) 3 3) [2, -7, -3] := by
    refine is_lit (p := [2, -7, -3]) (by omega) (by decide) ⟨ei (by omega) (by omega) ?_, ei (by omega) (by omega) ?_, ei (by omega) (by omega) ?_, trivial⟩ <;> (rw [hW]; repeat (first | (refine cell_newg ?_ rfl; simp; done) | refine cell_old ?_))
  have i4 : Is W (.slice (some ⟨w.heap.size + 1 + 1 + 1, 0, none⟩) 1 1) [-7] := by
    refine is_lit (p := [-7]) (by omega) (by decide) ⟨ei (by omega) (by omega) ?_, trivial⟩ <;> (rw [hW]; repeat (first | (refine cell_newg ?_ rfl; simp; done) | refine cell_old ?_))
  rw [← hW] at hB ⊢
  refine (variant_any sv _ _ _ _ sumS [2, -1, -2] [-1] [2, -7, -3] [-7] W (hs.kp (Kp.of_below hB)) i1 i2 i3 i4 (hT.below hB) (by decide) (by decide) (by decide) (by decide)).mono ?_
  rintro e w' ⟨rfl, hb⟩
  rw [sh5_a]
  exact ⟨rfl, below_step hB hb⟩

set_option maxRecDepth 100000 in
theorem call_v2 (w : World) (sv : Value) (hs : Sg w sv sumS) (hT : Tabs w) : Calls Tryd.prog 14 #[sv, .agg #[.slice (some ⟨w.heap.size, 0, none⟩) 3 3, .slice (some ⟨w.heap.size + 1, 0, none⟩) 1 1], .agg #[.slice (some ⟨w.heap.size + 1 + 1, 0, none⟩) 3 3, .slice (some ⟨w.heap.size + 1 + 1 + 1, 0, none⟩) 1 1]] ((((w.alloc (Obj.cells #[Value.int IntKind.i64 2, Value.int IntKind.i64 (-1), Value.int IntKind.i64 (-2)] 3)).alloc (Obj.cells #[Value.int IntKind.i64 (-1)] 3)).alloc (Obj.cells #[Value.int IntKind.i64 2, Value.int IntKind.i64 (-7), Value.int IntKind.i64 (-3)] 3)).alloc (Obj.cells #[Value.int IntKind.i64 (-3)] 3))
    fun e w' => e = .returned (.bool false) ∧ Below w.heap.size w w' := by
  have hB : Below w.heap.size w ((((w.alloc (Obj.cells #[Value.int IntKind.i64 2, Value.int IntKind.i64 (-1), Value.int IntKind.i64 (-2)] 3)).alloc (Obj.cells #[Value.int IntKind.i64 (-1)] 3)).alloc (Obj.cells #[Value.int IntKind.i64 2, Value.int IntKind.i64 (-7), Value.int IntKind.i64 (-3)] 3)).alloc (Obj.cells #[Value.int IntKind.i64 (-3)] 3)) := (below_step (below_step (below_step (below_alloc _) (below_alloc _)) (below_alloc _)) (below_alloc _))
  obtain ⟨W, hW⟩ : ∃ W, W = ((((w.alloc (Obj.cells #[Value.int IntKind.i64 2, Value.int IntKind.i64 (-1), Value.int IntKind.i64 (-2)] 3)).alloc (Obj.cells #[Value.int IntKind.i64 (-1)] 3)).alloc (Obj.cells #[Value.int IntKind.i64 2, Value.int IntKind.i64 (-7), Value.int IntKind.i64 (-3)] 3)).alloc (Obj.cells #[Value.int IntKind.i64 (-3)] 3)) := ⟨_, rfl⟩
  have hsz : W.heap.size = w.heap.size + 4 := by rw [hW]; simp
  have i1 : Is W (.slice (some ⟨w.heap.size, 0, none⟩) 3 3) [2, -1, -2] := by
    refine is_lit (p := [2, -1, -2]) (by omega) (by decide) ⟨ei (by omega) (by omega) ?_, ei (by omega) (by omega) ?_, ei (by omega) (by omega) ?_, trivial⟩ <;> (rw [hW]; repeat (first | (refine cell_newg ?_ rfl; simp; done) | refine cell_old ?_))
  have i2 : Is W (.slice (some ⟨w.heap.size + 1, 0, none⟩) 1 1) [-1] := by
    refine is_lit (p := [-1]) (by omega) (by decide) ⟨ei (by omega) (by omega) ?_, trivial⟩ <;> (rw [hW]; repeat (first | (refine cell_newg ?_ rfl; simp; done) | refine cell_old ?_))
  have i3 : Is W (.slice (some ⟨w.heap.size + 1 + 1, 0, none⟩) 3 3) [2, -7, -3] := by
    refine is_lit (p := [2, -7, -3]) (by omega) (by decide) ⟨ei (by omega) (by omega) ?_, ei (by omega) (by omega) ?_, ei (by omega) (by omega) ?_, trivial⟩ <;> (rw [hW]; repeat (first | (refine cell_newg ?_ rfl; simp; done) | refine cell_old ?_))
  have i4 : Is W (.slice (some ⟨w.heap.size + 1 + 1 + 1, 0, none⟩) 1 1) [-3] := by
    refine is_lit (p := [-3]) (by omega) (by decide) ⟨ei (by omega) (by omega) ?_, trivial⟩ <;> (rw [hW]; repeat (first | (refine cell_newg ?_ rfl; simp; done) | refine cell_old ?_))
  rw [← hW] at hB ⊢
  refine (variant_any sv _ _ _ _ sumS [2, -1, -2] [-1] [2, -7, -3] [-3] W (hs.kp (Kp.of_below hB)) i1 i2 i3 i4 (hT.below hB) (by decide) (by decide) (by decide) (by decide)).mono ?_
  rintro e w' ⟨rfl, hb⟩
  rw [sh5_b]
  exact ⟨rfl, below_step hB hb⟩

set_option maxRecDepth 100000 in
theorem call_s5 (w : World) (v : Value) (h : Bs w v [(0, [1, 0]), (1, [0])]) : Calls Tryd.prog 12 #[v, .slice (some ⟨w.heap.size + 1 + 1, 0, none⟩) 2 2] (((w.alloc (Obj.cells #[Value.int IntKind.i64 1, Value.int IntKind.i64 0] 3)).alloc (Obj.cells #[Value.int IntKind.i64 0] 3)).alloc (Obj.cells #[Value.int IntKind.i64 0, .slice (some ⟨w.heap.size, 0, none⟩) 2 2, Value.int IntKind.i64 1, .slice (some ⟨w.heap.size + 1, 0, none⟩) 1 1] 30))
    fun e w' => e = .returned (.bool true) ∧ Below w.heap.size w w' := by
  have hB : Below w.heap.size w (((w.alloc (Obj.cells #[Value.int IntKind.i64 1, Value.int IntKind.i64 0] 3)).alloc (Obj.cells #[Value.int IntKind.i64 0] 3)).alloc (Obj.cells #[Value.int IntKind.i64 0, .slice (some ⟨w.heap.size, 0, none⟩) 2 2, Value.int IntKind.i64 1, .slice (some ⟨w.heap.size + 1, 0, none⟩) 1 1] 30)) := (below_step (below_step (below_alloc _) (below_alloc _)) (below_alloc _))
  obtain ⟨W, hW⟩ : ∃ W, W = (((w.alloc (Obj.cells #[Value.int IntKind.i64 1, Value.int IntKind.i64 0] 3)).alloc (Obj.cells #[Value.int IntKind.i64 0] 3)).alloc (Obj.cells #[Value.int IntKind.i64 0, .slice (some ⟨w.heap.size, 0, none⟩) 2 2, Value.int IntKind.i64 1, .slice (some ⟨w.heap.size + 1, 0, none⟩) 1 1] 30)) := ⟨_, rfl⟩
  have hsz : W.heap.size = w.heap.size + 3 := by rw [hW]; simp
  have i1 : Is W (.slice (some ⟨w.heap.size, 0, none⟩) 2 2) [1, 0] := by
    refine is_lit (p := [1, 0]) (by omega) (by decide) ⟨ei (by omega) (by omega) ?_, ei (by omega) (by omega) ?_, trivial⟩ <;> (rw [hW]; repeat (first | (refine cell_newg ?_ rfl; simp; done) | refine cell_old ?_))
  have i2 : Is W (.slice (some ⟨w.heap.size + 1, 0, none⟩) 1 1) [0] := by
    refine is_lit (p := [0]) (by omega) (by decide) ⟨ei (by omega) (by omega) ?_, trivial⟩ <;> (rw [hW]; repeat (first | (refine cell_newg ?_ rfl; simp; done) | refine cell_old ?_))
  have i3 : Bs W (.slice (some ⟨w.heap.size + 1 + 1, 0, none⟩) 2 2) [(0, [1, 0]), (1, [0])] := by
    refine bs_lit (p := [(0, [1, 0]), (1, [0])]) (by omega) (by decide) ⟨⟨by decide, by decide, by decide, ?_, _, ?_, i1⟩, ⟨by decide, by decide, by decide, ?_, _, ?_, i2⟩, trivial⟩ <;> (rw [hW]; repeat (first | (refine cell_newg ?_ rfl; simp; done) | refine cell_old ?_))
  rw [← hW] at hB ⊢
  refine (same5_any v _ _ W (h.kp (Kp.of_below hB)) i3).mono ?_
  rintro e w' ⟨rfl, hb⟩
  exact ⟨rfl, below_step hB hb⟩

set_option maxRecDepth 100000 in
set_option maxHeartbeats 2000000 in
theorem shown5_any (w : World) (hT : Tabs w) : Calls Tryd.prog 9 #[] w fun e w' => e = .returned (.bool true) ∧ Below w.heap.size w w' := by
  have HT := hid hT
  clear hT
  go_enter Tryd.func9, Tryd.ntmps9
  go_wp2_with fail
  refine (three5_any w).mono ?_
  rintro e w1 ⟨v1, rfl, hs1, hb1⟩
  obtain ⟨so, sc, rfl, _, hsc, _⟩ := Row.flat hs1
  have HS1 := hid hs1
  have HB1 := hid hb1
  clear hs1 hb1
  go_wp2_with fail
  refine (call_m1 w1 _ HS1.out (HT.out.below HB1.out)).mono ?_
  rintro e w2 ⟨va, rfl, ha, hb2⟩
  have HA := hid ha
  have C2 := hid hb2
  have HB2 := hid (below_step HB1.out hb2)
  clear ha hb2
  go_wp2_with fail
  refine (call_m2 w2 _ (HS1.out.kp (Kp.of_below C2.out)) (HT.out.below HB2.out)).mono ?_
  rintro e w3 ⟨rfl, hb3⟩
  have C3 := hid hb3
  have HB3 := hid (below_step HB2.out hb3)
  clear hb3
  go_wp2_with fail
  refine (call_s5 w3 _ (HA.out.kp (Kp.of_below C3.out))).mono ?_
  rintro e w4 ⟨rfl, hb4⟩
  have C4 := hid (below_step C3.out hb4)
  have HB4 := hid (below_step HB3.out hb4)
  clear hb4
  go_wp2_with fail
  refine (call_v1 w4 _ (HS1.out.kp (Kp.of_below (below_step C2.out C4.out))) (HT.out.below HB4.out)).mono ?_
  rintro e w5 ⟨rfl, hb5⟩
  have C5 := hid (below_step C4.out hb5)
  have HB5 := hid (below_step HB4.out hb5)
  clear hb5
  go_wp2_with fail
  refine (call_v2 w5 _ (HS1.out.kp (Kp.of_below (below_step C2.out C5.out))) (HT.out.below HB5.out)).mono ?_
  rintro e w6 ⟨rfl, hb6⟩
  have HB6 := hid (below_step HB5.out hb6)
  clear hb6
  go_wp2
  go_ret
  exact ⟨rfl, HB6.out⟩

end Go.Proofs.YtcijfaijjpkdoaaDoor

/- placesAbove walked. -/
namespace Go.Proofs.YtcijfaijjpkdoaaDoor
open Go.RowKit Go.Maps

theorem abv_here (T : Tr) (p : Nat) : abv T p p = [] := by
  cases T with
  | var => simp [abv]
  | app ts => unfold abv; rw [if_pos rfl]

theorem sizes_drop {ts : List Tr} {j : Nat} {t : Tr} (h : ts[j]? = some t) : sizes (ts.drop j) = t.size + sizes (ts.drop (j + 1)) := by
  rw [drop_get h]
  simp only [sizes]

theorem sizes_pos {ts : List Tr} {j : Nat} (h : 0 < sizes (ts.drop j)) : j < ts.length := by
  by_cases hj : j < ts.length
  · exact hj
  · rw [List.drop_of_length_le (by omega)] at h
    simp [sizes] at h

theorem abvs_next {ts : List Tr} {j p q : Nat} {t : Tr} (h : ts[j]? = some t) : abvs (ts.drop j) p q = if p + t.size ≤ q then abvs (ts.drop (j + 1)) (p + t.size) q else abv t p q := by
  rw [drop_get h]
  rfl

end Go.Proofs.YtcijfaijjpkdoaaDoor

/- slices.Grow, slices.Concat walked. -/
namespace Go.Proofs.YtcijfaijjpkdoaaDoor
open Go.RowKit Go.Maps Go.BigFrame

theorem wpList_append_run2 {P : Program} {w w' : World} {ops : Array Oper} {rest : List Oper} {o : Oper} {a : Act} {v' : Value} {Q : Exit → Act → World → Prop} (hgd : o.guard = none) (s x : Operand) (t t2 : TypeId)
    (ho : o.op = .call { callee := .builtin .append, args := #[s, x], argTypes := #[t, t2] }) (v u : Value) (hs : a.eval s = v) (hx : a.eval x = u)
    (hr : (Builtin.append_ #[t, t2] o.type #[v, u]).run P w = .ok v' w') (h : wpList P ops Q rest (a.put o.dst v') w') : wpList P ops Q (o :: rest) a w := by
  refine wpList_plain hgd fun K hK => ?_
  unfold Oper.wp execOp
  simp only [ho, resolve, invoke, builtin, Sem.run_bind, Sem.run_pure, Result.andThen_ok, List.map_toArray, List.map_cons, List.map_nil, hs, hx, hr]
  exact hK _ _ h

theorem zeroI_cells (n : Nat) : (Builtin.zeroCells (Value.int .i64 0).cells n).size = n := by
  simp [Builtin.zeroCells, Value.cells]

theorem sumT_take {l : List (List Int)} {k : Nat} {r : List Int} (h : l[k]? = some r) : ((l.take (k + 1)).map List.length).sum = ((l.take k).map List.length).sum + r.length := by
  rw [take_get h, List.map_append, List.sum_append]
  simp

theorem sumT_le (l : List (List Int)) (k : Nat) : ((l.take k).map List.length).sum ≤ (l.map List.length).sum := by
  have : (l.map List.length).sum = ((l.take k).map List.length).sum + ((l.drop k).map List.length).sum := by
    rw [← List.sum_append, ← List.map_append, List.take_append_drop]
  omega

theorem flat_len (l : List (List Int)) : l.flatten.length = (l.map List.length).sum := List.length_flatten

end Go.Proofs.YtcijfaijjpkdoaaDoor

/- Replace and Above walked. -/
namespace Go.Proofs.YtcijfaijjpkdoaaDoor
open Go.RowKit Go.Maps Go.BigFrame

/-- What is wrong with what Replace is asked. -/
def replE (sig : List Sy) (t : List Int) (p : Int) (u : List Int) : Int :=
  if termE sig t = 0 then (if rowE sig u = 0 then (if placeE sig t p = 0 then (if 512 < p.toNat + u.length + (t.length - (p.toNat + nodes sig t p.toNat)) then 2 else 0) else placeE sig t p) else rowE sig u) else termE sig t

def replL (sig : List Sy) (t : List Int) (p : Int) (u : List Int) : List Int := if replE sig t p u = 0 then t.take p.toNat ++ (u ++ t.drop (p.toNat + nodes sig t p.toNat)) else []

theorem repl_none {sig : List Sy} {t u : List Int} {p : Int} (h : replE sig t p u ≠ 0) : replL sig t p u = [] := by
  unfold replL
  rw [if_neg h]

theorem repl_ok {sig : List Sy} {t u : List Int} {k : Nat} (ht : termE sig t = 0) (hu : rowE sig u = 0) (hk : k < t.length) :
    replE sig t k u = (if 512 < k + u.length + (t.length - (k + nodes sig t k)) then 2 else 0) ∧ replL sig t k u = (if 512 < k + u.length + (t.length - (k + nodes sig t k)) then [] else t.take k ++ (u ++ t.drop (k + nodes sig t k))) := by
  have h1 : replE sig t k u = if 512 < k + u.length + (t.length - (k + nodes sig t k)) then 2 else 0 := by
    unfold replE
    rw [if_pos ht, if_pos hu, if_pos (place_in ht hk), Int.toNat_natCast]
  refine ⟨h1, ?_⟩
  unfold replL
  rw [h1, Int.toNat_natCast]
  by_cases h2 : 512 < k + u.length + (t.length - (k + nodes sig t k))
  · rw [if_pos h2, if_pos h2, if_neg (by omega)]
  · rw [if_neg h2, if_neg h2, if_pos rfl]

/-- The end of a row. -/
theorem Is.tail {w : World} {b off cap k : Nat} {t : List Int} (h : Is w (.slice (some ⟨b, off, none⟩) t.length cap) t) (hk : k ≤ t.length) : Is w (.slice (some ⟨b, if cap = k then off else off + k, none⟩) (t.length - k) (cap - k)) (t.drop k) := by
  by_cases he : k = t.length
  · subst he
    rw [List.drop_length, Nat.sub_self]
    obtain ⟨ao, cap', e, h1, h2, h3⟩ := h
    simp only [Value.slice.injEq, true_and] at e
    obtain ⟨_, rfl⟩ := e
    exact Row.nil (by omega)
  · have h1 : t.length ≤ cap := by
      obtain ⟨ao, cap', e, h1, _⟩ := h
      simp only [Value.slice.injEq, true_and] at e
      obtain ⟨_, rfl⟩ := e
      exact h1
    have h2 := h.mid (k := k) (m := t.length - k) (by omega) (by omega)
    rw [List.take_of_length_le (by rw [List.length_drop]; exact Nat.le_refl _)] at h2
    rw [if_neg (by omega)]
    exact h2

/-- The beginning of a row. -/
theorem Is.head {w : World} {b off cap k : Nat} {t : List Int} (h : Is w (.slice (some ⟨b, off, none⟩) t.length cap) t) (hk : k ≤ t.length) : Is w (.slice (some ⟨b, off, none⟩) k cap) (t.take k) := by
  obtain ⟨ao, cap', e, h1, h2, h3⟩ := h
  simp only [Value.slice.injEq, true_and] at e
  obtain ⟨rfl, rfl⟩ := e
  have hl : (t.take k).length = k := by rw [List.length_take]; omega
  refine ⟨some ⟨b, off, none⟩, cap, by rw [hl], by omega, h2, fun h0 => ?_⟩
  rw [hl] at h0
  obtain ⟨g, o, e, hg, hE⟩ := h3 (by omega)
  simp only [Option.some.injEq, Addr.mk.injEq, and_true] at e
  obtain ⟨rfl, rfl⟩ := e
  refine ⟨b, off, rfl, hg, fun j x hj => hE j x ?_⟩
  have := (List.getElem?_eq_some_iff.1 hj).1
  rw [List.getElem?_take_of_lt (by omega)] at hj
  exact hj

end Go.Proofs.YtcijfaijjpkdoaaDoor

/- Terms with a part replaced, plainly. -/
namespace Go.Proofs.YtcijfaijjpkdoaaDoor
open Go.RowKit Go.Maps Go.BigFrame

/-- What stands ahead of a place only counts what is missing there. -/
theorem first_pre {sig : List Sy} (ha : ArOk sig) (s : List Int) : ∀ (p : List Int) (m : Int) (j : Nat), 1 ≤ m → s ≠ [] → firstT sig m j (p ++ s) = ((j : Int) + (p ++ s).length, 0) → ∃ m' : Int, 1 ≤ m' ∧ ∀ r : List Int, firstT sig m j (p ++ r) = firstT sig m' (j + p.length) r
  | [], m, j, hm, _, _ => ⟨m, hm, fun r => rfl⟩
  | c :: p, m, j, hm, hs, h => by
    rw [List.cons_append, firstT_cons] at h
    cases hc : codeD sig c with
    | none => rw [hc] at h; simp at h
    | some e =>
      have he := codeD_ge ha hc
      rw [hc] at h
      simp only at h
      by_cases h0 : m + e = 0
      · rw [if_pos h0] at h
        have h1 := congrArg Prod.fst h
        have h2 : 0 < s.length := by
          cases s with
          | nil => exact absurd rfl hs
          | cons a s => simp
        simp only [List.length_cons, List.length_append] at h1
        omega
      · rw [if_neg h0] at h
        obtain ⟨m', h1, h2⟩ := first_pre ha s p (m + e) (j + 1) (by omega) hs (by rw [h]; simp only [List.length_cons, Prod.mk.injEq, and_true]; omega)
        refine ⟨m', h1, fun r => ?_⟩
        rw [List.cons_append, firstT_cons, hc]
        simp only
        rw [if_neg h0, h2 r, List.length_cons]
        congr 1
        omega

theorem first_move {sig : List Sy} : ∀ (r : List Int) (m : Int) (i j : Nat) (n : Nat), firstT sig m i r = ((i : Int) + n, 0) → firstT sig m j r = ((j : Int) + n, 0)
  | [], m, i, j, n, h => by simp [firstT] at h
  | c :: r, m, i, j, n, h => by
    rw [firstT_cons] at h ⊢
    cases hc : codeD sig c with
    | none => rw [hc] at h; simp at h
    | some e =>
      rw [hc] at h
      simp only at h ⊢
      by_cases h0 : m + e = 0
      · rw [if_pos h0] at h ⊢
        have := congrArg Prod.fst h
        simp only at this
        simp only [Prod.mk.injEq, and_true]
        omega
      · rw [if_neg h0] at h ⊢
        cases n with
        | zero =>
          exfalso
          obtain ⟨k, h1, h2, _⟩ := first_take r (m + e) (i + 1) _ h
          omega
        | succ n =>
          have := first_move r (m + e) (i + 1) (j + 1) n (by rw [h]; simp only [Prod.mk.injEq, and_true]; omega)
          rw [this]
          simp only [Prod.mk.injEq, and_true]
          omega

theorem right_len {sig : List Sy} {u : List Int} (h : rowE sig u = 0) : 0 < u.length := by
  cases u with
  | nil => simp [rowE, firstT] at h
  | cons c u => simp

/-- A right term with a right part replaced by a right term is one. -/
theorem right_mid {sig : List Sy} (ha : ArOk sig) {p v u q : List Int} (h : rowE sig (p ++ (v ++ q)) = 0) (hv : rowE sig v = 0) (hu : rowE sig u = 0) : rowE sig (p ++ (u ++ q)) = 0 := by
  have hvl := right_len hv
  have hvn : v ++ q ≠ [] := by
    intro e
    have := congrArg List.length e
    simp at this
    simp [this.1] at hvl
  have h1 := row_first.1 h
  obtain ⟨m', hm, hp⟩ := first_pre ha (v ++ q) p 1 0 (by omega) hvn (by rw [h1]; simp)
  rw [hp, first_app ha v 1 0 (by omega) (by rw [row_first.1 hv]; simp) m' _ q hm] at h1
  rw [row_first, hp, first_app ha u 1 0 (by omega) (by rw [row_first.1 hu]; simp) m' _ q hm]
  by_cases h0 : m' = 1
  · rw [if_pos h0] at h1 ⊢
    have h2 := congrArg Prod.fst h1
    simp only [List.length_append] at h2 ⊢
    simp only [Prod.mk.injEq, and_true]
    omega
  · rw [if_neg h0] at h1 ⊢
    rw [first_move q (m' - 1) (0 + p.length + v.length) (0 + p.length + u.length) q.length (by rw [h1]; simp only [List.length_append, Prod.mk.injEq, and_true]; omega)]
    simp only [List.length_append, Prod.mk.injEq, and_true]
    omega

theorem term_of {sig : List Sy} {t u : List Int} (h : termE sig t = 0) (hu : rowE sig u = 0) : termE sig u = 0 := by
  unfold termE
  rw [if_pos (term_parts h).1]
  exact hu

theorem nodes_mid {sig : List Sy} {p v q : List Int} (hv : rowE sig v = 0) : nodes sig (p ++ (v ++ q)) p.length = v.length := by
  have := nodes_behind (sig := sig) p (v ++ q) 0
  rw [Nat.add_zero] at this
  rw [this]
  unfold nodes
  rw [List.drop_zero, first_right hv]
  simp

/-- Replace, of a term that is taken apart. -/
theorem repl_mid {sig : List Sy} {p v u q : List Int} (h : termE sig (p ++ (v ++ q)) = 0) (hv : rowE sig v = 0) (hu : rowE sig u = 0) :
    replE sig (p ++ (v ++ q)) p.length u = (if 512 < p.length + u.length + q.length then 2 else 0) ∧ replL sig (p ++ (v ++ q)) p.length u = (if 512 < p.length + u.length + q.length then [] else p ++ (u ++ q)) := by
  have hvl := right_len hv
  have h1 := repl_ok h hu (k := p.length) (by simp only [List.length_append]; omega)
  rw [nodes_mid hv] at h1
  have h2 : (p ++ (v ++ q)).length - (p.length + v.length) = q.length := by simp only [List.length_append]; omega
  have h3 : (p ++ (v ++ q)).drop (p.length + v.length) = q := by rw [← List.append_assoc, ← List.length_append, List.drop_left]
  rw [h2, h3, List.take_left] at h1
  exact h1

/-- A right term taken apart at a place. -/
theorem split_place {sig : List Sy} {t : List Int} (h : termE sig t = 0) {k : Nat} (hk : k < t.length) : ∃ p v q, t = p ++ (v ++ q) ∧ p.length = k ∧ v.length = nodes sig t k ∧ rowE sig v = 0 := by
  obtain ⟨hs, hr⟩ := term_parts h
  obtain ⟨h1, h2, h3, h4⟩ := at_place (sigE_ok hs) hr hk
  refine ⟨t.take k, (t.drop k).take (nodes sig t k), (t.drop k).drop (nodes sig t k), ?_, ?_, ?_, h4⟩
  · rw [List.take_append_drop, List.take_append_drop]
  · rw [List.length_take]; omega
  · rw [List.length_take, List.length_drop]; omega

/-- A second place, behind the first one and not below it. -/
theorem split_second {sig : List Sy} {p v r : List Int} (h : termE sig (p ++ (v ++ r)) = 0) {k : Nat} (hk : k < (p ++ (v ++ r)).length) (hv : p.length + v.length ≤ k) :
    ∃ m x q, r = m ++ (x ++ q) ∧ p.length + v.length + m.length = k ∧ rowE sig x = 0 := by
  obtain ⟨p2, x, q, h1, h2, _, h4⟩ := split_place h hk
  have h5 : p2 = p ++ v ++ r.take (k - (p.length + v.length)) := by
    have := congrArg (List.take k) h1
    rw [← h2, List.take_left, h2] at this
    rw [← this, ← List.append_assoc, List.take_append, List.length_append, List.take_of_length_le (by rw [List.length_append]; omega)]
  refine ⟨r.take (k - (p.length + v.length)), x, q, ?_, ?_, h4⟩
  · rw [h5, List.append_assoc, List.append_assoc] at h1
    exact List.append_cancel_left (List.append_cancel_left h1)
  · have h6 := congrArg List.length h5
    rw [List.length_append, List.length_append, h2] at h6
    exact h6.symm

end Go.Proofs.YtcijfaijjpkdoaaDoor

/- MatchInside. -/
namespace Go.Proofs.YtcijfaijjpkdoaaDoor
open Go.RowKit Go.Maps Go.BigFrame

theorem binds_key {f : Int → Option (List Int)} {p : List Int} {b c : Bd} (hb : b ∈ bindsL f p) (hc : c ∈ bindsL f p) (h : b.1 = c.1) : b.2 = c.2 := by
  unfold bindsL at hb hc
  obtain ⟨n, _, rfl⟩ := List.mem_map.1 hb
  obtain ⟨m, _, rfl⟩ := List.mem_map.1 hc
  simp only at h ⊢
  rw [h]

/-- Whether a bind of the variable is among the first. -/
def anyK (L : List Bd) (x : Int) (j : Nat) : Bool := (L.take j).any fun b => b.1 == x

theorem anyK_next {L : List Bd} {x y : Int} {t : List Int} {j : Nat} (h : L[j]? = some (y, t)) : anyK L x (j + 1) = (anyK L x j || y == x) := by
  unfold anyK
  rw [take_get h, List.any_append]
  simp

theorem anyK_all {L : List Bd} {x : Int} {t : List Int} {j : Nat} (hj : L.length ≤ j) (h : (x, t) ∈ L) : anyK L x j = true := by
  unfold anyK
  rw [List.take_of_length_le hj, List.any_eq_true]
  exact ⟨_, h, by simp⟩

set_option maxRecDepth 100000 in
set_option maxHeartbeats 6400000 in
theorem matchInside_any (sv pv tv : Value) (sig : List Sy) (p t : List Int) (w : World) (hs : Sg w sv sig) (hp : Is w pv p) (ht : Is w tv t) (hT : Tabs w) (hl1 : p.length * 32 ≤ 140737488351232) (hl2 : t.length * 16 ≤ 140737488351232) :
    Calls Tryd.prog 7 #[sv, pv, tv] w fun e w' => e = .returned (.bool true) ∧ Below w.heap.size w w' := by
  obtain ⟨ap, cp, hpv, hcp1, hcp2, _⟩ := hp.flatI
  subst hpv
  obtain ⟨at', ct, htv, hct1, hct2, _⟩ := ht.flatI
  subst htv
  have HS := hid hs
  have HP := hid hp
  have HI := hid ht
  have HT := hid hT
  clear hs hp ht hT
  go_enter Tryd.func7, Tryd.ntmps7
  go_wp2_with fail
  refine (shown5_any w HT.out).mono ?_
  rintro e w1 ⟨rfl, hb1⟩
  have C1 := hid hb1
  clear hb1
  go_wp2_with fail
  refine (match_any sv _ _ sig p t w1 (HS.out.kp (Kp.of_below C1.out)) (HP.out.kp (Kp.of_below C1.out)) (HI.out.kp (Kp.of_below C1.out)) (HT.out.below C1.out) hl1 hl2).mono ?_
  rintro e w2 ⟨hb2, ⟨rfl, _⟩ | ⟨v, f, rfl, hep, het, hf, hsm, hob⟩⟩
  · have C2 := hid (below_step C1.out hb2)
    clear hb2
    go_wp2_with fail
    refine (refCheck_any sv _ sig p w2 (HS.out.kp (Kp.of_below C2.out)) (HP.out.kp (Kp.of_below C2.out)) (by omega)).mono ?_
    rintro e w3 ⟨rfl, hb3⟩
    have C3 := hid (below_step C2.out hb3)
    clear hb3
    go_wp2_with fail
    refine (refCheck_any sv _ sig t w3 (HS.out.kp (Kp.of_below C3.out)) (HI.out.kp (Kp.of_below C3.out)) (by omega)).mono ?_
    rintro e w4 ⟨rfl, hb4⟩
    have C4 := hid (below_step C3.out hb4)
    clear hb4
    go_wp2
    go_ret
    exact ⟨rfl, C4.out⟩
  · have C2 := hid (below_step C1.out hb2)
    have HF := hid hf
    have HSm := hid hsm
    have HAo := hid (sigE_ok (term_parts hep).1)
    have HRp := hid (term_parts hep).2
    have HBs := hid hob.bs
    have HEp := hid hep
    have HEt := hid het
    clear hb2 hf hsm hep het hob
    obtain ⟨BL, hBL⟩ : ∃ BL, BL = bindsL f p := ⟨_, rfl⟩
    rw [← hBL] at HBs
    have HBL := hid hBL
    clear hBL
    obtain ⟨vo, vc, rfl, hvc1, hvc2, _⟩ := Row.flat HBs.out
    unfold maxLen at hvc2
    go_wp2_with fail
    refine (refCheck_any sv _ sig p w2 (HS.out.kp (Kp.of_below C2.out)) (HP.out.kp (Kp.of_below C2.out)) (by omega)).mono ?_
    rintro e w3 ⟨rfl, hb3⟩
    rw [HEp.out]
    have C3 := hid (below_step C2.out hb3)
    have D3 := hid hb3
    clear hb3
    go_wp2_with fail
    refine (refCheck_any sv _ sig t w3 (HS.out.kp (Kp.of_below C3.out)) (HI.out.kp (Kp.of_below C3.out)) (by omega)).mono ?_
    rintro e w4 ⟨rfl, hb4⟩
    rw [HEt.out]
    have C4 := hid (below_step C3.out hb4)
    have HB4 := hid (HBs.out.kp (Kp.of_below (below_step D3.out hb4)))
    clear hb4 D3 HBs
    go_wp2
    go_loopw [12, 13] (fun hv iv wr => ∃ k : Nat, k ≤ p.length ∧ iv = .int .i64 k ∧ hv = .int .i64 (hereN f p k) ∧ Below w4.heap.size w4 wr) (fun _ iv _ => p.length - (intOf iv).toNat)
    case atStart => exact ⟨0, Nat.zero_le _, rfl, by simp [hereN, laidL], Below.refl _ _⟩
    case round =>
      obtain ⟨k, hk, rfl, rfl, hbl⟩ := hrel
      have HBl := hid hbl
      have CR := hid (below_step C4.out hbl)
      clear hbl
      by_cases hlt : k < p.length
      · obtain ⟨i1, i2, i3, i4, i5, i6, i7, i8⟩ := inside_at HAo.out HF.out HRp.out HSm.out hlt
        have hul := row_ne i1
        have htl := row_ne i4
        obtain ⟨c, hc⟩ : ∃ c, p[k]? = some c := ⟨_, List.getElem?_eq_getElem hlt⟩
        have HNx := hid (here_next (f := f) hc)
        have HPc := hid hc
        have HVr : Hid (c < 0 → partU sig p k = [c]) := fun h0 => part_var hc h0 (by
          have h1 := i1
          by_cases h2 : -1048576 ≤ c
          · exact h2
          · have h3 := i2
            rw [drop_get hc, firstT_cons, codeD_none (.inr (by omega))] at h3
            simp at h3)
        obtain ⟨gp, op, cc, rfl, hpc, hpx, _, _⟩ := (HP.out.kp (Kp.of_below CR.out)).at hlt
        rw [hc] at hpc
        cases hpc
        have hhl : hereN f p k < t.length := by omega
        obtain ⟨gt, ot, _, rfl, _, _, _, _⟩ := (HI.out.kp (Kp.of_below CR.out)).at hhl
        have HU : Hid (Is wr (.slice (some ⟨gp, op + k, none⟩) (partU sig p k).length (cp - k)) (partU sig p k)) := by
          have h9 := Is.mid (k := k) (m := (partU sig p k).length) (HP.out.kp (Kp.of_below CR.out)) hlt i3
          have e9 : (p.drop k).take (partU sig p k).length = partU sig p k := by
            have : (partU sig p k).length = nodes sig p k := by
              have := (at_place HAo.out HRp.out hlt).2.1
              unfold partU
              rw [List.length_take, List.length_drop]
              omega
            rw [this]
            rfl
          rw [e9] at h9
          exact h9
        have HV : Hid (Is wr (.slice (some ⟨gt, ot + hereN f p k, none⟩) (laidL f (partU sig p k)).length (ct - hereN f p k)) (laidL f (partU sig p k))) := by
          have h9 := Is.mid (k := hereN f p k) (m := (laidL f (partU sig p k)).length) (HI.out.kp (Kp.of_below CR.out)) hhl i5
          rw [i7] at h9
          exact h9
        have HMm : Hid (∀ b ∈ bindsL f (partU sig p k), b ∈ bindsL f p) := binds_part (fun d hd => List.mem_of_mem_drop (List.mem_of_mem_take hd))
        have HPl : Hid ((piece f c).length = if c < 0 then (laidL f (partU sig p k)).length else 1) := by
          by_cases h0 : c < 0
          · show _ = _
            rw [if_pos h0, HVr.out h0, laidL_cons]
            simp [laidL]
          · show _ = _
            rw [if_neg h0]
            unfold piece
            rw [if_neg h0]
            rfl
        have HSu := hid i8
        have HI2 := hid i2
        have HI6 := hid i6
        obtain ⟨u, hu⟩ : ∃ u, u = partU sig p k := ⟨_, rfl⟩
        obtain ⟨tt, htt⟩ : ∃ tt, tt = laidL f (partU sig p k) := ⟨_, rfl⟩
        obtain ⟨H, hH⟩ : ∃ H, H = hereN f p k := ⟨_, rfl⟩
        rw [← htt] at i4 i5 htl HV HSu HI6 HPl
        rw [← hu] at i1 i3 hul HU HMm HSu HI2
        rw [← hH] at i5 hhl HV HI6 HNx ⊢
        have HI4 := hid i4
        have HI1 := hid i1
        clear hu htt hH i2 i6 i7 i8 i4 i1 hc HVr
        have hcp3 : cp ≠ k := by omega
        have hct3 : ct ≠ H := by omega
        go_wp2_with fail
        refine (refEnd_any sv _ sig p k u.length wr (HS.out.kp (Kp.of_below CR.out)) (HP.out.kp (Kp.of_below CR.out)) HAo.out (by omega) HI2.out).mono ?_
        rintro e w5 ⟨rfl, hw5⟩
        have hw8 := hw5.symm
        subst hw8
        clear hw5
        go_wp2_with fail
        rw [show k + u.length - k = u.length by omega]
        refine (refEnd_any sv _ sig t H tt.length wr (HS.out.kp (Kp.of_below CR.out)) (HI.out.kp (Kp.of_below CR.out)) HAo.out (by omega) HI6.out).mono ?_
        rintro e w5 ⟨rfl, hw5⟩
        have hw8 := hw5.symm
        subst hw8
        clear hw5
        go_wp2_with fail
        rw [show H + tt.length - H = tt.length by omega]
        refine (match_any sv _ _ sig u tt wr (HS.out.kp (Kp.of_below CR.out)) HU.out HV.out (HT.out.below CR.out) (by omega) (by omega)).mono ?_
        rintro e w6 ⟨hb6, ⟨rfl, hno⟩ | ⟨cv, f2, rfl, _, _, hf2, hsm2, hob2⟩⟩
        · rcases hno with hno | hno | hno
          · exact absurd (term_of HEp.out HI1.out) hno
          · exact absurd (term_of HEp.out HI4.out) hno
          · exact absurd HSu.out (hno f HF.out)
        · rw [binds_unique hf2 HF.out hsm2 HSu.out] at hob2
          have C6 := hid hb6
          have HCb := hid hob2.bs
          have HB6 := hid (HB4.out.kp (Kp.of_below (below_step HBl.out hb6)))
          have C46 := hid (below_step HBl.out hb6)
          obtain ⟨CL, hCL⟩ : ∃ CL, CL = bindsL f u := ⟨_, rfl⟩
          have HKe : Hid (∀ b ∈ BL, ∀ c ∈ BL, b.1 = c.1 → b.2 = c.2) := by rw [HBL.out]; exact fun b hb c hc h => binds_key hb hc h
          rw [← HBL.out] at HMm
          rw [← hCL] at HMm HCb
          clear hb6 hob2 hf2 hsm2 hCL
          obtain ⟨co, cc2, rfl, hcc1, hcc2, _⟩ := Row.flat HCb.out
          unfold maxLen at hcc2
          go_wp2
          go_loopw [18] (fun iv ws => ∃ i : Nat, i ≤ CL.length ∧ iv = .int .i64 i ∧ Below w6.heap.size w6 ws) (fun iv _ => CL.length - (intOf iv).toNat)
          case atStart => exact ⟨0, Nat.zero_le _, rfl, Below.refl _ _⟩
          case round =>
            obtain ⟨i, hi, rfl, hbl⟩ := hrel
            have HB2 := hid hbl
            by_cases hil : i < CL.length
            · obtain ⟨g', off', x, xa, t2, xc, rfl, hm', hd0, hd1, hit', hx1, hx2, hx3⟩ := (HCb.out.kp (Kp.of_below hbl)).at hil
              have HXm := hid (HMm.out _ (List.mem_of_getElem? hm'))
              have HIt := hid hit'
              clear hm' hit' hbl
              go_wp2
              go_loopw [19, 20] (fun fv jv ws => ∃ j : Nat, j ≤ BL.length ∧ jv = .int .i64 j ∧ fv = .bool (anyK BL x j) ∧ Below wr.heap.size wr ws) (fun _ jv _ => BL.length - (intOf jv).toNat)
              case atStart => exact ⟨0, Nat.zero_le _, rfl, by simp [anyK], Below.refl _ _⟩
              case round =>
                obtain ⟨j, hj, rfl, rfl, hbl⟩ := hrel
                have HB3 := hid hbl
                by_cases hjl : j < BL.length
                · obtain ⟨g, off, y, ya, t3, yc, rfl, hm, hc0, hc1, hit, hy1, hy2, hy3⟩ := ((HB6.out.kp (Kp.of_below HB2.out)).kp (Kp.of_below hbl)).at hjl
                  have hd0' := (Kp.of_below hbl).cell _ _ hd0
                  have hd1' := (Kp.of_below hbl).cell _ _ hd1
                  have HIt2 := hid (HIt.out.kp (Kp.of_below hbl))
                  have HIs := hid hit
                  have NX := hid (anyK_next (x := x) hm)
                  by_cases hyx : y = x
                  · have h32 : t3 = t2 := HKe.out _ (List.mem_of_getElem? hm) _ HXm.out hyx
                    subst h32
                    have hb : (y == x) = true := by rw [beq_iff_eq]; exact hyx
                    rw [hb, Bool.or_true] at NX
                    obtain ⟨B, hB⟩ : ∃ B, B = anyK BL x j := ⟨_, rfl⟩
                    rw [← hB]
                    have HC : Hid (∀ W, Below wr.heap.size wr W → Calls Tryd.prog 13 #[.slice ya t3.length yc, .slice xa t3.length xc] W fun e w' => e = .returned (.bool true) ∧ Below W.heap.size W w') := fun W hW => by
                      refine (sameRow5_any _ _ t3 t3 W (HIs.out.kp (Kp.of_below hW)) (HIt2.out.kp (Kp.of_below hW))).mono ?_
                      rintro e w' ⟨rfl, n, hw⟩
                      exact ⟨by rw [decide_eq_true rfl], drawn_below hw⟩
                    clear hm hit hbl hyx hB hd0 hd1
                    go_wp2_with fail
                    refine region_below (by kernel_rfl) (by kernel_rfl) ?_
                    (go_big_quiet_want; go_big_quiet_op; go_big_quiet_on)
                    (go_big_quiet_want; go_big_quiet_op; go_big_quiet_on)
                    go_big_quiet_want
                    refine ⟨.pointer (some ⟨g, off + j * 2, none⟩), fun w' hw' => ?_, ?_⟩
                    · unfold Oper.quietAt; go_simp
                    simp only [Act.put, List.setIfInBounds_toArray, List.set_cons_zero, List.set_cons_succ]
                    go_big_quiet_on
                    go_big_quiet_want
                    refine ⟨.pointer (some ⟨g, off + j * 2, none⟩), fun w' hw' => ?_, ?_⟩
                    · unfold Oper.quietAt; go_simp
                    simp only [Act.put, List.setIfInBounds_toArray, List.set_cons_zero, List.set_cons_succ]
                    go_big_quiet_on
                    go_big_quiet_want
                    refine ⟨.int .i64 y, fun w' hw' => ?_, ?_⟩
                    · have hh0 := (Kp.of_below hw').cell _ _ hc0; unfold Oper.quietAt; go_simp
                    simp only [Act.put, List.setIfInBounds_toArray, List.set_cons_zero, List.set_cons_succ]
                    go_big_quiet_on
                    (go_big_quiet_want; go_big_quiet_op; go_big_quiet_on)
                    (go_big_quiet_want; go_big_quiet_op; go_big_quiet_on)
                    go_big_quiet_want
                    refine ⟨.pointer (some ⟨g', off' + i * 2, none⟩), fun w' hw' => ?_, ?_⟩
                    · unfold Oper.quietAt; go_simp
                    simp only [Act.put, List.setIfInBounds_toArray, List.set_cons_zero, List.set_cons_succ]
                    go_big_quiet_on
                    go_big_quiet_want
                    refine ⟨.pointer (some ⟨g', off' + i * 2, none⟩), fun w' hw' => ?_, ?_⟩
                    · unfold Oper.quietAt; go_simp
                    simp only [Act.put, List.setIfInBounds_toArray, List.set_cons_zero, List.set_cons_succ]
                    go_big_quiet_on
                    go_big_quiet_want
                    refine ⟨.int .i64 x, fun w' hw' => ?_, ?_⟩
                    · have hh0 := (Kp.of_below hw').cell _ _ hd0'; unfold Oper.quietAt; go_simp
                    simp only [Act.put, List.setIfInBounds_toArray, List.set_cons_zero, List.set_cons_succ]
                    go_big_quiet_on
                    go_big_quiet_want
                    refine ⟨.bool true, fun w' hw' => ?_, ?_⟩
                    · unfold Oper.quietAt; go_simp
                    simp only [Act.put, List.setIfInBounds_toArray, List.set_cons_zero, List.set_cons_succ]
                    go_big_quiet_on
                    refine wpQuiet_nil ?_
                    intro w7 hb7
                    have HB7 := hid (below_step HB3.out hb7)
                    have he0 := (Kp.of_below hb7).cell _ _ hc1
                    have he1 := (Kp.of_below hb7).cell _ _ hd1'
                    have HC7 : Hid (∀ W, Below w7.heap.size w7 W → Calls Tryd.prog 13 #[.slice ya t3.length yc, .slice xa t3.length xc] W fun e w' => e = .returned (.bool true) ∧ Below W.heap.size W w') := fun W hW => HC.out W (below_step hb7 hW)
                    clear hb7 hc0 hc1 hd0' hd1' HC
                    go_wp2_with fail
                    refine region_below (by kernel_rfl) (by kernel_rfl) ?_
                    (go_big_quiet_want; go_big_quiet_op; go_big_quiet_on)
                    (go_big_quiet_want; go_big_quiet_op; go_big_quiet_on)
                    go_big_quiet_want
                    refine ⟨.pointer (some ⟨g, off + j * 2, none⟩), fun w' hw' => ?_, ?_⟩
                    · unfold Oper.quietAt; go_simp
                    simp only [Act.put, List.setIfInBounds_toArray, List.set_cons_zero, List.set_cons_succ]
                    go_big_quiet_on
                    go_big_quiet_want
                    refine ⟨.pointer (some ⟨g, off + j * 2 + 1, none⟩), fun w' hw' => ?_, ?_⟩
                    · unfold Oper.quietAt; go_simp
                    simp only [Act.put, List.setIfInBounds_toArray, List.set_cons_zero, List.set_cons_succ]
                    go_big_quiet_on
                    go_big_quiet_want
                    refine ⟨.slice ya t3.length yc, fun w' hw' => ?_, ?_⟩
                    · have hh0 := (Kp.of_below hw').cell _ _ he0; unfold Oper.quietAt; go_simp
                    simp only [Act.put, List.setIfInBounds_toArray, List.set_cons_zero, List.set_cons_succ]
                    go_big_quiet_on
                    (go_big_quiet_want; go_big_quiet_op; go_big_quiet_on)
                    (go_big_quiet_want; go_big_quiet_op; go_big_quiet_on)
                    go_big_quiet_want
                    refine ⟨.pointer (some ⟨g', off' + i * 2, none⟩), fun w' hw' => ?_, ?_⟩
                    · unfold Oper.quietAt; go_simp
                    simp only [Act.put, List.setIfInBounds_toArray, List.set_cons_zero, List.set_cons_succ]
                    go_big_quiet_on
                    go_big_quiet_want
                    refine ⟨.pointer (some ⟨g', off' + i * 2 + 1, none⟩), fun w' hw' => ?_, ?_⟩
                    · unfold Oper.quietAt; go_simp
                    simp only [Act.put, List.setIfInBounds_toArray, List.set_cons_zero, List.set_cons_succ]
                    go_big_quiet_on
                    go_big_quiet_want
                    refine ⟨.slice xa t3.length xc, fun w' hw' => ?_, ?_⟩
                    · have hh0 := (Kp.of_below hw').cell _ _ he1; unfold Oper.quietAt; go_simp
                    simp only [Act.put, List.setIfInBounds_toArray, List.set_cons_zero, List.set_cons_succ]
                    go_big_quiet_on
                    go_big_quiet_want
                    refine ⟨.bool true, fun w' hw' => ?_, ?_⟩
                    · unfold Oper.quietAt; go_simp; exact (HC7.out w' hw').mono (fun e w2 ⟨he, hb⟩ => ⟨he, below_step hw' hb⟩)
                    simp only [Act.put, List.setIfInBounds_toArray, List.set_cons_zero, List.set_cons_succ]
                    go_big_quiet_on
                    (go_big_quiet_want; go_big_quiet_op; go_big_quiet_on)
                    refine wpQuiet_nil ?_
                    intro w8 hb8
                    have HB8 := hid (below_step HB7.out hb8)
                    clear hb8 he0 he1 HC7
                    go_wp2
                    go_roundw
                    case rel => exact ⟨j + 1, by omega, by go_num, by rw [NX.out], HB8.out⟩
                    case measure => simp [intOf]; omega
                  · have hb : (y == x) = false := by rw [beq_eq_false_iff_ne]; exact hyx
                    rw [hb, Bool.or_false] at NX
                    obtain ⟨B, hB⟩ : ∃ B, B = anyK BL x j := ⟨_, rfl⟩
                    rw [← hB] at NX ⊢
                    clear hm hit hbl hyx hB hd0 hd1
                    go_wp2_with fail
                    refine region_below (by kernel_rfl) (by kernel_rfl) ?_
                    (go_big_quiet_want; go_big_quiet_op; go_big_quiet_on)
                    (go_big_quiet_want; go_big_quiet_op; go_big_quiet_on)
                    go_big_quiet_want
                    refine ⟨.pointer (some ⟨g, off + j * 2, none⟩), fun w' hw' => ?_, ?_⟩
                    · unfold Oper.quietAt; go_simp
                    simp only [Act.put, List.setIfInBounds_toArray, List.set_cons_zero, List.set_cons_succ]
                    go_big_quiet_on
                    go_big_quiet_want
                    refine ⟨.pointer (some ⟨g, off + j * 2, none⟩), fun w' hw' => ?_, ?_⟩
                    · unfold Oper.quietAt; go_simp
                    simp only [Act.put, List.setIfInBounds_toArray, List.set_cons_zero, List.set_cons_succ]
                    go_big_quiet_on
                    go_big_quiet_want
                    refine ⟨.int .i64 y, fun w' hw' => ?_, ?_⟩
                    · have hh0 := (Kp.of_below hw').cell _ _ hc0; unfold Oper.quietAt; go_simp
                    simp only [Act.put, List.setIfInBounds_toArray, List.set_cons_zero, List.set_cons_succ]
                    go_big_quiet_on
                    (go_big_quiet_want; go_big_quiet_op; go_big_quiet_on)
                    (go_big_quiet_want; go_big_quiet_op; go_big_quiet_on)
                    go_big_quiet_want
                    refine ⟨.pointer (some ⟨g', off' + i * 2, none⟩), fun w' hw' => ?_, ?_⟩
                    · unfold Oper.quietAt; go_simp
                    simp only [Act.put, List.setIfInBounds_toArray, List.set_cons_zero, List.set_cons_succ]
                    go_big_quiet_on
                    go_big_quiet_want
                    refine ⟨.pointer (some ⟨g', off' + i * 2, none⟩), fun w' hw' => ?_, ?_⟩
                    · unfold Oper.quietAt; go_simp
                    simp only [Act.put, List.setIfInBounds_toArray, List.set_cons_zero, List.set_cons_succ]
                    go_big_quiet_on
                    go_big_quiet_want
                    refine ⟨.int .i64 x, fun w' hw' => ?_, ?_⟩
                    · have hh0 := (Kp.of_below hw').cell _ _ hd0'; unfold Oper.quietAt; go_simp
                    simp only [Act.put, List.setIfInBounds_toArray, List.set_cons_zero, List.set_cons_succ]
                    go_big_quiet_on
                    go_big_quiet_want
                    refine ⟨.bool false, fun w' hw' => ?_, ?_⟩
                    · unfold Oper.quietAt; go_simp
                    simp only [Act.put, List.setIfInBounds_toArray, List.set_cons_zero, List.set_cons_succ]
                    go_big_quiet_on
                    refine wpQuiet_nil ?_
                    intro w7 hb7
                    have HB7 := hid (below_step HB3.out hb7)
                    clear hb7 hc0 hc1 hd0' hd1'
                    go_wp2
                    go_roundw
                    case rel => exact ⟨j + 1, by omega, by go_num, by rw [NX.out], HB7.out⟩
                    case measure => simp [intOf]; omega
                · have hat : anyK BL x j = true := anyK_all (by omega) HXm.out
                  rw [hat]
                  clear hat hbl
                  go_wp2
                  go_roundw
                  case rel => exact ⟨i + 1, by omega, by go_num, below_step HB2.out HB3.out⟩
                  case measure => simp [intOf]; omega
            · have CS := hid (below_step CR.out (below_step C6.out hbl))
              have CS4 := hid (below_step C46.out hbl)
              have hpx2 := (Kp.of_below (below_step C6.out hbl)).cell _ _ hpx
              clear hpx
              by_cases h0 : c < 0
              · have HPl2 : Hid (hereN f p (k + 1) = H + tt.length) := by show _ = _; rw [HNx.out, HPl.out, if_pos h0]
                go_wp2_with fail
                refine (refEnd_any sv _ sig t H tt.length wr (HS.out.kp (Kp.of_below CS.out)) (HI.out.kp (Kp.of_below CS.out)) HAo.out (by omega) HI6.out).mono ?_
                rintro e w9 ⟨rfl, hw9⟩
                have hw8 := hw9.symm
                subst hw8
                clear hw9
                go_wp2
                go_roundw
                case rel => exact ⟨k + 1, by omega, by go_num, by rw [HPl2.out]; go_num, CS4.out⟩
                case measure => simp [intOf]; omega
              · have HPl2 : Hid (hereN f p (k + 1) = H + 1) := by show _ = _; rw [HNx.out, HPl.out, if_neg h0]
                have hwh : IntKind.i64.wrap ((H : Int) + 1) = ((H + 1 : Nat) : Int) := by rw [IntWalk.i64_in _ ⟨by omega, by omega⟩]; omega
                go_wp2
                go_roundw
                case rel => exact ⟨k + 1, by omega, by go_num, by rw [HPl2.out]; go_num, CS4.out⟩
                case measure => simp [intOf]; omega
      · have hkk : k = p.length := by omega
        go_wp2
        go_ret
        exact ⟨rfl, CR.out⟩

end Go.Proofs.YtcijfaijjpkdoaaDoor
