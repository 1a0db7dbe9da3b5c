/- Texts of the proof, one behind the other. -/
import Derived.Test.YtcijfaijjpkdoaaDoorOwn12
import Derived.Test.YtcijfaijjpkdoaaDoorOwn11
/- The examples of layer 5 come out true. -/
namespace Go.Proofs.YtcijfaijjpkdoaaDoor
open Go.RowKit Go.Maps Go.BigFrame

theorem small_ints5 (xs : List Int) (h : (xs.all fun x => decide (-100 ≤ x ∧ x ≤ 100)) = true) : ∀ x ∈ xs, -9223372036854775808 ≤ x ∧ x ≤ 9223372036854775807 := fun x hx => by
  have := List.all_eq_true.1 h x hx
  simp at this
  omega

theorem sh5_p : termE sumS [2, -1, -2] = 0 := by kernel_rfl
theorem sh5_t : termE sumS [2, 1, 0, 0] = 0 := by kernel_rfl
theorem sh5_q : termE sumS [2, -1, -1] = 0 := by kernel_rfl
theorem sh5_u : termE sumS [2, 0, 1, 0] = 0 := by kernel_rfl
theorem sh5_a : (termsB sumS [[2, -1, -2], [-1], [2, -7, -3], [-7]] && decide (canL [[2, -1, -2], [-1]] = canL [[2, -7, -3], [-7]])) = true := by kernel_rfl
theorem sh5_b : (termsB sumS [[2, -1, -2], [-1], [2, -7, -3], [-3]] && decide (canL [[2, -1, -2], [-1]] = canL [[2, -7, -3], [-3]])) = false := by kernel_rfl

/-- The example's binds. -/
def shF (n : Int) : Option (List Int) := if n = 0 then some [1, 0] else if n = 1 then some [0] else none

theorem shF_rt : Rt sumS shF := fun n u hu => by
  unfold shF at hu
  split at hu
  · cases hu; kernel_rfl
  · split at hu
    · cases hu; kernel_rfl
    · cases hu

theorem shF_sm : Sm shF [2, -1, -2] [2, 1, 0, 0] := ⟨fun c hc h0 => by
  simp at hc
  rcases hc with rfl | rfl | rfl
  · omega
  · decide
  · decide, by decide⟩

theorem shF_vars : varsL [2, -1, -2] = [0, 1] := by kernel_rfl

theorem shF_sort : sortI [0, 1] = [0, 1] := by
  unfold sortI
  first
    | exact List.mergeSort_of_pairwise (by simp)
    | exact List.mergeSort_of_sorted (by simp)

theorem shF_binds : bindsL shF [2, -1, -2] = [(0, [1, 0]), (1, [0])] := by
  unfold bindsL
  rw [shF_vars, shF_sort]
  rfl

theorem sh_no (f : Int → Option (List Int)) (_hf : Rt sumS f) : ¬ Sm f [2, -1, -1] [2, 0, 1, 0] := fun h => by
  have h1 := h.2
  rw [laidL_cons, laidL_cons, laidL_cons] at h1
  have e1 : piece f 2 = [2] := by unfold piece; rw [if_neg (by omega)]
  have h2 := congrArg List.length h1
  rw [e1] at h2
  simp [laidL] at h2
  omega

set_option maxRecDepth 100000 in
theorem call_m1 (w : World) (sv : Value) (hs : Sg w sv sumS) (hT : Tabs w) : Calls Tryd.prog 10 #[sv, .slice (some ⟨w.heap.size, 0, none⟩) 3 3, .slice (some ⟨w.heap.size + 1, 0, none⟩) 4 4] ((w.alloc (Obj.cells #[Value.int IntKind.i64 2, Value.int IntKind.i64 (-1), Value.int IntKind.i64 (-2)] 3)).alloc (Obj.cells #[Value.int IntKind.i64 2, Value.int IntKind.i64 1, Value.int IntKind.i64 0, Value.int IntKind.i64 0] 3))
    fun e w' => ∃ v, e = .returned (.tuple #[v, .bool true]) ∧ Bs w' v [(0, [1, 0]), (1, [0])] ∧ Below w.heap.size w w' := by
  have hB : Below w.heap.size w ((w.alloc (Obj.cells #[Value.int IntKind.i64 2, Value.int IntKind.i64 (-1), Value.int IntKind.i64 (-2)] 3)).alloc (Obj.cells #[Value.int IntKind.i64 2, Value.int IntKind.i64 1, Value.int IntKind.i64 0, Value.int IntKind.i64 0] 3)) := (below_step (below_alloc _) (below_alloc _))
  obtain ⟨W, hW⟩ : ∃ W, W = ((w.alloc (Obj.cells #[Value.int IntKind.i64 2, Value.int IntKind.i64 (-1), Value.int IntKind.i64 (-2)] 3)).alloc (Obj.cells #[Value.int IntKind.i64 2, Value.int IntKind.i64 1, Value.int IntKind.i64 0, Value.int IntKind.i64 0] 3)) := ⟨_, rfl⟩
  have hsz : W.heap.size = w.heap.size + 2 := by rw [hW]; simp
  have i1 : Is W (.slice (some ⟨w.heap.size, 0, none⟩) 3 3) [2, -1, -2] := by
    refine is_lit (p := [2, -1, -2]) (by omega) (by decide) ⟨ei (by omega) (by omega) ?_, ei (by omega) (by omega) ?_, ei (by omega) (by omega) ?_, trivial⟩ <;> (rw [hW]; repeat (first | (refine cell_newg ?_ rfl; simp; done) | refine cell_old ?_))
  have i2 : Is W (.slice (some ⟨w.heap.size + 1, 0, none⟩) 4 4) [2, 1, 0, 0] := by
    refine is_lit (p := [2, 1, 0, 0]) (by omega) (by decide) ⟨ei (by omega) (by omega) ?_, ei (by omega) (by omega) ?_, ei (by omega) (by omega) ?_, ei (by omega) (by omega) ?_, trivial⟩ <;> (rw [hW]; repeat (first | (refine cell_newg ?_ rfl; simp; done) | refine cell_old ?_))
  rw [← hW] at hB ⊢
  refine (match_any sv _ _ sumS [2, -1, -2] [2, 1, 0, 0] W (hs.kp (Kp.of_below hB)) i1 i2 (hT.below hB) (by decide) (by decide)).mono ?_
  rintro e w' ⟨hb, ⟨rfl, h⟩ | ⟨v, f, rfl, _, _, hf, hsm, ho⟩⟩
  · exact absurd shF_sm (by
      rcases h with h | h | h
      · exact absurd sh5_p h
      · exact absurd sh5_t h
      · exact h shF shF_rt)
  · rw [binds_unique hf shF_rt hsm shF_sm, shF_binds] at ho
    exact ⟨v, rfl, ho.bs, below_step hB hb⟩

set_option maxRecDepth 100000 in
theorem call_m2 (w : World) (sv : Value) (hs : Sg w sv sumS) (hT : Tabs w) : Calls Tryd.prog 10 #[sv, .slice (some ⟨w.heap.size, 0, none⟩) 3 3, .slice (some ⟨w.heap.size + 1, 0, none⟩) 4 4] ((w.alloc (Obj.cells #[Value.int IntKind.i64 2, Value.int IntKind.i64 (-1), Value.int IntKind.i64 (-1)] 3)).alloc (Obj.cells #[Value.int IntKind.i64 2, Value.int IntKind.i64 0, Value.int IntKind.i64 1, Value.int IntKind.i64 0] 3))
    fun e w' => e = .returned (.tuple #[.slice none 0 0, .bool false]) ∧ Below w.heap.size w w' := by
  have hB : Below w.heap.size w ((w.alloc (Obj.cells #[Value.int IntKind.i64 2, Value.int IntKind.i64 (-1), Value.int IntKind.i64 (-1)] 3)).alloc (Obj.cells #[Value.int IntKind.i64 2, Value.int IntKind.i64 0, Value.int IntKind.i64 1, Value.int IntKind.i64 0] 3)) := (below_step (below_alloc _) (below_alloc _))
  obtain ⟨W, hW⟩ : ∃ W, W = ((w.alloc (Obj.cells #[Value.int IntKind.i64 2, Value.int IntKind.i64 (-1), Value.int IntKind.i64 (-1)] 3)).alloc (Obj.cells #[Value.int IntKind.i64 2, Value.int IntKind.i64 0, Value.int IntKind.i64 1, Value.int IntKind.i64 0] 3)) := ⟨_, rfl⟩
  have hsz : W.heap.size = w.heap.size + 2 := by rw [hW]; simp
  have i1 : Is W (.slice (some ⟨w.heap.size, 0, none⟩) 3 3) [2, -1, -1] := by
    refine is_lit (p := [2, -1, -1]) (by omega) (by decide) ⟨ei (by omega) (by omega) ?_, ei (by omega) (by omega) ?_, ei (by omega) (by omega) ?_, trivial⟩ <;> (rw [hW]; repeat (first | (refine cell_newg ?_ rfl; simp; done) | refine cell_old ?_))
  have i2 : Is W (.slice (some ⟨w.heap.size + 1, 0, none⟩) 4 4) [2, 0, 1, 0] := by
    refine is_lit (p := [2, 0, 1, 0]) (by omega) (by decide) ⟨ei (by omega) (by omega) ?_, ei (by omega) (by omega) ?_, ei (by omega) (by omega) ?_, ei (by omega) (by omega) ?_, trivial⟩ <;> (rw [hW]; repeat (first | (refine cell_newg ?_ rfl; simp; done) | refine cell_old ?_))
  rw [← hW] at hB ⊢
  refine (match_any sv _ _ sumS [2, -1, -1] [2, 0, 1, 0] W (hs.kp (Kp.of_below hB)) i1 i2 (hT.below hB) (by decide) (by decide)).mono ?_
  rintro e w' ⟨hb, ⟨rfl, _⟩ | ⟨v, f, rfl, _, _, hf, hsm, ho⟩⟩
  · exact ⟨rfl, below_step hB hb⟩
  · exact absurd hsm (sh_no f hf)

set_option maxRecDepth 100000 in
theorem call_v1 (w : World) (sv : Value) (hs : Sg w sv sumS) (hT : Tabs w) : Calls Tryd.prog 14 #[sv, .agg #[.slice (some ⟨w.heap.size, 0, none⟩) 3 3, .slice (some ⟨w.heap.size + 1, 0, none⟩) 1 1], .agg #[.slice (some ⟨w.heap.size + 1 + 1, 0, none⟩) 3 3, .slice (some ⟨w.heap.size + 1 + 1 + 1, 0, none⟩) 1 1]] ((((w.alloc (Obj.cells #[Value.int IntKind.i64 2, Value.int IntKind.i64 (-1), Value.int IntKind.i64 (-2)] 3)).alloc (Obj.cells #[Value.int IntKind.i64 (-1)] 3)).alloc (Obj.cells #[Value.int IntKind.i64 2, Value.int IntKind.i64 (-7), Value.int IntKind.i64 (-3)] 3)).alloc (Obj.cells #[Value.int IntKind.i64 (-7)] 3))
    fun e w' => e = .returned (.bool true) ∧ Below w.heap.size w w' := by
  have hB : Below w.heap.size w ((((w.alloc (Obj.cells #[Value.int IntKind.i64 2, Value.int IntKind.i64 (-1), Value.int IntKind.i64 (-2)] 3)).alloc (Obj.cells #[Value.int IntKind.i64 (-1)] 3)).alloc (Obj.cells #[Value.int IntKind.i64 2, Value.int IntKind.i64 (-7), Value.int IntKind.i64 (-3)] 3)).alloc (Obj.cells #[Value.int IntKind.i64 (-7)] 3)) := (below_step (below_step (below_step (below_alloc _) (below_alloc _)) (below_alloc _)) (below_alloc _))
  obtain ⟨W, hW⟩ : ∃ W, W = ((((w.alloc (Obj.cells #[Value.int IntKind.i64 2, Value.int IntKind.i64 (-1), Value.int IntKind.i64 (-2)] 3)).alloc (Obj.cells #[Value.int IntKind.i64 (-1)] 3)).alloc (Obj.cells #[Value.int IntKind.i64 2, Value.int IntKind.i64 (-7), Value.int IntKind.i64 (-3)] 3)).alloc (Obj.cells #[Value.int IntKind.i64 (-7)] 3)) := ⟨_, rfl⟩
  have hsz : W.heap.size = w.heap.size + 4 := by rw [hW]; simp
  have i1 : Is W (.slice (some ⟨w.heap.size, 0, none⟩) 3 3) [2, -1, -2] := by
    refine is_lit (p := [2, -1, -2]) (by omega) (by decide) ⟨ei (by omega) (by omega) ?_, ei (by omega) (by omega) ?_, ei (by omega) (by omega) ?_, trivial⟩ <;> (rw [hW]; repeat (first | (refine cell_newg ?_ rfl; simp; done) | refine cell_old ?_))
  have i2 : Is W (.slice (some ⟨w.heap.size + 1, 0, none⟩) 1 1) [-1] := by
    refine is_lit (p := [-1]) (by omega) (by decide) ⟨ei (by omega) (by omega) ?_, trivial⟩ <;> (rw [hW]; repeat (first | (refine cell_newg ?_ rfl; simp; done) | refine cell_old ?_))
  have i3 : Is W (.slice (some ⟨w.heap.size + 1 + 1, 0, none⟩) 3 3) [2, -7, -3] := by
    refine is_lit (p := [2, -7, -3]) (by omega) (by decide) ⟨ei (by omega) (by omega) ?_, ei (by omega) (by omega) ?_, ei (by omega) (by omega) ?_, trivial⟩ <;> (rw [hW]; repeat (first | (refine cell_newg ?_ rfl; simp; done) | refine cell_old ?_))
  have i4 : Is W (.slice (some ⟨w.heap.size + 1 + 1 + 1, 0, none⟩) 1 1) [-7] := by
    refine is_lit (p := [-7]) (by omega) (by decide) ⟨ei (by omega) (by omega) ?_, trivial⟩ <;> (rw [hW]; repeat (first | (refine cell_newg ?_ rfl; simp; done) | refine cell_old ?_))
  rw [← hW] at hB ⊢
  refine (variant_any sv _ _ _ _ sumS [2, -1, -2] [-1] [2, -7, -3] [-7] W (hs.kp (Kp.of_below hB)) i1 i2 i3 i4 (hT.below hB) (by decide) (by decide) (by decide) (by decide)).mono ?_
  rintro e w' ⟨rfl, hb⟩
  rw [sh5_a]
  exact ⟨rfl, below_step hB hb⟩

set_option maxRecDepth 100000 in
theorem call_v2 (w : World) (sv : Value) (hs : Sg w sv sumS) (hT : Tabs w) : Calls Tryd.prog 14 #[sv, .agg #[.slice (some ⟨w.heap.size, 0, none⟩) 3 3, .slice (some ⟨w.heap.size + 1, 0, none⟩) 1 1], .agg #[.slice (some ⟨w.heap.size + 1 + 1, 0, none⟩) 3 3, .slice (some ⟨w.heap.size + 1 + 1 + 1, 0, none⟩) 1 1]] ((((w.alloc (Obj.cells #[Value.int IntKind.i64 2, Value.int IntKind.i64 (-1), Value.int IntKind.i64 (-2)] 3)).alloc (Obj.cells #[Value.int IntKind.i64 (-1)] 3)).alloc (Obj.cells #[Value.int IntKind.i64 2, Value.int IntKind.i64 (-7), Value.int IntKind.i64 (-3)] 3)).alloc (Obj.cells #[Value.int IntKind.i64 (-3)] 3))
    fun e w' => e = .returned (.bool false) ∧ Below w.heap.size w w' := by
  have hB : Below w.heap.size w ((((w.alloc (Obj.cells #[Value.int IntKind.i64 2, Value.int IntKind.i64 (-1), Value.int IntKind.i64 (-2)] 3)).alloc (Obj.cells #[Value.int IntKind.i64 (-1)] 3)).alloc (Obj.cells #[Value.int IntKind.i64 2, Value.int IntKind.i64 (-7), Value.int IntKind.i64 (-3)] 3)).alloc (Obj.cells #[Value.int IntKind.i64 (-3)] 3)) := (below_step (below_step (below_step (below_alloc _) (below_alloc _)) (below_alloc _)) (below_alloc _))
  obtain ⟨W, hW⟩ : ∃ W, W = ((((w.alloc (Obj.cells #[Value.int IntKind.i64 2, Value.int IntKind.i64 (-1), Value.int IntKind.i64 (-2)] 3)).alloc (Obj.cells #[Value.int IntKind.i64 (-1)] 3)).alloc (Obj.cells #[Value.int IntKind.i64 2, Value.int IntKind.i64 (-7), Value.int IntKind.i64 (-3)] 3)).alloc (Obj.cells #[Value.int IntKind.i64 (-3)] 3)) := ⟨_, rfl⟩
  have hsz : W.heap.size = w.heap.size + 4 := by rw [hW]; simp
  have i1 : Is W (.slice (some ⟨w.heap.size, 0, none⟩) 3 3) [2, -1, -2] := by
    refine is_lit (p := [2, -1, -2]) (by omega) (by decide) ⟨ei (by omega) (by omega) ?_, ei (by omega) (by omega) ?_, ei (by omega) (by omega) ?_, trivial⟩ <;> (rw [hW]; repeat (first | (refine cell_newg ?_ rfl; simp; done) | refine cell_old ?_))
  have i2 : Is W (.slice (some ⟨w.heap.size + 1, 0, none⟩) 1 1) [-1] := by
    refine is_lit (p := [-1]) (by omega) (by decide) ⟨ei (by omega) (by omega) ?_, trivial⟩ <;> (rw [hW]; repeat (first | (refine cell_newg ?_ rfl; simp; done) | refine cell_old ?_))
  have i3 : Is W (.slice (some ⟨w.heap.size + 1 + 1, 0, none⟩) 3 3) [2, -7, -3] := by
    refine is_lit (p := [2, -7, -3]) (by omega) (by decide) ⟨ei (by omega) (by omega) ?_, ei (by omega) (by omega) ?_, ei (by omega) (by omega) ?_, trivial⟩ <;> (rw [hW]; repeat (first | (refine cell_newg ?_ rfl; simp; done) | refine cell_old ?_))
  have i4 : Is W (.slice (some ⟨w.heap.size + 1 + 1 + 1, 0, none⟩) 1 1) [-3] := by
    refine is_lit (p := [-3]) (by omega) (by decide) ⟨ei (by omega) (by omega) ?_, trivial⟩ <;> (rw [hW]; repeat (first | (refine cell_newg ?_ rfl; simp; done) | refine cell_old ?_))
  rw [← hW] at hB ⊢
  refine (variant_any sv _ _ _ _ sumS [2, -1, -2] [-1] [2, -7, -3] [-3] W (hs.kp (Kp.of_below hB)) i1 i2 i3 i4 (hT.below hB) (by decide) (by decide) (by decide) (by decide)).mono ?_
  rintro e w' ⟨rfl, hb⟩
  rw [sh5_b]
  exact ⟨rfl, below_step hB hb⟩

set_option maxRecDepth 100000 in
theorem call_s5 (w : World) (v : Value) (h : Bs w v [(0, [1, 0]), (1, [0])]) : Calls Tryd.prog 12 #[v, .slice (some ⟨w.heap.size + 1 + 1, 0, none⟩) 2 2] (((w.alloc (Obj.cells #[Value.int IntKind.i64 1, Value.int IntKind.i64 0] 3)).alloc (Obj.cells #[Value.int IntKind.i64 0] 3)).alloc (Obj.cells #[Value.int IntKind.i64 0, .slice (some ⟨w.heap.size, 0, none⟩) 2 2, Value.int IntKind.i64 1, .slice (some ⟨w.heap.size + 1, 0, none⟩) 1 1] 30))
    fun e w' => e = .returned (.bool true) ∧ Below w.heap.size w w' := by
  have hB : Below w.heap.size w (((w.alloc (Obj.cells #[Value.int IntKind.i64 1, Value.int IntKind.i64 0] 3)).alloc (Obj.cells #[Value.int IntKind.i64 0] 3)).alloc (Obj.cells #[Value.int IntKind.i64 0, .slice (some ⟨w.heap.size, 0, none⟩) 2 2, Value.int IntKind.i64 1, .slice (some ⟨w.heap.size + 1, 0, none⟩) 1 1] 30)) := (below_step (below_step (below_alloc _) (below_alloc _)) (below_alloc _))
  obtain ⟨W, hW⟩ : ∃ W, W = (((w.alloc (Obj.cells #[Value.int IntKind.i64 1, Value.int IntKind.i64 0] 3)).alloc (Obj.cells #[Value.int IntKind.i64 0] 3)).alloc (Obj.cells #[Value.int IntKind.i64 0, .slice (some ⟨w.heap.size, 0, none⟩) 2 2, Value.int IntKind.i64 1, .slice (some ⟨w.heap.size + 1, 0, none⟩) 1 1] 30)) := ⟨_, rfl⟩
  have hsz : W.heap.size = w.heap.size + 3 := by rw [hW]; simp
  have i1 : Is W (.slice (some ⟨w.heap.size, 0, none⟩) 2 2) [1, 0] := by
    refine is_lit (p := [1, 0]) (by omega) (by decide) ⟨ei (by omega) (by omega) ?_, ei (by omega) (by omega) ?_, trivial⟩ <;> (rw [hW]; repeat (first | (refine cell_newg ?_ rfl; simp; done) | refine cell_old ?_))
  have i2 : Is W (.slice (some ⟨w.heap.size + 1, 0, none⟩) 1 1) [0] := by
    refine is_lit (p := [0]) (by omega) (by decide) ⟨ei (by omega) (by omega) ?_, trivial⟩ <;> (rw [hW]; repeat (first | (refine cell_newg ?_ rfl; simp; done) | refine cell_old ?_))
  have i3 : Bs W (.slice (some ⟨w.heap.size + 1 + 1, 0, none⟩) 2 2) [(0, [1, 0]), (1, [0])] := by
    refine bs_lit (p := [(0, [1, 0]), (1, [0])]) (by omega) (by decide) ⟨⟨by decide, by decide, by decide, ?_, _, ?_, i1⟩, ⟨by decide, by decide, by decide, ?_, _, ?_, i2⟩, trivial⟩ <;> (rw [hW]; repeat (first | (refine cell_newg ?_ rfl; simp; done) | refine cell_old ?_))
  rw [← hW] at hB ⊢
  refine (same5_any v _ _ W (h.kp (Kp.of_below hB)) i3).mono ?_
  rintro e w' ⟨rfl, hb⟩
  exact ⟨rfl, below_step hB hb⟩

set_option maxRecDepth 100000 in
set_option maxHeartbeats 2000000 in
theorem shown5_any (w : World) (hT : Tabs w) : Calls Tryd.prog 9 #[] w fun e w' => e = .returned (.bool true) ∧ Below w.heap.size w w' := by
  have HT := hid hT
  clear hT
  go_enter Tryd.func9, Tryd.ntmps9
  go_wp2_with fail
  refine (three5_any w).mono ?_
  rintro e w1 ⟨v1, rfl, hs1, hb1⟩
  obtain ⟨so, sc, rfl, _, hsc, _⟩ := Row.flat hs1
  have HS1 := hid hs1
  have HB1 := hid hb1
  clear hs1 hb1
  go_wp2_with fail
  refine (call_m1 w1 _ HS1.out (HT.out.below HB1.out)).mono ?_
  rintro e w2 ⟨va, rfl, ha, hb2⟩
  have HA := hid ha
  have C2 := hid hb2
  have HB2 := hid (below_step HB1.out hb2)
  clear ha hb2
  go_wp2_with fail
  refine (call_m2 w2 _ (HS1.out.kp (Kp.of_below C2.out)) (HT.out.below HB2.out)).mono ?_
  rintro e w3 ⟨rfl, hb3⟩
  have C3 := hid hb3
  have HB3 := hid (below_step HB2.out hb3)
  clear hb3
  go_wp2_with fail
  refine (call_s5 w3 _ (HA.out.kp (Kp.of_below C3.out))).mono ?_
  rintro e w4 ⟨rfl, hb4⟩
  have C4 := hid (below_step C3.out hb4)
  have HB4 := hid (below_step HB3.out hb4)
  clear hb4
  go_wp2_with fail
  refine (call_v1 w4 _ (HS1.out.kp (Kp.of_below (below_step C2.out C4.out))) (HT.out.below HB4.out)).mono ?_
  rintro e w5 ⟨rfl, hb5⟩
  have C5 := hid (below_step C4.out hb5)
  have HB5 := hid (below_step HB4.out hb5)
  clear hb5
  go_wp2_with fail
  refine (call_v2 w5 _ (HS1.out.kp (Kp.of_below (below_step C2.out C5.out))) (HT.out.below HB5.out)).mono ?_
  rintro e w6 ⟨rfl, hb6⟩
  have HB6 := hid (below_step HB5.out hb6)
  clear hb6
  go_wp2
  go_ret
  exact ⟨rfl, HB6.out⟩

end Go.Proofs.YtcijfaijjpkdoaaDoor

/- The document's bound of layer 5. -/
namespace Go.Proofs.YtcijfaijjpkdoaaDoor
open Go.RowKit Go.Maps

set_option maxRecDepth 100000 in
set_option maxHeartbeats 800000 in
theorem refBound5_any (bv : Value) (s : List Bd) (n : Int) (w : World) (h : Bs w bv s) :
    Calls Tryd.prog 61 #[bv, .int .i64 n] w fun e w' => w' = w ∧ ((s.lookup n = none ∧ e = .returned (.int .i64 (-1))) ∨ ∃ (k : Nat) (t : List Int), s[k]? = some (n, t) ∧ s.lookup n = some t ∧ e = .returned (.int .i64 k)) := by
  obtain ⟨so, sc, rfl, hso, hsc, _⟩ := Row.flat h
  unfold maxLen at hsc
  have HI := hid h
  clear h
  go_enter Tryd.func61, Tryd.ntmps61
  go_wp2
  go_loopw [5] (fun i wr => ∃ k : Nat, k ≤ s.length ∧ i = .int .i64 k ∧ s.lookup n = (s.drop k).lookup n ∧ wr = w) (fun i _ => s.length - (intOf i).toNat)
  case atStart => exact ⟨0, Nat.zero_le _, rfl, rfl, rfl⟩
  case round =>
    obtain ⟨k, hk, rfl, hlk, hw⟩ := hrel
    have hw8 := hw.symm
    subst hw8
    have HL := hid hlk
    clear hlk hw
    by_cases hlt : k < s.length
    · obtain ⟨g, off, x, ba, t, bc, rfl, hm, hc0, hc1, hit, hx1, hx2, hx3⟩ := HI.out.at hlt
      have HM := hid hm
      have HL2 : Hid (s.lookup n = List.lookup n ((x, t) :: s.drop (k + 1))) := by show _ = _; rw [HL.out, drop_get hm]
      clear hm hit HL
      by_cases hxn : x = n
      · have hb : (x == n) = true := by rw [beq_iff_eq]; exact hxn
        have HE : Hid (s.lookup n = some t) := by show _ = _; rw [HL2.out, List.lookup_cons, show (n == x) = true by rw [beq_iff_eq]; exact hxn.symm]
        have HX := hid hxn
        clear hxn
        go_wp2
        go_ret
        exact ⟨rfl, .inr ⟨k, t, by rw [HM.out, HX.out], HE.out, rfl⟩⟩
      · have hb : (x == n) = false := by rw [beq_eq_false_iff_ne]; exact hxn
        have HE : Hid (s.lookup n = (s.drop (k + 1)).lookup n) := by show _ = _; rw [HL2.out, List.lookup_cons, show (n == x) = false by rw [beq_eq_false_iff_ne]; exact fun e => hxn e.symm]
        go_wp2
        go_roundw
        case rel => exact ⟨k + 1, by omega, by go_num, HE.out, trivial⟩
        case measure => simp [intOf]; omega
    · have HE : Hid (s.lookup n = none) := by show _ = _; rw [HL.out, List.drop_of_length_le (by omega)]; rfl
      go_wp2
      go_ret
      exact ⟨rfl, .inl ⟨HE.out, rfl⟩⟩

end Go.Proofs.YtcijfaijjpkdoaaDoor

/- A pattern and a term held against each other from the left, plainly. -/
namespace Go.Proofs.YtcijfaijjpkdoaaDoor
open Go.RowKit Go.Maps

/-- The pattern up to a place and the term up to a place, held against each other: what binds must do is to have those found, and to make the rest the rest. -/
structure Inn (sig : List Sy) (p t : List Int) (i q : Nat) (L : List Bd) : Prop where
  rows : ∃ us vs : List (List Int), us.length = vs.length ∧ (∀ u ∈ us, rowE sig u = 0) ∧ (∀ v ∈ vs, rowE sig v = 0) ∧ p.drop i = us.flatten ∧ t.drop q = vs.flatten
  right : ∀ b ∈ L, rowE sig b.2 = 0
  once : (L.map Prod.fst).Nodup
  vars : ∀ n, n ∈ L.map Prod.fst ↔ ∃ c ∈ p.take i, c < 0 ∧ n = -1 - c
  eqv : ∀ f, Rt sig f → (Sm f p t ↔ (∀ b ∈ L, f b.1 = some b.2) ∧ Sm f (p.drop i) (t.drop q))

theorem Inn.start {sig : List Sy} {p t : List Int} (hp : rowE sig p = 0) (ht : rowE sig t = 0) : Inn sig p t 0 0 [] :=
  ⟨⟨[p], [t], rfl, by simpa using hp, by simpa using ht, by simp, by simp⟩, by simp, by simp, by simp, fun f _ => by simp⟩

theorem Inn.more {sig : List Sy} {p t : List Int} {i q : Nat} {L : List Bd} (h : Inn sig p t i q L) (hi : i < p.length) : q < t.length := by
  obtain ⟨us, vs, h1, h2, h3, h4, h5⟩ := h.rows
  cases us with
  | nil =>
    have := congrArg List.length h4
    simp at this
    omega
  | cons u us =>
    cases vs with
    | nil => simp at h1
    | cons v vs =>
      have := congrArg List.length h5
      have h6 := row_ne (h3 v (by simp))
      simp at this
      omega

theorem kids_many {sig : List Sy} (ha : ArOk sig) {c : Int} {r : List Int} (h : rowE sig (c :: r) = 0) (hc : ¬ c < 0) :
    ∃ us : List (List Int), us.length = arN sig c ∧ r = us.flatten ∧ ∀ u ∈ us, rowE sig u = 0 := by
  have h1 := row_first.1 h
  rw [firstT_cons] at h1
  cases hd : codeD sig c with
  | none => rw [hd] at h1; simp at h1
  | some e =>
    rw [hd] at h1
    simp only at h1
    obtain ⟨k1, _⟩ := codeD_ar ha hd hc
    by_cases h0 : 1 + e = 0
    · rw [if_pos h0] at h1
      have hl : r.length = 0 := by
        have := congrArg Prod.fst h1
        simp at this
        omega
      exact ⟨[], by simp; omega, by rw [List.eq_nil_of_length_eq_zero hl]; rfl, fun u hu => by cases hu⟩
    · rw [if_neg h0, show (1 : Int) + e = (arN sig c : Int) by omega] at h1
      exact split_first ha _ r (0 + 1) (by omega) (by rw [h1]; simp only [List.length_cons, Prod.mk.injEq, and_true]; omega)

theorem sm_nil (f : Int → Option (List Int)) : Sm f [] [] := ⟨fun c hc => by simp at hc, rfl⟩

theorem Inn.sym {sig : List Sy} (ha : ArOk sig) {p t : List Int} {i q : Nat} {L : List Bd} (h : Inn sig p t i q L) {c d : Int} (hc : p[i]? = some c) (hd : t[q]? = some d) (h0 : ¬ c < 0) :
    (c ≠ d → ∀ f, Rt sig f → ¬ Sm f p t) ∧ (c = d → Inn sig p t (i + 1) (q + 1) L) := by
  refine ⟨fun hne f hf hs => ?_, fun hcd => ?_⟩
  · have h1 := ((h.eqv f hf).1 hs).2
    rw [drop_get hc, drop_get hd] at h1
    exact hne ((sm_head h0).1 h1).1
  · subst hcd
    obtain ⟨us, vs, h1, h2, h3, h4, h5⟩ := h.rows
    have e1 := drop_get hc
    have e2 := drop_get hd
    refine ⟨?_, h.right, h.once, fun n => ?_, fun f hf => ?_⟩
    · cases us with
      | nil => rw [e1] at h4; simp at h4
      | cons u us =>
        cases vs with
        | nil => rw [e2] at h5; simp at h5
        | cons v vs =>
          have hu := h2 u (by simp)
          have hv := h3 v (by simp)
          cases u with
          | nil => exact absurd (row_ne hu) (by simp)
          | cons c1 u =>
            cases v with
            | nil => exact absurd (row_ne hv) (by simp)
            | cons c2 v =>
              rw [e1, List.flatten_cons, List.cons_append, List.cons.injEq] at h4
              rw [e2, List.flatten_cons, List.cons_append, List.cons.injEq] at h5
              obtain ⟨rfl, h4⟩ := h4
              obtain ⟨rfl, h5⟩ := h5
              obtain ⟨xs, a1, a2, a3⟩ := kids_many ha hu h0
              obtain ⟨ys, b1, b2, b3⟩ := kids_many ha hv h0
              refine ⟨xs ++ us, ys ++ vs, ?_, ?_, ?_, ?_, ?_⟩
              · simp only [List.length_append, List.length_cons] at h1 ⊢
                omega
              · intro x hx
                rcases List.mem_append.1 hx with hx | hx
                · exact a3 x hx
                · exact h2 x (by simp [hx])
              · intro x hx
                rcases List.mem_append.1 hx with hx | hx
                · exact b3 x hx
                · exact h3 x (by simp [hx])
              · rw [h4, List.flatten_append, ← a2]
              · rw [h5, List.flatten_append, ← b2]
    · rw [h.vars n, take_get hc]
      constructor
      · rintro ⟨x, hx, h6, h7⟩
        exact ⟨x, by simp [hx], h6, h7⟩
      · rintro ⟨x, hx, h6, h7⟩
        rcases List.mem_append.1 hx with hx | hx
        · exact ⟨x, hx, h6, h7⟩
        · simp at hx
          subst hx
          exact absurd h6 h0
    · rw [h.eqv f hf, e1, e2, sm_head h0]
      simp

/-- A variable ahead of a row of terms. -/
theorem sm_first {sig : List Sy} {f : Int → Option (List Int)} (hf : Rt sig f) {c : Int} {r u s : List Int} (hc : c < 0) (hu : rowE sig u = 0) : Sm f (c :: r) (u ++ s) ↔ f (-1 - c) = some u ∧ Sm f r s := by
  constructor
  · intro h
    obtain ⟨x, hx⟩ := Option.ne_none_iff_exists'.1 (h.1 c (by simp) hc)
    have hp : piece f c = x := by unfold piece; rw [if_pos hc, hx]; rfl
    have h2 := h.2
    rw [laidL_cons, hp] at h2
    have k1 := first_right (hf _ _ hx) (laidL f r)
    rw [h2, first_right hu] at k1
    have k2 : u.length = x.length := by
      have := congrArg Prod.fst k1
      simp only at this
      omega
    obtain ⟨k3, k4⟩ := List.append_inj h2 k2.symm
    exact ⟨by rw [hx, k3], fun y hy h0 => h.1 y (by simp [hy]) h0, k4⟩
  · rintro ⟨h1, h2⟩
    have hp : piece f c = u := by unfold piece; rw [if_pos hc, h1]; rfl
    refine ⟨fun y hy h0 => ?_, by rw [laidL_cons, hp, h2.2]⟩
    rcases List.mem_cons.1 hy with rfl | hy
    · rw [h1]; simp
    · exact h2.1 y hy h0

theorem look_has {L : List Bd} (hn : (L.map Prod.fst).Nodup) : ∀ {b : Bd}, b ∈ L → L.lookup b.1 = some b.2 := by
  induction L with
  | nil => intro b hb; simp at hb
  | cons a L ih =>
    intro b hb
    rw [List.map_cons, List.nodup_cons] at hn
    rcases List.mem_cons.1 hb with rfl | hb
    · rw [List.lookup_cons]; simp
    · have : b.1 ≠ a.1 := fun e => hn.1 (by rw [← e]; exact List.mem_map.2 ⟨b, hb, rfl⟩)
      rw [List.lookup_cons, show (b.1 == a.1) = false by rw [beq_eq_false_iff_ne]; exact this]
      exact ih hn.2 hb

theorem look_not {L : List Bd} {n : Int} (h : L.lookup n = none) : n ∉ L.map Prod.fst := by
  intro hn
  obtain ⟨b, hb, rfl⟩ := List.mem_map.1 hn
  rw [List.lookup_eq_none_iff] at h
  have := h b hb
  simp at this

theorem Inn.var {sig : List Sy} (_ha : ArOk sig) {p t : List Int} {i q : Nat} {L : List Bd} (h : Inn sig p t i q L) {c : Int} (hc : p[i]? = some c) (h0 : c < 0) :
    ∃ u : List Int, firstT sig 1 0 (t.drop q) = ((u.length : Int), 0) ∧ q + u.length ≤ t.length ∧ (t.drop q).take u.length = u ∧ rowE sig u = 0 ∧
      (L.lookup (-1 - c) = none → Inn sig p t (i + 1) (q + u.length) (L ++ [(-1 - c, u)])) ∧ (L.lookup (-1 - c) = some u → Inn sig p t (i + 1) (q + u.length) L) ∧
      (∀ x, L.lookup (-1 - c) = some x → x ≠ u → ∀ f, Rt sig f → ¬ Sm f p t) := by
  obtain ⟨us, vs, h1, h2, h3, h4, h5⟩ := h.rows
  have e1 := drop_get hc
  cases us with
  | nil => rw [e1] at h4; simp at h4
  | cons z us =>
    cases vs with
    | nil => simp at h1
    | cons u vs =>
      have hu := h3 u (by simp)
      have hz := h2 z (by simp)
      cases z with
      | nil => exact absurd (row_ne hz) (by simp)
      | cons c1 z =>
        rw [e1, List.flatten_cons, List.cons_append, List.cons.injEq] at h4
        obtain ⟨rfl, h4⟩ := h4
        have hz0 : z = [] := by
          have h6 := row_first.1 hz
          rw [firstT_cons] at h6
          cases hd : codeD sig c with
          | none => rw [hd] at h6; simp at h6
          | some e =>
            have he : e = -1 := by
              unfold codeD at hd
              split at hd
              · cases hd
              · first
                | (rw [if_pos h0] at hd; cases hd; rfl)
                | (cases hd; rfl)
            subst he
            rw [hd] at h6
            simp at h6
            exact List.eq_nil_of_length_eq_zero (by omega)
        subst hz0
        rw [List.nil_append] at h4
        rw [List.flatten_cons] at h5
        have hdr : t.drop (q + u.length) = vs.flatten := by rw [← List.drop_drop, h5, List.drop_left]
        have hq : q + u.length ≤ t.length := by
          have := congrArg List.length h5
          have h9 := row_ne hu
          simp at this
          omega
        have hrows : ∃ us vs : List (List Int), us.length = vs.length ∧ (∀ u ∈ us, rowE sig u = 0) ∧ (∀ v ∈ vs, rowE sig v = 0) ∧ p.drop (i + 1) = us.flatten ∧ t.drop (q + u.length) = vs.flatten :=
          ⟨us, vs, by simpa using h1, fun x hx => h2 x (by simp [hx]), fun x hx => h3 x (by simp [hx]), h4, hdr⟩
        have heq : ∀ f, Rt sig f → (Sm f p t ↔ ((∀ b ∈ L, f b.1 = some b.2) ∧ f (-1 - c) = some u) ∧ Sm f (p.drop (i + 1)) (t.drop (q + u.length))) := fun f hf => by
          rw [h.eqv f hf, e1, h5, sm_first hf h0 hu, hdr, and_assoc]
        refine ⟨u, by rw [h5]; exact first_right hu _, hq, by rw [h5, List.take_left], hu, fun hl => ?_, fun hl => ?_, fun x hl hne f hf hs => ?_⟩
        · have hnot := look_not hl
          refine ⟨hrows, ?_, ?_, ?_, ?_⟩
          · intro b hb
            rcases List.mem_append.1 hb with hb | hb
            · exact h.right b hb
            · simp at hb
              subst hb
              exact hu
          · rw [List.map_append, List.nodup_append]
            refine ⟨h.once, by simp, ?_⟩
            intro a ha2 b hb e
            simp at hb
            subst hb
            subst e
            exact hnot ha2
          · intro n
            rw [List.map_append, List.mem_append, h.vars n, take_get hc]
            constructor
            · rintro (⟨y, hy, h6, h7⟩ | hn)
              · exact ⟨y, by simp [hy], h6, h7⟩
              · simp at hn
                exact ⟨c, by simp, h0, hn⟩
            · rintro ⟨y, hy, h6, h7⟩
              rcases List.mem_append.1 hy with hy | hy
              · exact .inl ⟨y, hy, h6, h7⟩
              · simp at hy
                subst hy
                exact .inr (by simp [h7])
          · intro f hf
            rw [heq f hf]
            constructor
            · rintro ⟨⟨h6, h7⟩, h8⟩
              refine ⟨fun b hb => ?_, h8⟩
              rcases List.mem_append.1 hb with hb | hb
              · exact h6 b hb
              · simp at hb
                subst hb
                exact h7
            · rintro ⟨h6, h8⟩
              exact ⟨⟨fun b hb => h6 b (by simp [hb]), h6 (-1 - c, u) (by simp)⟩, h8⟩
        · have hin := lookup_mem hl
          refine ⟨hrows, h.right, h.once, ?_, ?_⟩
          · intro n
            rw [h.vars n, take_get hc]
            constructor
            · rintro ⟨y, hy, h6, h7⟩
              exact ⟨y, by simp [hy], h6, h7⟩
            · rintro ⟨y, hy, h6, h7⟩
              rcases List.mem_append.1 hy with hy | hy
              · exact ⟨y, hy, h6, h7⟩
              · simp at hy
                subst hy
                exact (h.vars n).1 (by rw [h7]; exact List.mem_map.2 ⟨_, hin, rfl⟩)
          · intro f hf
            rw [heq f hf]
            constructor
            · rintro ⟨⟨h6, h7⟩, h8⟩
              exact ⟨h6, h8⟩
            · rintro ⟨h6, h8⟩
              exact ⟨⟨h6, h6 _ hin⟩, h8⟩
        · have h6 := ((heq f hf).1 hs).1
          have h7 := h6.1 _ (lookup_mem hl)
          have h8 := h6.2
          simp only at h7
          rw [h7] at h8
          exact hne (Option.some.inj h8)

theorem Inn.done {sig : List Sy} {p t : List Int} {i q : Nat} {L : List Bd} (h : Inn sig p t i q L) (hi : p.length ≤ i) : Rt sig (fun n => L.lookup n) ∧ Sm (fun n => L.lookup n) p t := by
  have hr : Rt sig (fun n => L.lookup n) := fun n u hu => h.right _ (lookup_mem hu)
  refine ⟨hr, (h.eqv _ hr).2 ⟨fun b hb => look_has h.once hb, ?_⟩⟩
  obtain ⟨us, vs, h1, h2, h3, h4, h5⟩ := h.rows
  have hp : p.drop i = [] := List.drop_of_length_le hi
  cases us with
  | nil =>
    cases vs with
    | nil => rw [hp, h5]; exact sm_nil _
    | cons v vs => simp at h1
  | cons u us =>
    have := congrArg List.length h4
    have h6 := row_ne (h2 u (by simp))
    rw [hp] at this
    simp at this
    omega

end Go.Proofs.YtcijfaijjpkdoaaDoor
