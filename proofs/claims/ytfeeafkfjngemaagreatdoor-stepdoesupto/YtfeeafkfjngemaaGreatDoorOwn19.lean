/- Texts of the proof, one behind the other. -/
import Derived.Test.YtfeeafkfjngemaaGreatDoorOwn11
import Derived.Test.YtfeeafkfjngemaaGreatDoorOwn14
import Derived.Test.YtfeeafkfjngemaaGreatDoorOwn15
import Derived.Test.YtfeeafkfjngemaaGreatDoorOwn18
import Derived.Test.YtfeeafkfjngemaaGreatDoorOwn12
/- slices.EqualFunc at rows of rows walked. -/
namespace Go.Proofs.YtfeeafkfjngemaaGreatDoor
open Go.RowKit Go.Maps

end Go.Proofs.YtfeeafkfjngemaaGreatDoor

/- Variant of package match walked. -/
namespace Go.Proofs.YtfeeafkfjngemaaGreatDoor
open Go.RowKit Go.Maps

theorem drawnN_below (w : World) (n : Nat) : Below w.heap.size w (w.drewN n) := drawn_below rfl

theorem canL_len (l : List (List Int)) : (canL l).length = l.length := canL_length l

theorem canL_small {p q : List Int} (h1 : p.length * 8 ≤ 140737488351232) (h2 : q.length * 8 ≤ 140737488351232) : ∀ t ∈ canL [p, q], t.length * 8 ≤ 140737488351232 := by
  refine lens_small (l := [p, q]) (canG_lens _ _) fun t ht => ?_
  simp only [List.mem_cons, List.not_mem_nil, or_false] at ht
  rcases ht with rfl | rfl
  · exact h1
  · exact h2

theorem rs_four {w : World} {v1 v2 v3 v4 : Value} {p q r s : List Int} (i1 : Is w v1 p) (i2 : Is w v2 q) (i3 : Is w v3 r) (i4 : Is w v4 s) (h1 : p.length * 8 ≤ 140737488351232) (h2 : q.length * 8 ≤ 140737488351232) (h3 : r.length * 8 ≤ 140737488351232) (h4 : s.length * 8 ≤ 140737488351232) : Rs (w.alloc (.cells #[v1, v2, v3, v4] 26)) (.slice (some ⟨w.heap.size, 0, none⟩) 4 4) [p, q, r, s] := by
  have hk := Kp.of_below (below_alloc (w := w) (.cells #[v1, v2, v3, v4] 26))
  refine ⟨_, 4, rfl, Nat.le_refl _, by simp [maxLen], fun _ => ⟨w.heap.size, 0, rfl, by simp, fun k x hx => ?_⟩⟩
  match k, hx with
  | 0, hx => simp at hx; subst hx; exact ⟨h1, v1, cell_new rfl, i1.kp hk⟩
  | 1, hx => simp at hx; subst hx; exact ⟨h2, v2, cell_new rfl, i2.kp hk⟩
  | 2, hx => simp at hx; subst hx; exact ⟨h3, v3, cell_new rfl, i3.kp hk⟩
  | 3, hx => simp at hx; subst hx; exact ⟨h4, v4, cell_new rfl, i4.kp hk⟩
  | k + 4, hx => simp at hx

end Go.Proofs.YtfeeafkfjngemaaGreatDoor

/- What the statements of layer 5 call of their own. -/
namespace Go.Proofs.YtfeeafkfjngemaaGreatDoor
open Go.RowKit Go.Maps Go.BigFrame

set_option maxHeartbeats 400000 in
theorem sameRowD_any (v u : Value) (xs ys : List Int) (w : World) (h : Is w v xs) (h' : Is w u ys) :
    Calls Tryz.prog 80 #[v, u] w fun e w' => e = .returned (.bool (decide (xs = ys))) ∧ ∃ n, w' = w.drewN n := by
  obtain ⟨ao, cap, rfl, hao, hca, hcl⟩ := h.flatI
  obtain ⟨bo, cap', rfl, hbo, hcb, hcl'⟩ := h'.flatI
  clear h h'
  by_cases hl : xs.length = ys.length
  · have hle : ((xs.length : Int) != ys.length) = false := by simp; omega
    go_enter Tryz.func80, Tryz.ntmps80
    go_wp2
    go_loopw [5] (fun i wr => ∃ k : Nat, k ≤ xs.length ∧ i = .int .i64 k ∧ xs.take k = ys.take k ∧ ∃ n, wr = w.drewN n) (fun i _ => xs.length - (intOf i).toNat)
    case atStart => exact ⟨0, Nat.zero_le _, rfl, rfl, 0, rfl⟩
    case round =>
      obtain ⟨k, hk, rfl, ht, n, rfl⟩ := hrel
      have HT : Hid (xs.take k = ys.take k) := ht
      clear ht
      by_cases hlt : k < xs.length
      · obtain ⟨g, off, x, rfl, hx1, hx3⟩ := hcl k hlt
        obtain ⟨g', off', y, rfl, hy1, hy3⟩ := hcl' k (by omega)
        have HX : Hid (xs[k]? = some x) := hx1
        have HY : Hid (ys[k]? = some y) := hy1
        have hlt' : k < ys.length := by omega
        clear hx1 hy1 hcl hcl'
        by_cases hxy : x = y
        · subst hxy
          have hxx : (x != x) = false := by simp
          go_wp2
          go_quiet (fail)
          go_wp2
          go_roundw
          case rel => exact ⟨k + 1, by omega, by go_num, by rw [take_get HX.out, take_get HY.out, HT.out], _, rfl⟩
          case measure => simp [intOf]; omega
        · have hne : (x != y) = true := by rw [bne_iff_ne]; exact hxy
          go_wp2
          go_quiet (fail)
          go_wp2
          go_ret
          exact ⟨ret1b (by rw [eq_comm, decide_eq_false_iff_not]; rintro rfl; have := HX.out.symm.trans HY.out; simp at this; exact hxy this), _, World.drewN_drewN _ _ _⟩
      · have hk' : k = xs.length := by omega
        go_wp2
        go_ret
        refine ⟨ret1b ?_, n, rfl⟩
        have := HT.out
        rw [List.take_of_length_le (by omega), List.take_of_length_le (by omega)] at this
        simp [this]
  · have hle : ((xs.length : Int) != ys.length) = true := by rw [bne_iff_ne]; omega
    go_enter Tryz.func80, Tryz.ntmps80
    go_wp2
    go_ret
    exact ⟨ret1b (by rw [eq_comm, decide_eq_false_iff_not]; rintro rfl; exact hl rfl), 0, rfl⟩

end Go.Proofs.YtfeeafkfjngemaaGreatDoor

/- The examples of layer 5 come out true. -/
namespace Go.Proofs.YtfeeafkfjngemaaGreatDoor
open Go.RowKit Go.Maps Go.BigFrame

theorem small_ints5 (xs : List Int) (h : (xs.all fun x => decide (-100 ≤ x ∧ x ≤ 100)) = true) : ∀ x ∈ xs, -9223372036854775808 ≤ x ∧ x ≤ 9223372036854775807 := fun x hx => by
  have := List.all_eq_true.1 h x hx
  simp at this
  omega

theorem sh5_p : termE sumS [2, -1, -2] = 0 := by kernel_rfl
theorem sh5_t : termE sumS [2, 1, 0, 0] = 0 := by kernel_rfl
theorem sh5_q : termE sumS [2, -1, -1] = 0 := by kernel_rfl
theorem sh5_u : termE sumS [2, 0, 1, 0] = 0 := by kernel_rfl
theorem sh5_a : (termsB sumS [[2, -1, -2], [-1], [2, -7, -3], [-7]] && decide (canL [[2, -1, -2], [-1]] = canL [[2, -7, -3], [-7]])) = true := by kernel_rfl
theorem sh5_b : (termsB sumS [[2, -1, -2], [-1], [2, -7, -3], [-3]] && decide (canL [[2, -1, -2], [-1]] = canL [[2, -7, -3], [-3]])) = false := by kernel_rfl

/-- The example's binds. -/
def shF (n : Int) : Option (List Int) := if n = 0 then some [1, 0] else if n = 1 then some [0] else none

theorem shF_rt : Rt sumS shF := fun n u hu => by
  unfold shF at hu
  split at hu
  · cases hu; kernel_rfl
  · split at hu
    · cases hu; kernel_rfl
    · cases hu

theorem shF_sm : Sm shF [2, -1, -2] [2, 1, 0, 0] := ⟨fun c hc h0 => by
  simp at hc
  rcases hc with rfl | rfl | rfl
  · omega
  · decide
  · decide, by decide⟩

theorem shF_vars : varsL [2, -1, -2] = [0, 1] := by kernel_rfl

theorem shF_sort : sortI [0, 1] = [0, 1] := by
  unfold sortI
  first
    | exact List.mergeSort_of_pairwise (by simp)
    | exact List.mergeSort_of_sorted (by simp)

theorem shF_binds : bindsL shF [2, -1, -2] = [(0, [1, 0]), (1, [0])] := by
  unfold bindsL
  rw [shF_vars, shF_sort]
  rfl

theorem sh_no (f : Int → Option (List Int)) (_hf : Rt sumS f) : ¬ Sm f [2, -1, -1] [2, 0, 1, 0] := fun h => by
  have h1 := h.2
  rw [laidL_cons, laidL_cons, laidL_cons] at h1
  have e1 : piece f 2 = [2] := by unfold piece; rw [if_neg (by omega)]
  have h2 := congrArg List.length h1
  rw [e1] at h2
  simp [laidL] at h2
  omega

set_option maxRecDepth 100000 in
theorem call_m1 (w : World) (sv : Value) (hs : Sg w sv sumS) (hT : Tabs w) : Calls Tryz.prog 31 #[sv, .slice (some ⟨w.heap.size, 0, none⟩) 3 3, .slice (some ⟨w.heap.size + 1, 0, none⟩) 4 4] ((w.alloc (Obj.cells #[Value.int IntKind.i64 2, Value.int IntKind.i64 (-1), Value.int IntKind.i64 (-2)] 3)).alloc (Obj.cells #[Value.int IntKind.i64 2, Value.int IntKind.i64 1, Value.int IntKind.i64 0, Value.int IntKind.i64 0] 3))
    fun e w' => ∃ v, e = .returned (.tuple #[v, .bool true]) ∧ Bs w' v [(0, [1, 0]), (1, [0])] ∧ Below w.heap.size w w' := by
  have hB : Below w.heap.size w ((w.alloc (Obj.cells #[Value.int IntKind.i64 2, Value.int IntKind.i64 (-1), Value.int IntKind.i64 (-2)] 3)).alloc (Obj.cells #[Value.int IntKind.i64 2, Value.int IntKind.i64 1, Value.int IntKind.i64 0, Value.int IntKind.i64 0] 3)) := (below_step (below_alloc _) (below_alloc _))
  obtain ⟨W, hW⟩ : ∃ W, W = ((w.alloc (Obj.cells #[Value.int IntKind.i64 2, Value.int IntKind.i64 (-1), Value.int IntKind.i64 (-2)] 3)).alloc (Obj.cells #[Value.int IntKind.i64 2, Value.int IntKind.i64 1, Value.int IntKind.i64 0, Value.int IntKind.i64 0] 3)) := ⟨_, rfl⟩
  have hsz : W.heap.size = w.heap.size + 2 := by rw [hW]; simp
  have i1 : Is W (.slice (some ⟨w.heap.size, 0, none⟩) 3 3) [2, -1, -2] := by
    refine is_lit (p := [2, -1, -2]) (by omega) (by decide) ⟨ei (by omega) (by omega) ?_, ei (by omega) (by omega) ?_, ei (by omega) (by omega) ?_, trivial⟩ <;> (rw [hW]; repeat (first | (refine cell_newg ?_ rfl; simp; done) | refine cell_old ?_))
  have i2 : Is W (.slice (some ⟨w.heap.size + 1, 0, none⟩) 4 4) [2, 1, 0, 0] := by
    refine is_lit (p := [2, 1, 0, 0]) (by omega) (by decide) ⟨ei (by omega) (by omega) ?_, ei (by omega) (by omega) ?_, ei (by omega) (by omega) ?_, ei (by omega) (by omega) ?_, trivial⟩ <;> (rw [hW]; repeat (first | (refine cell_newg ?_ rfl; simp; done) | refine cell_old ?_))
  rw [← hW] at hB ⊢
  refine (match_any sv _ _ sumS [2, -1, -2] [2, 1, 0, 0] W (hs.kp (Kp.of_below hB)) i1 i2 (hT.below hB) (by decide) (by decide)).mono ?_
  rintro e w' ⟨hb, ⟨rfl, h⟩ | ⟨v, f, rfl, _, _, hf, hsm, ho⟩⟩
  · exact absurd shF_sm (by
      rcases h with h | h | h
      · exact absurd sh5_p h
      · exact absurd sh5_t h
      · exact h shF shF_rt)
  · rw [binds_unique hf shF_rt hsm shF_sm, shF_binds] at ho
    exact ⟨v, rfl, ho.bs, below_step hB hb⟩

set_option maxRecDepth 100000 in
theorem call_m2 (w : World) (sv : Value) (hs : Sg w sv sumS) (hT : Tabs w) : Calls Tryz.prog 31 #[sv, .slice (some ⟨w.heap.size, 0, none⟩) 3 3, .slice (some ⟨w.heap.size + 1, 0, none⟩) 4 4] ((w.alloc (Obj.cells #[Value.int IntKind.i64 2, Value.int IntKind.i64 (-1), Value.int IntKind.i64 (-1)] 3)).alloc (Obj.cells #[Value.int IntKind.i64 2, Value.int IntKind.i64 0, Value.int IntKind.i64 1, Value.int IntKind.i64 0] 3))
    fun e w' => e = .returned (.tuple #[.slice none 0 0, .bool false]) ∧ Below w.heap.size w w' := by
  have hB : Below w.heap.size w ((w.alloc (Obj.cells #[Value.int IntKind.i64 2, Value.int IntKind.i64 (-1), Value.int IntKind.i64 (-1)] 3)).alloc (Obj.cells #[Value.int IntKind.i64 2, Value.int IntKind.i64 0, Value.int IntKind.i64 1, Value.int IntKind.i64 0] 3)) := (below_step (below_alloc _) (below_alloc _))
  obtain ⟨W, hW⟩ : ∃ W, W = ((w.alloc (Obj.cells #[Value.int IntKind.i64 2, Value.int IntKind.i64 (-1), Value.int IntKind.i64 (-1)] 3)).alloc (Obj.cells #[Value.int IntKind.i64 2, Value.int IntKind.i64 0, Value.int IntKind.i64 1, Value.int IntKind.i64 0] 3)) := ⟨_, rfl⟩
  have hsz : W.heap.size = w.heap.size + 2 := by rw [hW]; simp
  have i1 : Is W (.slice (some ⟨w.heap.size, 0, none⟩) 3 3) [2, -1, -1] := by
    refine is_lit (p := [2, -1, -1]) (by omega) (by decide) ⟨ei (by omega) (by omega) ?_, ei (by omega) (by omega) ?_, ei (by omega) (by omega) ?_, trivial⟩ <;> (rw [hW]; repeat (first | (refine cell_newg ?_ rfl; simp; done) | refine cell_old ?_))
  have i2 : Is W (.slice (some ⟨w.heap.size + 1, 0, none⟩) 4 4) [2, 0, 1, 0] := by
    refine is_lit (p := [2, 0, 1, 0]) (by omega) (by decide) ⟨ei (by omega) (by omega) ?_, ei (by omega) (by omega) ?_, ei (by omega) (by omega) ?_, ei (by omega) (by omega) ?_, trivial⟩ <;> (rw [hW]; repeat (first | (refine cell_newg ?_ rfl; simp; done) | refine cell_old ?_))
  rw [← hW] at hB ⊢
  refine (match_any sv _ _ sumS [2, -1, -1] [2, 0, 1, 0] W (hs.kp (Kp.of_below hB)) i1 i2 (hT.below hB) (by decide) (by decide)).mono ?_
  rintro e w' ⟨hb, ⟨rfl, _⟩ | ⟨v, f, rfl, _, _, hf, hsm, ho⟩⟩
  · exact ⟨rfl, below_step hB hb⟩
  · exact absurd hsm (sh_no f hf)

end Go.Proofs.YtfeeafkfjngemaaGreatDoor

/- The document's bound of layer 5. -/
namespace Go.Proofs.YtfeeafkfjngemaaGreatDoor
open Go.RowKit Go.Maps

set_option maxRecDepth 100000 in
set_option maxHeartbeats 800000 in
theorem refBound5_any (bv : Value) (s : List Bd) (n : Int) (w : World) (h : Bs w bv s) :
    Calls Tryz.prog 79 #[bv, .int .i64 n] w fun e w' => w' = w ∧ ((s.lookup n = none ∧ e = .returned (.int .i64 (-1))) ∨ ∃ (k : Nat) (t : List Int), s[k]? = some (n, t) ∧ s.lookup n = some t ∧ e = .returned (.int .i64 k)) := by
  obtain ⟨so, sc, rfl, hso, hsc, _⟩ := Row.flat h
  unfold maxLen at hsc
  have HI := hid h
  clear h
  go_enter Tryz.func79, Tryz.ntmps79
  go_wp2
  go_loopw [5] (fun i wr => ∃ k : Nat, k ≤ s.length ∧ i = .int .i64 k ∧ s.lookup n = (s.drop k).lookup n ∧ wr = w) (fun i _ => s.length - (intOf i).toNat)
  case atStart => exact ⟨0, Nat.zero_le _, rfl, rfl, rfl⟩
  case round =>
    obtain ⟨k, hk, rfl, hlk, hw⟩ := hrel
    have hw8 := hw.symm
    subst hw8
    have HL := hid hlk
    clear hlk hw
    by_cases hlt : k < s.length
    · obtain ⟨g, off, x, ba, t, bc, rfl, hm, hc0, hc1, hit, hx1, hx2, hx3⟩ := HI.out.at hlt
      have HM := hid hm
      have HL2 : Hid (s.lookup n = List.lookup n ((x, t) :: s.drop (k + 1))) := by show _ = _; rw [HL.out, drop_get hm]
      clear hm hit HL
      by_cases hxn : x = n
      · have hb : (x == n) = true := by rw [beq_iff_eq]; exact hxn
        have HE : Hid (s.lookup n = some t) := by show _ = _; rw [HL2.out, List.lookup_cons, show (n == x) = true by rw [beq_iff_eq]; exact hxn.symm]
        have HX := hid hxn
        clear hxn
        go_wp2
        go_ret
        exact ⟨rfl, .inr ⟨k, t, by rw [HM.out, HX.out], HE.out, rfl⟩⟩
      · have hb : (x == n) = false := by rw [beq_eq_false_iff_ne]; exact hxn
        have HE : Hid (s.lookup n = (s.drop (k + 1)).lookup n) := by show _ = _; rw [HL2.out, List.lookup_cons, show (n == x) = false by rw [beq_eq_false_iff_ne]; exact fun e => hxn e.symm]
        go_wp2
        go_roundw
        case rel => exact ⟨k + 1, by omega, by go_num, HE.out, trivial⟩
        case measure => simp [intOf]; omega
    · have HE : Hid (s.lookup n = none) := by show _ = _; rw [HL.out, List.drop_of_length_le (by omega)]; rfl
      go_wp2
      go_ret
      exact ⟨rfl, .inl ⟨HE.out, rfl⟩⟩

end Go.Proofs.YtfeeafkfjngemaaGreatDoor

/- Rows that rise, plainly. -/
namespace Go.Proofs.YtfeeafkfjngemaaGreatDoor
open Go.RowKit Go.Maps

theorem rise_eq : ∀ {a b : List Int}, a.Pairwise (· < ·) → b.Pairwise (· < ·) → (∀ x, x ∈ a ↔ x ∈ b) → a = b
  | [], [], _, _, _ => rfl
  | [], y :: b, _, _, h => absurd ((h y).2 (by simp)) (by simp)
  | x :: a, [], _, _, h => absurd ((h x).1 (by simp)) (by simp)
  | x :: a, y :: b, ha, hb, h => by
    rw [List.pairwise_cons] at ha hb
    have hxy : x = y := by
      rcases List.mem_cons.1 ((h x).1 (by simp)) with e | e
      · exact e
      · rcases List.mem_cons.1 ((h y).2 (by simp)) with e2 | e2
        · exact e2.symm
        · have := hb.1 x e
          have := ha.1 y e2
          omega
    subst hxy
    rw [rise_eq ha.2 hb.2 fun z => ?_]
    constructor
    · intro hz
      rcases List.mem_cons.1 ((h z).1 (by simp [hz])) with e | e
      · have := ha.1 z hz; omega
      · exact e
    · intro hz
      rcases List.mem_cons.1 ((h z).2 (by simp [hz])) with e | e
      · have := hb.1 z hz; omega
      · exact e

theorem sortI_rise {xs : List Int} (h : xs.Nodup) : (sortI xs).Pairwise (· < ·) := by
  have h1 : (sortI xs).Pairwise (fun a b => decide (a ≤ b) = true) := List.pairwise_mergeSort (fun a b c => by simp; omega) (fun a b => by simp; omega) xs
  have h2 : (sortI xs).Nodup := (List.mergeSort_perm xs _).symm.nodup h
  refine (h1.and h2).imp ?_
  rintro a b ⟨h3, h4⟩
  have h5 : a ≤ b := by simpa using h3
  have h6 : a ≠ b := h4
  omega

theorem vars_once (t : List Int) : (varsL t).Nodup := by
  unfold varsL
  refine List.Pairwise.map _ ?_ (met_once t [] (by simp))
  intro a b hab e
  omega

/-- The least of those that are later. -/
theorem sel_next {S : List Int} (h : S.Pairwise (· < ·)) {k : Nat} {s : Int} (hs : S[k]? = some s) : (∀ j y, j + 1 = k → S[j]? = some y → y < s) ∧ ∀ x ∈ S, (∀ j y, j + 1 = k → S[j]? = some y → y < x) → s ≤ x := by
  have hlt : ∀ (i j : Nat) (a b : Int), S[i]? = some a → S[j]? = some b → i < j → a < b := fun i j a b ha hb hij => by
    obtain ⟨h1, rfl⟩ := List.getElem?_eq_some_iff.1 ha
    obtain ⟨h2, rfl⟩ := List.getElem?_eq_some_iff.1 hb
    exact (List.pairwise_iff_getElem.1 h) i j h1 h2 hij
  refine ⟨fun j y hj hy => hlt j k y s hy hs (by omega), fun x hx hl => ?_⟩
  obtain ⟨m, hm⟩ := List.getElem?_of_mem hx
  rcases Nat.lt_trichotomy m k with h1 | h1 | h1
  · obtain ⟨j, rfl⟩ : ∃ j, k = j + 1 := ⟨k - 1, by omega⟩
    have hj : j < S.length := by have := (List.getElem?_eq_some_iff.1 hs).1; omega
    have h2 := hl j S[j] rfl (List.getElem?_eq_getElem hj)
    rcases Nat.lt_or_ge m j with h3 | h3
    · have := hlt m j x S[j] hm (List.getElem?_eq_getElem hj) h3
      omega
    · obtain rfl : m = j := by omega
      rw [List.getElem?_eq_getElem hj] at hm
      simp at hm
      omega
  · subst h1
    rw [hs] at hm
    simp at hm
    omega
  · exact Int.le_of_lt (hlt k m s x hs hm h1)

end Go.Proofs.YtfeeafkfjngemaaGreatDoor

/- A pattern and a term held against each other from the left, plainly. -/
namespace Go.Proofs.YtfeeafkfjngemaaGreatDoor
open Go.RowKit Go.Maps

/-- The pattern up to a place and the term up to a place, held against each other: what binds must do is to have those found, and to make the rest the rest. -/
structure Inn (sig : List Sy) (p t : List Int) (i q : Nat) (L : List Bd) : Prop where
  rows : ∃ us vs : List (List Int), us.length = vs.length ∧ (∀ u ∈ us, rowE sig u = 0) ∧ (∀ v ∈ vs, rowE sig v = 0) ∧ p.drop i = us.flatten ∧ t.drop q = vs.flatten
  right : ∀ b ∈ L, rowE sig b.2 = 0
  once : (L.map Prod.fst).Nodup
  vars : ∀ n, n ∈ L.map Prod.fst ↔ ∃ c ∈ p.take i, c < 0 ∧ n = -1 - c
  eqv : ∀ f, Rt sig f → (Sm f p t ↔ (∀ b ∈ L, f b.1 = some b.2) ∧ Sm f (p.drop i) (t.drop q))

theorem Inn.start {sig : List Sy} {p t : List Int} (hp : rowE sig p = 0) (ht : rowE sig t = 0) : Inn sig p t 0 0 [] :=
  ⟨⟨[p], [t], rfl, by simpa using hp, by simpa using ht, by simp, by simp⟩, by simp, by simp, by simp, fun f _ => by simp⟩

theorem Inn.more {sig : List Sy} {p t : List Int} {i q : Nat} {L : List Bd} (h : Inn sig p t i q L) (hi : i < p.length) : q < t.length := by
  obtain ⟨us, vs, h1, h2, h3, h4, h5⟩ := h.rows
  cases us with
  | nil =>
    have := congrArg List.length h4
    simp at this
    omega
  | cons u us =>
    cases vs with
    | nil => simp at h1
    | cons v vs =>
      have := congrArg List.length h5
      have h6 := row_ne (h3 v (by simp))
      simp at this
      omega

theorem kids_many {sig : List Sy} (ha : ArOk sig) {c : Int} {r : List Int} (h : rowE sig (c :: r) = 0) (hc : ¬ c < 0) :
    ∃ us : List (List Int), us.length = arN sig c ∧ r = us.flatten ∧ ∀ u ∈ us, rowE sig u = 0 := by
  have h1 := row_first.1 h
  rw [firstT_cons] at h1
  cases hd : codeD sig c with
  | none => rw [hd] at h1; simp at h1
  | some e =>
    rw [hd] at h1
    simp only at h1
    obtain ⟨k1, _⟩ := codeD_ar ha hd hc
    by_cases h0 : 1 + e = 0
    · rw [if_pos h0] at h1
      have hl : r.length = 0 := by
        have := congrArg Prod.fst h1
        simp at this
        omega
      exact ⟨[], by simp; omega, by rw [List.eq_nil_of_length_eq_zero hl]; rfl, fun u hu => by cases hu⟩
    · rw [if_neg h0, show (1 : Int) + e = (arN sig c : Int) by omega] at h1
      exact split_first ha _ r (0 + 1) (by omega) (by rw [h1]; simp only [List.length_cons, Prod.mk.injEq, and_true]; omega)

theorem sm_nil (f : Int → Option (List Int)) : Sm f [] [] := ⟨fun c hc => by simp at hc, rfl⟩

theorem Inn.sym {sig : List Sy} (ha : ArOk sig) {p t : List Int} {i q : Nat} {L : List Bd} (h : Inn sig p t i q L) {c d : Int} (hc : p[i]? = some c) (hd : t[q]? = some d) (h0 : ¬ c < 0) :
    (c ≠ d → ∀ f, Rt sig f → ¬ Sm f p t) ∧ (c = d → Inn sig p t (i + 1) (q + 1) L) := by
  refine ⟨fun hne f hf hs => ?_, fun hcd => ?_⟩
  · have h1 := ((h.eqv f hf).1 hs).2
    rw [drop_get hc, drop_get hd] at h1
    exact hne ((sm_head h0).1 h1).1
  · subst hcd
    obtain ⟨us, vs, h1, h2, h3, h4, h5⟩ := h.rows
    have e1 := drop_get hc
    have e2 := drop_get hd
    refine ⟨?_, h.right, h.once, fun n => ?_, fun f hf => ?_⟩
    · cases us with
      | nil => rw [e1] at h4; simp at h4
      | cons u us =>
        cases vs with
        | nil => rw [e2] at h5; simp at h5
        | cons v vs =>
          have hu := h2 u (by simp)
          have hv := h3 v (by simp)
          cases u with
          | nil => exact absurd (row_ne hu) (by simp)
          | cons c1 u =>
            cases v with
            | nil => exact absurd (row_ne hv) (by simp)
            | cons c2 v =>
              rw [e1, List.flatten_cons, List.cons_append, List.cons.injEq] at h4
              rw [e2, List.flatten_cons, List.cons_append, List.cons.injEq] at h5
              obtain ⟨rfl, h4⟩ := h4
              obtain ⟨rfl, h5⟩ := h5
              obtain ⟨xs, a1, a2, a3⟩ := kids_many ha hu h0
              obtain ⟨ys, b1, b2, b3⟩ := kids_many ha hv h0
              refine ⟨xs ++ us, ys ++ vs, ?_, ?_, ?_, ?_, ?_⟩
              · simp only [List.length_append, List.length_cons] at h1 ⊢
                omega
              · intro x hx
                rcases List.mem_append.1 hx with hx | hx
                · exact a3 x hx
                · exact h2 x (by simp [hx])
              · intro x hx
                rcases List.mem_append.1 hx with hx | hx
                · exact b3 x hx
                · exact h3 x (by simp [hx])
              · rw [h4, List.flatten_append, ← a2]
              · rw [h5, List.flatten_append, ← b2]
    · rw [h.vars n, take_get hc]
      constructor
      · rintro ⟨x, hx, h6, h7⟩
        exact ⟨x, by simp [hx], h6, h7⟩
      · rintro ⟨x, hx, h6, h7⟩
        rcases List.mem_append.1 hx with hx | hx
        · exact ⟨x, hx, h6, h7⟩
        · simp at hx
          subst hx
          exact absurd h6 h0
    · rw [h.eqv f hf, e1, e2, sm_head h0]
      simp

/-- A variable ahead of a row of terms. -/
theorem sm_first {sig : List Sy} {f : Int → Option (List Int)} (hf : Rt sig f) {c : Int} {r u s : List Int} (hc : c < 0) (hu : rowE sig u = 0) : Sm f (c :: r) (u ++ s) ↔ f (-1 - c) = some u ∧ Sm f r s := by
  constructor
  · intro h
    obtain ⟨x, hx⟩ := Option.ne_none_iff_exists'.1 (h.1 c (by simp) hc)
    have hp : piece f c = x := by unfold piece; rw [if_pos hc, hx]; rfl
    have h2 := h.2
    rw [laidL_cons, hp] at h2
    have k1 := first_right (hf _ _ hx) (laidL f r)
    rw [h2, first_right hu] at k1
    have k2 : u.length = x.length := by
      have := congrArg Prod.fst k1
      simp only at this
      omega
    obtain ⟨k3, k4⟩ := List.append_inj h2 k2.symm
    exact ⟨by rw [hx, k3], fun y hy h0 => h.1 y (by simp [hy]) h0, k4⟩
  · rintro ⟨h1, h2⟩
    have hp : piece f c = u := by unfold piece; rw [if_pos hc, h1]; rfl
    refine ⟨fun y hy h0 => ?_, by rw [laidL_cons, hp, h2.2]⟩
    rcases List.mem_cons.1 hy with rfl | hy
    · rw [h1]; simp
    · exact h2.1 y hy h0

theorem look_has {L : List Bd} (hn : (L.map Prod.fst).Nodup) : ∀ {b : Bd}, b ∈ L → L.lookup b.1 = some b.2 := by
  induction L with
  | nil => intro b hb; simp at hb
  | cons a L ih =>
    intro b hb
    rw [List.map_cons, List.nodup_cons] at hn
    rcases List.mem_cons.1 hb with rfl | hb
    · rw [List.lookup_cons]; simp
    · have : b.1 ≠ a.1 := fun e => hn.1 (by rw [← e]; exact List.mem_map.2 ⟨b, hb, rfl⟩)
      rw [List.lookup_cons, show (b.1 == a.1) = false by rw [beq_eq_false_iff_ne]; exact this]
      exact ih hn.2 hb

theorem look_not {L : List Bd} {n : Int} (h : L.lookup n = none) : n ∉ L.map Prod.fst := by
  intro hn
  obtain ⟨b, hb, rfl⟩ := List.mem_map.1 hn
  rw [List.lookup_eq_none_iff] at h
  have := h b hb
  simp at this

theorem Inn.var {sig : List Sy} (_ha : ArOk sig) {p t : List Int} {i q : Nat} {L : List Bd} (h : Inn sig p t i q L) {c : Int} (hc : p[i]? = some c) (h0 : c < 0) :
    ∃ u : List Int, firstT sig 1 0 (t.drop q) = ((u.length : Int), 0) ∧ q + u.length ≤ t.length ∧ (t.drop q).take u.length = u ∧ rowE sig u = 0 ∧
      (L.lookup (-1 - c) = none → Inn sig p t (i + 1) (q + u.length) (L ++ [(-1 - c, u)])) ∧ (L.lookup (-1 - c) = some u → Inn sig p t (i + 1) (q + u.length) L) ∧
      (∀ x, L.lookup (-1 - c) = some x → x ≠ u → ∀ f, Rt sig f → ¬ Sm f p t) := by
  obtain ⟨us, vs, h1, h2, h3, h4, h5⟩ := h.rows
  have e1 := drop_get hc
  cases us with
  | nil => rw [e1] at h4; simp at h4
  | cons z us =>
    cases vs with
    | nil => simp at h1
    | cons u vs =>
      have hu := h3 u (by simp)
      have hz := h2 z (by simp)
      cases z with
      | nil => exact absurd (row_ne hz) (by simp)
      | cons c1 z =>
        rw [e1, List.flatten_cons, List.cons_append, List.cons.injEq] at h4
        obtain ⟨rfl, h4⟩ := h4
        have hz0 : z = [] := by
          have h6 := row_first.1 hz
          rw [firstT_cons] at h6
          cases hd : codeD sig c with
          | none => rw [hd] at h6; simp at h6
          | some e =>
            have he : e = -1 := by
              unfold codeD at hd
              split at hd
              · cases hd
              · first
                | (rw [if_pos h0] at hd; cases hd; rfl)
                | (cases hd; rfl)
            subst he
            rw [hd] at h6
            simp at h6
            exact List.eq_nil_of_length_eq_zero (by omega)
        subst hz0
        rw [List.nil_append] at h4
        rw [List.flatten_cons] at h5
        have hdr : t.drop (q + u.length) = vs.flatten := by rw [← List.drop_drop, h5, List.drop_left]
        have hq : q + u.length ≤ t.length := by
          have := congrArg List.length h5
          have h9 := row_ne hu
          simp at this
          omega
        have hrows : ∃ us vs : List (List Int), us.length = vs.length ∧ (∀ u ∈ us, rowE sig u = 0) ∧ (∀ v ∈ vs, rowE sig v = 0) ∧ p.drop (i + 1) = us.flatten ∧ t.drop (q + u.length) = vs.flatten :=
          ⟨us, vs, by simpa using h1, fun x hx => h2 x (by simp [hx]), fun x hx => h3 x (by simp [hx]), h4, hdr⟩
        have heq : ∀ f, Rt sig f → (Sm f p t ↔ ((∀ b ∈ L, f b.1 = some b.2) ∧ f (-1 - c) = some u) ∧ Sm f (p.drop (i + 1)) (t.drop (q + u.length))) := fun f hf => by
          rw [h.eqv f hf, e1, h5, sm_first hf h0 hu, hdr, and_assoc]
        refine ⟨u, by rw [h5]; exact first_right hu _, hq, by rw [h5, List.take_left], hu, fun hl => ?_, fun hl => ?_, fun x hl hne f hf hs => ?_⟩
        · have hnot := look_not hl
          refine ⟨hrows, ?_, ?_, ?_, ?_⟩
          · intro b hb
            rcases List.mem_append.1 hb with hb | hb
            · exact h.right b hb
            · simp at hb
              subst hb
              exact hu
          · rw [List.map_append, List.nodup_append]
            refine ⟨h.once, by simp, ?_⟩
            intro a ha2 b hb e
            simp at hb
            subst hb
            subst e
            exact hnot ha2
          · intro n
            rw [List.map_append, List.mem_append, h.vars n, take_get hc]
            constructor
            · rintro (⟨y, hy, h6, h7⟩ | hn)
              · exact ⟨y, by simp [hy], h6, h7⟩
              · simp at hn
                exact ⟨c, by simp, h0, hn⟩
            · rintro ⟨y, hy, h6, h7⟩
              rcases List.mem_append.1 hy with hy | hy
              · exact .inl ⟨y, hy, h6, h7⟩
              · simp at hy
                subst hy
                exact .inr (by simp [h7])
          · intro f hf
            rw [heq f hf]
            constructor
            · rintro ⟨⟨h6, h7⟩, h8⟩
              refine ⟨fun b hb => ?_, h8⟩
              rcases List.mem_append.1 hb with hb | hb
              · exact h6 b hb
              · simp at hb
                subst hb
                exact h7
            · rintro ⟨h6, h8⟩
              exact ⟨⟨fun b hb => h6 b (by simp [hb]), h6 (-1 - c, u) (by simp)⟩, h8⟩
        · have hin := lookup_mem hl
          refine ⟨hrows, h.right, h.once, ?_, ?_⟩
          · intro n
            rw [h.vars n, take_get hc]
            constructor
            · rintro ⟨y, hy, h6, h7⟩
              exact ⟨y, by simp [hy], h6, h7⟩
            · rintro ⟨y, hy, h6, h7⟩
              rcases List.mem_append.1 hy with hy | hy
              · exact ⟨y, hy, h6, h7⟩
              · simp at hy
                subst hy
                exact (h.vars n).1 (by rw [h7]; exact List.mem_map.2 ⟨_, hin, rfl⟩)
          · intro f hf
            rw [heq f hf]
            constructor
            · rintro ⟨⟨h6, h7⟩, h8⟩
              exact ⟨h6, h8⟩
            · rintro ⟨h6, h8⟩
              exact ⟨⟨h6, h6 _ hin⟩, h8⟩
        · have h6 := ((heq f hf).1 hs).1
          have h7 := h6.1 _ (lookup_mem hl)
          have h8 := h6.2
          simp only at h7
          rw [h7] at h8
          exact hne (Option.some.inj h8)

theorem Inn.done {sig : List Sy} {p t : List Int} {i q : Nat} {L : List Bd} (h : Inn sig p t i q L) (hi : p.length ≤ i) : Rt sig (fun n => L.lookup n) ∧ Sm (fun n => L.lookup n) p t := by
  have hr : Rt sig (fun n => L.lookup n) := fun n u hu => h.right _ (lookup_mem hu)
  refine ⟨hr, (h.eqv _ hr).2 ⟨fun b hb => look_has h.once hb, ?_⟩⟩
  obtain ⟨us, vs, h1, h2, h3, h4, h5⟩ := h.rows
  have hp : p.drop i = [] := List.drop_of_length_le hi
  cases us with
  | nil =>
    cases vs with
    | nil => rw [hp, h5]; exact sm_nil _
    | cons v vs => simp at h1
  | cons u us =>
    have := congrArg List.length h4
    have h6 := row_ne (h2 u (by simp))
    rw [hp] at this
    simp at this
    omega

end Go.Proofs.YtfeeafkfjngemaaGreatDoor
