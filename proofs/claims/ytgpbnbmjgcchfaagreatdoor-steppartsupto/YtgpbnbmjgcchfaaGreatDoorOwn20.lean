/- Texts of the proof, one behind the other. -/
import Derived.Test.YtgpbnbmjgcchfaaGreatDoorOwn19
import Derived.Test.YtgpbnbmjgcchfaaGreatDoorOwn18
import Derived.Test.YtgpbnbmjgcchfaaGreatDoorOwn4
import Derived.Test.YtgpbnbmjgcchfaaGreatDoorOwn3
import Derived.Test.YtgpbnbmjgcchfaaGreatDoorOwn16
/- The examples of layer 8: the system, and what comes out, plainly. -/
namespace Go.Proofs.YtgpbnbmjgcchfaaGreatDoor
open Go.RowKit Go.Maps Go.BigFrame

def sumR0 : Rl := ([2, 0, -1], [-1])
def sumR1 : Rl := ([2, 1, -1, -2], [1, 2, -1, -2])

theorem heap_newg8 {w : World} {o : Obj} {g : Nat} (h : g = w.heap.size) : (w.alloc o).heap[g]? = some o := by
  subst h
  exact heap_alloc_new _ _

/-- Two rules in a block. -/
theorem ru_lit8 {W : World} {g : Nat} {a0 a1 a2 a3 : Option Addr} {n0 n1 n2 n3 c0 c1 c2 c3 : Nat} {p q r s : List Int} (h0 : W.cell? ⟨g, 0, none⟩ = some (.slice a0 n0 c0)) (h1 : W.cell? ⟨g, 1, none⟩ = some (.slice a1 n1 c1)) (h2 : W.cell? ⟨g, 2, none⟩ = some (.slice a2 n2 c2)) (h3 : W.cell? ⟨g, 3, none⟩ = some (.slice a3 n3 c3))
    (i0 : Is W (.slice a0 n0 c0) p) (i1 : Is W (.slice a1 n1 c1) q) (i2 : Is W (.slice a2 n2 c2) r) (i3 : Is W (.slice a3 n3 c3) s) (l0 : p.length ≤ 99) (l1 : q.length ≤ 99) (l2 : r.length ≤ 99) (l3 : s.length ≤ 99) : RU W (.slice (some ⟨g, 0, none⟩) 2 2) [(p, q), (r, s)] := by
  refine ⟨some ⟨g, 0, none⟩, 2, rfl, Nat.le_refl _, by unfold maxLen; omega, fun _ => ⟨g, 0, rfl, World.block_lt_of_cell? _ _ h0, fun k x hk => ?_⟩⟩
  match k, hk with
  | 0, hk =>
    cases hk
    exact ⟨by simp only; omega, by simp only; omega, _, _, h0, h1, i0, i1⟩
  | 1, hk =>
    cases hk
    exact ⟨by simp only; omega, by simp only; omega, _, _, h2, h3, i2, i3⟩
  | k + 2, hk => simp at hk

theorem results_one8 {P : Program} {fn : Func} {w : World} {tmps : Array Value} {t : Tmp} {ty : TypeId} {ad : Addr} {v : Value} (h : fn.results = #[.cell t ty]) (ht : tmps.getD t undef = .pointer (some ad)) (hl : (loadVar ty ad).run P w = .ok v w) : (results fn tmps).run P w = .ok v w := by
  have ht2 : tmps[t]?.getD undef = .pointer (some ad) := by simpa using ht
  simp [results, h, ht2, hl, asAddr]

set_option maxRecDepth 100000 in
set_option maxHeartbeats 1600000 in
theorem sums_any (w : World) :
    Calls Tryz.prog 25 #[] w fun e w' => ∃ sv rv, e = .returned (.agg #[sv, rv]) ∧ Sg w' sv sumS ∧ RU w' rv [sumR0, sumR1] ∧ Below w.heap.size w w' := by
  go_enter Tryz.func25, Tryz.ntmps25
  go_wp2
  generalize hW : World.alloc _ _ = W
  have hsz : W.heap.size = w.heap.size + 7 := by rw [← hW]; simp
  have hb : Below w.heap.size w W := by
    rw [← hW]
    exact below_step (below_step (below_step (below_step (below_step (below_step (below_alloc _) (below_alloc _)) (below_alloc _)) (below_alloc _)) (below_alloc _)) (below_alloc _)) (below_alloc _)
  have k0 : W.cell? ⟨w.heap.size, 0, none⟩ = some (.slice (some ⟨w.heap.size + 1, 0, none⟩) 3 3) := by rw [← hW]; repeat (first | (refine cell_newg ?_ rfl; simp; done) | refine cell_old ?_)
  have k1 : W.cell? ⟨w.heap.size, 1, none⟩ = some (.slice (some ⟨w.heap.size + 6, 0, none⟩) 2 2) := by rw [← hW]; repeat (first | (refine cell_newg ?_ rfl; simp; done) | refine cell_old ?_)
  have hS : Sg W (.slice (some ⟨w.heap.size + 1, 0, none⟩) 3 3) sumS := by
    refine sg_lit (p := sumS) (by omega) (by decide) ⟨⟨by decide, by decide, by decide, ?_, ?_⟩, ⟨by decide, by decide, by decide, ?_, ?_⟩, ⟨by decide, by decide, by decide, ?_, ?_⟩, trivial⟩ <;> (rw [← hW]; repeat (first | (refine cell_newg ?_ rfl; simp; done) | refine cell_old ?_))
  have i0 : Is W (.slice (some ⟨w.heap.size + 2, 0, none⟩) 3 3) [2, 0, -1] := by
    refine is_lit (p := [2, 0, -1]) (by omega) (by decide) ⟨ei (by omega) (by omega) ?_, ei (by omega) (by omega) ?_, ei (by omega) (by omega) ?_, trivial⟩ <;> (rw [← hW]; repeat (first | (refine cell_newg ?_ rfl; simp; done) | refine cell_old ?_))
  have i1 : Is W (.slice (some ⟨w.heap.size + 3, 0, none⟩) 1 1) [-1] := by
    refine is_lit (p := [-1]) (by omega) (by decide) ⟨ei (by omega) (by omega) ?_, trivial⟩ <;> (rw [← hW]; repeat (first | (refine cell_newg ?_ rfl; simp; done) | refine cell_old ?_))
  have i2 : Is W (.slice (some ⟨w.heap.size + 4, 0, none⟩) 4 4) [2, 1, -1, -2] := by
    refine is_lit (p := [2, 1, -1, -2]) (by omega) (by decide) ⟨ei (by omega) (by omega) ?_, ei (by omega) (by omega) ?_, ei (by omega) (by omega) ?_, ei (by omega) (by omega) ?_, trivial⟩ <;> (rw [← hW]; repeat (first | (refine cell_newg ?_ rfl; simp; done) | refine cell_old ?_))
  have i3 : Is W (.slice (some ⟨w.heap.size + 5, 0, none⟩) 4 4) [1, 2, -1, -2] := by
    refine is_lit (p := [1, 2, -1, -2]) (by omega) (by decide) ⟨ei (by omega) (by omega) ?_, ei (by omega) (by omega) ?_, ei (by omega) (by omega) ?_, ei (by omega) (by omega) ?_, trivial⟩ <;> (rw [← hW]; repeat (first | (refine cell_newg ?_ rfl; simp; done) | refine cell_old ?_))
  have hR : W.heap[w.heap.size + 6]? = some (.cells #[.slice (some ⟨w.heap.size + 2, 0, none⟩) 3 3, .slice (some ⟨w.heap.size + 3, 0, none⟩) 1 1, .slice (some ⟨w.heap.size + 4, 0, none⟩) 4 4, .slice (some ⟨w.heap.size + 5, 0, none⟩) 4 4] 64) := by
    rw [← hW]
    exact heap_newg8 (by simp)
  have hRU : RU W (.slice (some ⟨w.heap.size + 6, 0, none⟩) 2 2) [sumR0, sumR1] := ru_lit8 (cell_of_row _ _ _ _ _ _ hR) (cell_of_row _ _ _ _ _ _ hR) (cell_of_row _ _ _ _ _ _ hR) (cell_of_row _ _ _ _ _ _ hR) i0 i1 i2 i3 (by decide) (by decide) (by decide) (by decide)
  clear hW
  refine bodyPost_ret (results_one8 rfl rfl ?_) rfl ⟨_, _, rfl, hS, hRU, hb⟩
  go_simp

theorem no_hit {sig : List Sy} {l t : List Int} (h : begB l t = false) : hitB sig l t = false := hitB_false fun h9 => by rw [hit_beg l t h9] at h; cases h

theorem hit0 : Hit sumS [2, 0, -1] [2, 0, 0] := by
  refine ⟨fun n => if n = 0 then some [0] else none, fun n u h => ?_, fun c hc h0 => ?_, by decide⟩
  · simp only at h
    split at h
    · cases h
      kernel_rfl
    · cases h
  · simp only [List.mem_cons, List.not_mem_nil, or_false] at hc
    rcases hc with rfl | rfl | rfl
    · omega
    · omega
    · decide

theorem rt1 : Rt sumS (fun n => if n = 0 ∨ n = 1 then some [0] else none) := fun n u h => by
  simp only at h
  split at h
  · cases h
    kernel_rfl
  · cases h

theorem sm1 : Sm (fun n => if n = 0 ∨ n = 1 then some [0] else none) [2, 1, -1, -2] [2, 1, 0, 0] := by
  refine ⟨fun c hc h0 => ?_, by decide⟩
  simp only [List.mem_cons, List.not_mem_nil, or_false] at hc
  rcases hc with rfl | rfl | rfl | rfl
  · omega
  · omega
  · decide
  · decide

theorem sh8_step1 : stepE sumS [sumR0, sumR1] [2, 2, 0, 0, 2, 0, 0] = 0 := by kernel_rfl
theorem sh8_step2 : stepE sumS [sumR0, sumR1] [2, 0, 2, 1, 0, 0] = 0 := by kernel_rfl
theorem sh8_step3 : stepE sumS [sumR0, sumR1] [1, 0] = 0 := by kernel_rfl
theorem sh8_step4 : stepE sumS [sumR0, sumR1] [2, 1, 0, 0] = 0 := by kernel_rfl

theorem red_none {part : List Int} {x k : Nat} (h0 : begB [2, 0, -1] part = false) (h1 : begB [2, 1, -1, -2] part = false) : redL sumS part x k [sumR0, sumR1] = [] := by
  unfold redL redL redL sumR0 sumR1
  simp only
  rw [no_hit h0, no_hit h1]
  rfl

theorem red_zero {x : Nat} : redL sumS [2, 0, 0] x 0 [sumR0, sumR1] = [((x : Int), 0)] := by
  unfold redL redL redL sumR0 sumR1
  simp only
  rw [hitB_true hit0, no_hit (show begB [2, 1, -1, -2] [2, 0, 0] = false by decide)]
  rfl

theorem sh8_all : allR sumS [sumR0, sumR1] [2, 2, 0, 0, 2, 0, 0] = [(1, 0), (4, 0)] := by
  unfold allR
  rw [if_pos sh8_step1]
  unfold allL
  have e0 : subL sumS [2, 2, 0, 0, 2, 0, 0] ((0 : Nat) : Int) = [2, 2, 0, 0, 2, 0, 0] := by kernel_rfl
  have e1 : subL sumS [2, 2, 0, 0, 2, 0, 0] ((1 : Nat) : Int) = [2, 0, 0] := by kernel_rfl
  have e2 : subL sumS [2, 2, 0, 0, 2, 0, 0] ((2 : Nat) : Int) = [0] := by kernel_rfl
  have e3 : subL sumS [2, 2, 0, 0, 2, 0, 0] ((3 : Nat) : Int) = [0] := by kernel_rfl
  have e4 : subL sumS [2, 2, 0, 0, 2, 0, 0] ((4 : Nat) : Int) = [2, 0, 0] := by kernel_rfl
  have e5 : subL sumS [2, 2, 0, 0, 2, 0, 0] ((5 : Nat) : Int) = [0] := by kernel_rfl
  have e6 : subL sumS [2, 2, 0, 0, 2, 0, 0] ((6 : Nat) : Int) = [0] := by kernel_rfl
  show ([0, 1, 2, 3, 4, 5, 6] : List Nat).flatMap (fun (x : Nat) => redL sumS (subL sumS [2, 2, 0, 0, 2, 0, 0] (x : Int)) x 0 [sumR0, sumR1]) = _
  simp only [List.flatMap_cons, List.flatMap_nil]
  rw [e0, e1, e2, e3, e4, e5, e6, red_zero, red_zero, red_none (by decide) (by decide), red_none (by decide) (by decide), red_none (by decide) (by decide), red_none (by decide) (by decide), red_none (by decide) (by decide)]
  rfl

theorem pv_leaf (a : Nat) : Pv sumS [0] a [(a, a + 1)] := Pv.mk (sig := sumS) 0 [] a [] (by decide) (by kernel_rfl) rfl (by kernel_rfl) (fun i u v h => by simp at h)

theorem pv_s (a : Nat) : Pv sumS [1, 0] a [(a + 1, a + 2), (a, a + 2)] := Pv.mk (sig := sumS) 1 [[0]] a [[(a + 1, a + 2)]] (by decide) (by kernel_rfl) rfl (by kernel_rfl) (fun i u v hu hv => by
  match i, hu, hv with
  | 0, hu, hv =>
    cases hu
    cases hv
    exact pv_leaf (a + 1)
  | i + 1, hu, _ => simp at hu)

theorem pv_p (a : Nat) : Pv sumS [2, 1, 0, 0] a [(a + 2, a + 3), (a + 1, a + 3), (a + 3, a + 4), (a, a + 4)] := Pv.mk (sig := sumS) 2 [[1, 0], [0]] a [[(a + 2, a + 3), (a + 1, a + 3)], [(a + 3, a + 4)]] (by decide) (by kernel_rfl) rfl (by kernel_rfl) (fun i u v hu hv => by
  match i, hu, hv with
  | 0, hu, hv =>
    cases hu
    cases hv
    exact pv_s (a + 1)
  | 1, hu, hv =>
    cases hu
    cases hv
    exact pv_leaf (a + 3)
  | i + 2, hu, _ => simp at hu)

theorem pv_t : Pv sumS [2, 0, 2, 1, 0, 0] 0 [(1, 2), (4, 5), (3, 5), (5, 6), (2, 6), (0, 6)] := Pv.mk (sig := sumS) 2 [[0], [2, 1, 0, 0]] 0 [[(1, 2)], [(4, 5), (3, 5), (5, 6), (2, 6)]] (by decide) (by kernel_rfl) rfl (by kernel_rfl) (fun i u v hu hv => by
  match i, hu, hv with
  | 0, hu, hv =>
    cases hu
    cases hv
    exact pv_leaf 1
  | 1, hu, hv =>
    cases hu
    cases hv
    exact pv_p 2
  | i + 2, hu, _ => simp at hu)

theorem idx_none {part : List Int} {k : Nat} (h0 : begB [2, 0, -1] part = false) (h1 : begB [2, 1, -1, -2] part = false) : idxL sumS part k [sumR0, sumR1] = -1 := by
  unfold idxL idxL idxL sumR0 sumR1
  simp only
  rw [no_hit h0, no_hit h1]
  rfl

theorem idx_one : idxL sumS [2, 1, 0, 0] 0 [sumR0, sumR1] = 1 := by
  unfold idxL idxL idxL sumR0 sumR1
  simp only
  rw [no_hit (show begB [2, 0, -1] [2, 1, 0, 0] = false by decide), hitB_true ⟨_, rt1, sm1⟩]
  rfl

theorem stop_none {t : List Int} {v : Nat × Nat} (h0 : begB [2, 0, -1] (partV t v) = false) (h1 : begB [2, 1, -1, -2] (partV t v) = false) : stopF sumS [sumR0, sumR1] t v = false := by
  unfold stopF
  rw [idx_none h0 h1]
  rfl

theorem part_p : partV [2, 0, 2, 1, 0, 0] (2, 6) = [2, 1, 0, 0] := by kernel_rfl

theorem stop_p : stopF sumS [sumR0, sumR1] [2, 0, 2, 1, 0, 0] (2, 6) = true := by
  unfold stopF
  rw [part_p, idx_one]
  rfl

theorem sh8_first : fstV sumS [sumR0, sumR1] [2, 0, 2, 1, 0, 0] (upto (stopF sumS [sumR0, sumR1] [2, 0, 2, 1, 0, 0]) [(1, 2), (4, 5), (3, 5), (5, 6), (2, 6), (0, 6)]) = (2, 1) ∧ ([(1, 2), (4, 5), (3, 5), (5, 6), (2, 6), (0, 6)] : List (Nat × Nat)).any (stopF sumS [sumR0, sumR1] [2, 0, 2, 1, 0, 0]) = true := by
  have n1 : stopF sumS [sumR0, sumR1] [2, 0, 2, 1, 0, 0] (1, 2) = false := stop_none (by decide) (by decide)
  have n2 : stopF sumS [sumR0, sumR1] [2, 0, 2, 1, 0, 0] (4, 5) = false := stop_none (by decide) (by decide)
  have n3 : stopF sumS [sumR0, sumR1] [2, 0, 2, 1, 0, 0] (3, 5) = false := stop_none (by decide) (by decide)
  have n4 : stopF sumS [sumR0, sumR1] [2, 0, 2, 1, 0, 0] (5, 6) = false := stop_none (by decide) (by decide)
  constructor
  · simp only [upto, n1, n2, n3, n4, stop_p]
    show fstV _ _ _ ([(1, 2), (4, 5), (3, 5), (5, 6)] ++ [(2, 6)]) = _
    rw [fstV_snoc, part_p, idx_one]
    rfl
  · simp only [List.any_cons, n1, n2, n3, n4, stop_p, Bool.false_or, Bool.true_or]

theorem sh8_second : ([(1, 2), (0, 2)] : List (Nat × Nat)).any (stopF sumS [sumR0, sumR1] [1, 0]) = false := by
  have n1 : stopF sumS [sumR0, sumR1] [1, 0] (1, 2) = false := stop_none (by decide) (by decide)
  have n2 : stopF sumS [sumR0, sumR1] [1, 0] (0, 2) = false := stop_none (by decide) (by decide)
  simp only [List.any_cons, n1, n2, List.any_nil, Bool.false_or]

theorem binds1 : bindsL (fun n => if n = 0 ∨ n = 1 then some [0] else none) [2, 1, -1, -2] = [(0, [0]), (1, [0])] := by
  unfold bindsL
  have h2 : varsL [2, 1, -1, -2] = [0, 1] := by kernel_rfl
  have h3 : sortI [0, 1] = [0, 1] := by
    unfold sortI
    exact List.mergeSort_of_pairwise (by simp)
  rw [h2, h3]
  decide

theorem sh8_do1 : doR sumS [sumR0, sumR1] [2, 1, 0, 0] 0 1 = ([1, 2, 0, 0], 0) := by
  unfold doR
  have hp : placeE sumS [2, 1, 0, 0] 0 = 0 := by kernel_rfl
  have hs : subL sumS [2, 1, 0, 0] 0 = [2, 1, 0, 0] := by kernel_rfl
  rw [if_pos sh8_step4, if_pos hp, if_neg (by decide)]
  show doK sumS [2, 1, 0, 0] 0 sumR1 = _
  unfold doK sumR1
  simp only
  rw [hs, hitB_true ⟨_, rt1, sm1⟩, if_pos rfl, hitBd_eq rt1 sm1, binds1]
  have ha : applyE sumS [(0, [0]), (1, [0])] [1, 2, -1, -2] = 0 := by kernel_rfl
  have hl : applyL sumS [(0, [0]), (1, [0])] [1, 2, -1, -2] = [1, 2, 0, 0] := by kernel_rfl
  rw [if_pos ha, hl]
  have h1 : replL sumS [2, 1, 0, 0] 0 [1, 2, 0, 0] = [1, 2, 0, 0] := by kernel_rfl
  have h2 : replE sumS [2, 1, 0, 0] 0 [1, 2, 0, 0] = 0 := by kernel_rfl
  rw [h1, h2]

theorem sh8_do2 : doR sumS [sumR0, sumR1] [2, 1, 0, 0] 0 0 = ([], 80) := by
  unfold doR
  have hp : placeE sumS [2, 1, 0, 0] 0 = 0 := by kernel_rfl
  have hs : subL sumS [2, 1, 0, 0] 0 = [2, 1, 0, 0] := by kernel_rfl
  rw [if_pos sh8_step4, if_pos hp, if_neg (by decide)]
  show doK sumS [2, 1, 0, 0] 0 sumR0 = _
  unfold doK sumR0
  simp only
  rw [hs, no_hit (by decide), if_neg (by simp)]

theorem sh8_do3 : doR sumS [sumR0, sumR1] [2, 1, 0, 0] 4 1 = ([], 33) := by
  unfold doR
  have hp : placeE sumS [2, 1, 0, 0] 4 = 33 := by kernel_rfl
  rw [if_pos sh8_step4, hp, if_neg (by decide)]

theorem sh8_do4 : doR sumS [sumR0, sumR1] [2, 1, 0, 0] 0 2 = ([], 1) := by
  unfold doR
  have hp : placeE sumS [2, 1, 0, 0] 0 = 0 := by kernel_rfl
  rw [if_pos sh8_step4, if_pos hp, if_neg (by decide)]
  rfl

end Go.Proofs.YtgpbnbmjgcchfaaGreatDoor

/- The examples of layer 8 come out true. -/
namespace Go.Proofs.YtgpbnbmjgcchfaaGreatDoor
open Go.RowKit Go.Maps Go.BigFrame

theorem xs_lit2 (w : World) (a b c d : Int) : Xs (w.alloc (.cells #[.int .i64 a, .int .i64 b, .int .i64 c, .int .i64 d] 32)) (.slice (some ⟨w.heap.size, 0, none⟩) 2 2) [(a, b), (c, d)] := by
  refine ⟨some ⟨w.heap.size, 0, none⟩, 2, rfl, Nat.le_refl _, by unfold maxLen; omega, fun _ => ⟨w.heap.size, 0, rfl, by simp, fun k x hk => ?_⟩⟩
  match k, hk with
  | 0, hk =>
    cases hk
    exact ⟨cell_new rfl, cell_new rfl⟩
  | 1, hk =>
    cases hk
    exact ⟨cell_new rfl, cell_new rfl⟩
  | k + 2, hk => simp at hk

set_option maxRecDepth 100000 in
set_option maxHeartbeats 6400000 in
theorem shown8_any (w : World) (hT : Tabs w) :
    Calls Tryz.prog 7 #[] w fun e w' => e = .returned (.bool true) ∧ Below w.heap.size w w' := by
  have HT := hid hT
  clear hT
  go_enter Tryz.func7, Tryz.ntmps7
  go_wp2_with fail
  refine (sums_any _).mono ?_
  rintro e w1 ⟨sv1, rv1, rfl, hs1, hr1, hb1⟩
  have C1 := hid (below_step (Below.refl _ _) hb1)
  have HS1 := hid hs1
  have HR1 := hid hr1
  have J1 := hid hb1
  clear hs1 hr1 hb1
  obtain ⟨w2, hw2⟩ : ∃ X, X = w1.alloc (.cells #[.int .i64 2, .int .i64 2, .int .i64 0, .int .i64 0, .int .i64 2, .int .i64 0, .int .i64 0] 3) := ⟨_, rfl⟩
  have b2 : Below w1.heap.size w1 w2 := by rw [hw2]; exact below_alloc _
  have HL2 : Hid (Is w2 (.slice (some ⟨w1.heap.size, 0, none⟩) 7 7) [2, 2, 0, 0, 2, 0, 0]) := by rw [hw2]; exact is_new w1 [2, 2, 0, 0, 2, 0, 0] 3 (by decide) (by decide)
  have B2 := hid b2
  have J2 := hid b2
  have C2 := hid (below_step C1.out b2)
  clear b2
  go_wp2_with fail
  rw [← hw2]
  clear hw2
  refine (all_any _ _ _ sumS [sumR0, sumR1] [2, 2, 0, 0, 2, 0, 0] w2 (HS1.out.kp (Kp.of_below B2.out)) (HR1.out.kp (Kp.of_below B2.out)) HL2.out (HT.out.below C2.out) (by decide)).mono ?_
  rintro e w3 ⟨va, rfl, oa, hb3⟩
  rw [sh8_all] at oa
  have C3 := hid (below_step C2.out hb3)
  have HXa := hid oa.xs
  have J3 := hid hb3
  clear oa hb3
  go_wp2_with fail
  refine (sums_any _).mono ?_
  rintro e w4 ⟨sv4, rv4, rfl, hs4, hr4, hb4⟩
  have C4 := hid (below_step C3.out hb4)
  have HS4 := hid hs4
  have HR4 := hid hr4
  have J4 := hid hb4
  clear hs4 hr4 hb4
  obtain ⟨w5, hw5⟩ : ∃ X, X = w4.alloc (.cells #[.int .i64 2, .int .i64 0, .int .i64 2, .int .i64 1, .int .i64 0, .int .i64 0] 3) := ⟨_, rfl⟩
  have b5 : Below w4.heap.size w4 w5 := by rw [hw5]; exact below_alloc _
  have HL5 : Hid (Is w5 (.slice (some ⟨w4.heap.size, 0, none⟩) 6 6) [2, 0, 2, 1, 0, 0]) := by rw [hw5]; exact is_new w4 [2, 0, 2, 1, 0, 0] 3 (by decide) (by decide)
  have B5 := hid b5
  have J5 := hid b5
  have C5 := hid (below_step C4.out b5)
  clear b5
  go_wp2_with fail
  rw [← hw5]
  clear hw5
  refine (first_any _ _ _ sumS [sumR0, sumR1] [2, 0, 2, 1, 0, 0] w5 (HS4.out.kp (Kp.of_below B5.out)) (HR4.out.kp (Kp.of_below B5.out)) HL5.out (HT.out.below C5.out) (by decide) sh8_step2 pv_t).mono ?_
  rintro e w6 ⟨rfl, hb6⟩
  rw [sh8_first.1, sh8_first.2]
  have C6 := hid (below_step C5.out hb6)
  have J6 := hid hb6
  clear hb6
  obtain ⟨w7, hw7⟩ : ∃ X, X = w6.alloc (.cells #[.int .i64 2, .int .i64 1] 32) := ⟨_, rfl⟩
  have b7 : Below w6.heap.size w6 w7 := by rw [hw7]; exact below_alloc _
  have C7 := hid (below_step C6.out b7)
  have HBx : Hid (w7.cell? ⟨w6.heap.size, 0, none⟩ = some (.int .i64 2) ∧ w7.cell? ⟨w6.heap.size, 1, none⟩ = some (.int .i64 1)) := by rw [hw7]; exact ⟨cell_new rfl, cell_new rfl⟩
  have J7 := hid b7
  clear b7
  go_wp2_with fail
  rw [← hw7]
  clear hw7
  refine (sums_any _).mono ?_
  rintro e w8 ⟨sv8, rv8, rfl, hs8, hr8, hb8⟩
  have C8 := hid (below_step C7.out hb8)
  have HS8 := hid hs8
  have HR8 := hid hr8
  have J8 := hid hb8
  clear hs8 hr8 hb8
  obtain ⟨w9, hw9⟩ : ∃ X, X = w8.alloc (.cells #[.int .i64 1, .int .i64 0] 3) := ⟨_, rfl⟩
  have b9 : Below w8.heap.size w8 w9 := by rw [hw9]; exact below_alloc _
  have HL9 : Hid (Is w9 (.slice (some ⟨w8.heap.size, 0, none⟩) 2 2) [1, 0]) := by rw [hw9]; exact is_new w8 [1, 0] 3 (by decide) (by decide)
  have B9 := hid b9
  have J9 := hid b9
  have C9 := hid (below_step C8.out b9)
  clear b9
  go_wp2_with fail
  rw [← hw9]
  clear hw9
  refine (first_any _ _ _ sumS [sumR0, sumR1] [1, 0] w9 (HS8.out.kp (Kp.of_below B9.out)) (HR8.out.kp (Kp.of_below B9.out)) HL9.out (HT.out.below C9.out) (by decide) sh8_step3 (vs := [(1, 2), (0, 2)]) (pv_s 0)).mono ?_
  rintro e w10 ⟨rfl, hb10⟩
  rw [sh8_second]
  have C10 := hid (below_step C9.out hb10)
  have J10 := hid hb10
  clear hb10
  generalize fstV sumS [sumR0, sumR1] [1, 0] (upto _ _) = r2
  obtain ⟨w11, hw11⟩ : ∃ X, X = w10.alloc (.cells #[.int .i64 r2.1, .int .i64 r2.2] 32) := ⟨_, rfl⟩
  have b11 : Below w10.heap.size w10 w11 := by rw [hw11]; exact below_alloc _
  have C11 := hid (below_step C10.out b11)
  have J11 := hid b11
  clear b11
  go_wp2_with fail
  rw [← hw11]
  clear hw11
  refine (sums_any _).mono ?_
  rintro e w12 ⟨sv12, rv12, rfl, hs12, hr12, hb12⟩
  have C12 := hid (below_step C11.out hb12)
  have HS12 := hid hs12
  have HR12 := hid hr12
  have J12 := hid hb12
  clear hs12 hr12 hb12
  obtain ⟨w13, hw13⟩ : ∃ X, X = w12.alloc (.cells #[.int .i64 2, .int .i64 1, .int .i64 0, .int .i64 0] 3) := ⟨_, rfl⟩
  have b13 : Below w12.heap.size w12 w13 := by rw [hw13]; exact below_alloc _
  have HL13 : Hid (Is w13 (.slice (some ⟨w12.heap.size, 0, none⟩) 4 4) [2, 1, 0, 0]) := by rw [hw13]; exact is_new w12 [2, 1, 0, 0] 3 (by decide) (by decide)
  have B13 := hid b13
  have J13 := hid b13
  have C13 := hid (below_step C12.out b13)
  clear b13
  go_wp2_with fail
  rw [← hw13]
  clear hw13
  refine (do_any _ _ _ sumS [sumR0, sumR1] [2, 1, 0, 0] 0 1 w13 (HS12.out.kp (Kp.of_below B13.out)) (HR12.out.kp (Kp.of_below B13.out)) HL13.out (HT.out.below C13.out) (by decide) (by decide) (by decide) (by decide) (by decide)).mono ?_
  rintro e w14 ⟨vd14, rfl, od14, hb14⟩
  rw [sh8_do1] at od14 ⊢
  have C14 := hid (below_step C13.out hb14)
  have HD14 := hid od14.is
  have J14 := hid hb14
  clear od14 hb14
  go_wp2_with fail
  refine (sums_any _).mono ?_
  rintro e w15 ⟨sv15, rv15, rfl, hs15, hr15, hb15⟩
  have C15 := hid (below_step C14.out hb15)
  have HS15 := hid hs15
  have HR15 := hid hr15
  have J15 := hid hb15
  clear hs15 hr15 hb15
  obtain ⟨w16, hw16⟩ : ∃ X, X = w15.alloc (.cells #[.int .i64 2, .int .i64 1, .int .i64 0, .int .i64 0] 3) := ⟨_, rfl⟩
  have b16 : Below w15.heap.size w15 w16 := by rw [hw16]; exact below_alloc _
  have HL16 : Hid (Is w16 (.slice (some ⟨w15.heap.size, 0, none⟩) 4 4) [2, 1, 0, 0]) := by rw [hw16]; exact is_new w15 [2, 1, 0, 0] 3 (by decide) (by decide)
  have B16 := hid b16
  have J16 := hid b16
  have C16 := hid (below_step C15.out b16)
  clear b16
  go_wp2_with fail
  rw [← hw16]
  clear hw16
  refine (do_any _ _ _ sumS [sumR0, sumR1] [2, 1, 0, 0] 0 0 w16 (HS15.out.kp (Kp.of_below B16.out)) (HR15.out.kp (Kp.of_below B16.out)) HL16.out (HT.out.below C16.out) (by decide) (by decide) (by decide) (by decide) (by decide)).mono ?_
  rintro e w17 ⟨vd17, rfl, od17, hb17⟩
  rw [sh8_do2] at od17 ⊢
  have C17 := hid (below_step C16.out hb17)
  have HD17 := hid od17.is
  have J17 := hid hb17
  clear od17 hb17
  go_wp2_with fail
  refine (sums_any _).mono ?_
  rintro e w18 ⟨sv18, rv18, rfl, hs18, hr18, hb18⟩
  have C18 := hid (below_step C17.out hb18)
  have HS18 := hid hs18
  have HR18 := hid hr18
  have J18 := hid hb18
  clear hs18 hr18 hb18
  obtain ⟨w19, hw19⟩ : ∃ X, X = w18.alloc (.cells #[.int .i64 2, .int .i64 1, .int .i64 0, .int .i64 0] 3) := ⟨_, rfl⟩
  have b19 : Below w18.heap.size w18 w19 := by rw [hw19]; exact below_alloc _
  have HL19 : Hid (Is w19 (.slice (some ⟨w18.heap.size, 0, none⟩) 4 4) [2, 1, 0, 0]) := by rw [hw19]; exact is_new w18 [2, 1, 0, 0] 3 (by decide) (by decide)
  have B19 := hid b19
  have J19 := hid b19
  have C19 := hid (below_step C18.out b19)
  clear b19
  go_wp2_with fail
  rw [← hw19]
  clear hw19
  refine (do_any _ _ _ sumS [sumR0, sumR1] [2, 1, 0, 0] 4 1 w19 (HS18.out.kp (Kp.of_below B19.out)) (HR18.out.kp (Kp.of_below B19.out)) HL19.out (HT.out.below C19.out) (by decide) (by decide) (by decide) (by decide) (by decide)).mono ?_
  rintro e w20 ⟨vd20, rfl, od20, hb20⟩
  rw [sh8_do3] at od20 ⊢
  have C20 := hid (below_step C19.out hb20)
  have HD20 := hid od20.is
  have J20 := hid hb20
  clear od20 hb20
  go_wp2_with fail
  refine (sums_any _).mono ?_
  rintro e w21 ⟨sv21, rv21, rfl, hs21, hr21, hb21⟩
  have C21 := hid (below_step C20.out hb21)
  have HS21 := hid hs21
  have HR21 := hid hr21
  have J21 := hid hb21
  clear hs21 hr21 hb21
  obtain ⟨w22, hw22⟩ : ∃ X, X = w21.alloc (.cells #[.int .i64 2, .int .i64 1, .int .i64 0, .int .i64 0] 3) := ⟨_, rfl⟩
  have b22 : Below w21.heap.size w21 w22 := by rw [hw22]; exact below_alloc _
  have HL22 : Hid (Is w22 (.slice (some ⟨w21.heap.size, 0, none⟩) 4 4) [2, 1, 0, 0]) := by rw [hw22]; exact is_new w21 [2, 1, 0, 0] 3 (by decide) (by decide)
  have B22 := hid b22
  have J22 := hid b22
  have C22 := hid (below_step C21.out b22)
  clear b22
  go_wp2_with fail
  rw [← hw22]
  clear hw22
  refine (do_any _ _ _ sumS [sumR0, sumR1] [2, 1, 0, 0] 0 2 w22 (HS21.out.kp (Kp.of_below B22.out)) (HR21.out.kp (Kp.of_below B22.out)) HL22.out (HT.out.below C22.out) (by decide) (by decide) (by decide) (by decide) (by decide)).mono ?_
  rintro e w23 ⟨vd23, rfl, od23, hb23⟩
  rw [sh8_do4] at od23 ⊢
  have C23 := hid (below_step C22.out hb23)
  have HD23 := hid od23.is
  have J23 := hid hb23
  clear od23 hb23
  obtain ⟨w24, hw24⟩ : ∃ X, X = w23.alloc (.cells #[.int .i64 1, .int .i64 0, .int .i64 4, .int .i64 0] 32) := ⟨_, rfl⟩
  have b24 : Below w23.heap.size w23 w24 := by rw [hw24]; exact below_alloc _
  have HXl : Hid (Xs w24 (.slice (some ⟨w23.heap.size, 0, none⟩) 2 2) [(1, 0), (4, 0)]) := by rw [hw24]; exact xs_lit2 _ _ _ _ _
  have J24 := hid b24
  clear b24
  have HXa2 := hid (HXa.out.kp (Kp.of_below (below_step (below_step (below_step (below_step (below_step (below_step (below_step (below_step (below_step (below_step (below_step (below_step (below_step (below_step (below_step (below_step (below_step (below_step (below_step (below_step J4.out J5.out) J6.out) J7.out) J8.out) J9.out) J10.out) J11.out) J12.out) J13.out) J14.out) J15.out) J16.out) J17.out) J18.out) J19.out) J20.out) J21.out) J22.out) J23.out) J24.out)))
  go_wp2_with fail
  rw [← hw24]
  clear hw24
  refine (sameX8_any _ _ _ _ w24 HXa2.out HXl.out).mono ?_
  rintro e w25 ⟨rfl, n25, hw25⟩
  have J25 := hid (drawn_below hw25)
  clear hw25
  rw [decide_eq_true rfl]
  obtain ⟨z0, z1⟩ := HBx.out
  have y0 := (Kp.of_below (below_step (below_step (below_step (below_step (below_step (below_step (below_step (below_step (below_step (below_step (below_step (below_step (below_step (below_step (below_step (below_step (below_step J8.out J9.out) J10.out) J11.out) J12.out) J13.out) J14.out) J15.out) J16.out) J17.out) J18.out) J19.out) J20.out) J21.out) J22.out) J23.out) J24.out) J25.out)).cell _ _ z0
  have y1 := (Kp.of_below (below_step (below_step (below_step (below_step (below_step (below_step (below_step (below_step (below_step (below_step (below_step (below_step (below_step (below_step (below_step (below_step (below_step J8.out J9.out) J10.out) J11.out) J12.out) J13.out) J14.out) J15.out) J16.out) J17.out) J18.out) J19.out) J20.out) J21.out) J22.out) J23.out) J24.out) J25.out)).cell _ _ z1
  clear z0 z1
  obtain ⟨w26, hw26⟩ : ∃ X, X = w25.alloc (.cells #[.int .i64 1, .int .i64 2, .int .i64 0, .int .i64 0] 3) := ⟨_, rfl⟩
  have b26 : Below w25.heap.size w25 w26 := by rw [hw26]; exact below_alloc _
  have HLq : Hid (Is w26 (.slice (some ⟨w25.heap.size, 0, none⟩) 4 4) [1, 2, 0, 0]) := by rw [hw26]; exact is_new w25 [1, 2, 0, 0] 3 (by decide) (by decide)
  have J26 := hid b26
  clear b26
  have HDt := hid (HD14.out.kp (Kp.of_below (below_step (below_step (below_step (below_step (below_step (below_step (below_step (below_step (below_step (below_step (below_step J15.out J16.out) J17.out) J18.out) J19.out) J20.out) J21.out) J22.out) J23.out) J24.out) J25.out) J26.out)))
  go_wp2_with fail
  rw [← hw26]
  clear hw26
  refine (sameRow8_any _ _ _ _ w26 HDt.out HLq.out).mono ?_
  rintro e w27 ⟨rfl, n27, hw27⟩
  have J27 := hid (drawn_below hw27)
  clear hw27
  rw [decide_eq_true rfl]
  have Cf := hid (below_step C23.out (below_step (below_step (below_step J24.out J25.out) J26.out) J27.out))
  clear y0 y1
  go_wp2
  go_ret
  exact ⟨rfl, Cf.out⟩

end Go.Proofs.YtgpbnbmjgcchfaaGreatDoor

/- What the document's Laid answers with another bound. -/
namespace Go.Proofs.YtgpbnbmjgcchfaaGreatDoor
open Go.RowKit Go.Maps Go.BigFrame

/-- Laid, as far as a bound. -/
def layM (m : Nat) (f : Int → Option (List Int)) : List Int → List Int → Option (List Int)
  | a, [] => some a
  | a, c :: r => if m < a.length + (piece f c).length then none else layM m f (a ++ piece f c) r

theorem layM_eq (m : Nat) (f : Int → Option (List Int)) : ∀ (t a : List Int), a.length ≤ m → layM m f a t = if m < (a ++ laidL f t).length then none else some (a ++ laidL f t)
  | [], a, ha => by
    have : laidL f [] = [] := rfl
    rw [this, List.append_nil, if_neg (by omega)]
    rfl
  | c :: t, a, ha => by
    have e : laidL f (c :: t) = piece f c ++ laidL f t := by
      unfold laidL
      rw [List.flatMap_cons]
    rw [layM, e]
    by_cases h : m < a.length + (piece f c).length
    · rw [if_pos h, if_pos (by simp; omega)]
    · rw [if_neg h, layM_eq m f t (a ++ piece f c) (by simp; omega), List.append_assoc]

end Go.Proofs.YtgpbnbmjgcchfaaGreatDoor

/- The document's Do of layer 8 walked. -/
namespace Go.Proofs.YtgpbnbmjgcchfaaGreatDoor
open Go.RowKit Go.Maps Go.BigFrame

theorem binds_look8 (f : Int → Option (List Int)) (l : List Int) (n : Int) : (bindsL f l).lookup n = bnd (bindsL f l) n := by
  unfold bnd
  refine look_rise ?_ n
  unfold bindsL
  exact List.Pairwise.map _ (fun a b h => h) (sortI_rise (vars_once l))

/-- The rest of a row, as a slice. -/
theorem is_tail {w : World} {g o y c : Nat} {t : List Int} (h : Is w (.slice (some ⟨g, o, none⟩) t.length c) t) (hy : y ≤ t.length) (hc : t.length ≤ c) : Is w (.slice (if c = y then some ⟨g, o, none⟩ else some ⟨g, o + y, none⟩) (t.length - y) (c - y)) (t.drop y) := by
  by_cases h1 : y < t.length
  · rw [if_neg (by omega)]
    have h9 := h.mid (k := y) (m := t.length - y) h1 (by omega)
    rw [List.take_of_length_le (by rw [List.length_drop]; exact Nat.le_refl _)] at h9
    exact h9
  · have e : t.drop y = [] := List.drop_of_length_le (by omega)
    rw [e, show t.length - y = 0 by omega]
    obtain ⟨_, _, hv, _, hm, _⟩ := h
    simp only [Value.slice.injEq] at hv
    exact Row.nil (by have := hv.2.2; omega)

theorem place_out {sig : List Sy} {t : List Int} {p : Int} (ht : termE sig t = 0) (h : p < 0 ∨ (t.length : Int) ≤ p) : placeE sig t p = 33 := by
  unfold placeE endP
  rw [if_pos ht, if_pos h]

end Go.Proofs.YtgpbnbmjgcchfaaGreatDoor

/- StepDoes walked. -/
namespace Go.Proofs.YtgpbnbmjgcchfaaGreatDoor
open Go.RowKit Go.Maps Go.BigFrame

theorem repl_few (sig : List Sy) (t u : List Int) (p : Int) : (replL sig t p u).length ≤ 512 := by
  unfold replL
  by_cases h : replE sig t p u = 0
  · rw [if_pos h]
    unfold replE at h
    split at h
    · split at h
      · split at h
        · split at h
          · omega
          · rename_i h9
            rw [List.length_append, List.length_append, List.length_take, List.length_drop]
            omega
        · contradiction
      · contradiction
    · contradiction
  · rw [if_neg h]
    simp

theorem doR_few (sig : List Sy) (rs : List Rl) (t : List Int) (p k : Int) : (doR sig rs t p k).1.length ≤ 512 := by
  unfold doR
  split
  · split
    · split
      · simp
      · split
        · simp
        · unfold doK
          split
          · split
            · exact repl_few _ _ _ _
            · simp
          · simp
    · simp
  · simp

end Go.Proofs.YtgpbnbmjgcchfaaGreatDoor

/- Arguments of a term, and right of layer 8: for StepParts. -/
namespace Go.Proofs.YtgpbnbmjgcchfaaGreatDoor
open Go.RowKit Go.Maps Go.BigFrame

/-- A term and its arguments. -/
theorem root_split {sig : List Sy} {t : List Int} (ht : termE sig t = 0) : ∃ (c : Int) (us : List (List Int)), t = c :: us.flatten ∧ (∀ u ∈ us, rowE sig u = 0) ∧ placeE sig t 0 = 0 ∧ kidsL sig t 0 = places 1 (us.map List.length) := by
  have hr := (term_parts ht).2
  cases t with
  | nil => have := right_len hr; simp at this
  | cons c r =>
    by_cases hc : c < 0
    · obtain ⟨_, us, h1, rfl, h3⟩ := term_split8 (sig_arOk (term_parts ht).1) hr
      have h4 : us.length = 0 := by
        unfold arC at h1
        rw [if_pos hc] at h1
        omega
      obtain rfl := List.eq_nil_of_length_eq_zero h4
      have hp : placeE sig (c :: ([] : List (List Int)).flatten) 0 = 0 := place_in (k := 0) ht (by simp)
      refine ⟨c, [], rfl, h3, hp, ?_⟩
      have h9 := kids_eq (k := 0) hp rfl
      rw [if_pos hc] at h9
      exact h9
    · obtain ⟨h1, us, h2, h3, h4⟩ := root_kids ht hc
      exact ⟨c, us, by rw [h2], h3, h1, h4⟩

theorem allP_key {sig : List Sy} {rs : List Rl} : ∀ (us : List (List Int)) (b : Nat), ∀ y ∈ allP sig rs b us, (b : Int) ≤ y.1
  | [], _, y, h => by cases h
  | u :: us, b, y, h => by
    unfold allP at h
    rcases List.mem_append.1 h with h | h
    · obtain ⟨z, hz, rfl⟩ := List.mem_map.1 h
      obtain ⟨x, j, r, _, _, rfl, _⟩ := all_mem hz
      unfold mvX
      simp only
      omega
    · have := allP_key us (b + u.length) y h
      omega

set_option maxRecDepth 100000 in
set_option maxHeartbeats 1600000 in
theorem lawRight8_any (sv rv tv : Value) (s : List Sy) (a : List Rl) (t : List Int) (w : World) (hs : Sg w sv s) (ha : RU w rv a) (ht : Is w tv t) (htl : t.length ≤ 1048576) :
    Calls Tryz.prog 8 #[.agg #[sv, rv], tv] w fun e w' => e = .returned (.bool (decide (stepE s a t = 0))) ∧ Below w.heap.size w w' := by
  obtain ⟨so, sc, rfl, hso, hsc, _⟩ := Row.flat hs
  obtain ⟨ao, ac, rfl, hao, hac, _⟩ := Row.flat ha
  have HS := hid hs
  have HA := hid ha
  have HTt := hid ht
  clear hs ha ht
  obtain ⟨wA, hwA⟩ : ∃ X, X = w.alloc (.cells #[.slice so s.length sc, .slice ao a.length ac] 25) := ⟨_, rfl⟩
  have CA : Hid (Below w.heap.size w wA) := by rw [hwA]; exact below_alloc _
  have HC : Hid (∀ W, Below wA.heap.size wA W → W.cell? ⟨w.heap.size, 0, none⟩ = some (.slice so s.length sc) ∧ W.cell? ⟨w.heap.size, 1, none⟩ = some (.slice ao a.length ac)) := fun W hW => by
    have hk := Kp.of_below hW
    rw [hwA] at hk
    exact ⟨hk.cell _ _ (cell_new rfl), hk.cell _ _ (cell_new rfl)⟩
  obtain ⟨D, hD⟩ : ∃ D, D = decide (stepE s a t = 0) := ⟨_, rfl⟩
  rw [← hD]
  have HD := hid hD
  clear hD
  go_enter Tryz.func8, Tryz.ntmps8
  go_wp2_with fail
  rw [← hwA]
  clear hwA
  refine (refSysCheck_any _ _ s a wA (HS.out.kp (Kp.of_below CA.out)) (HA.out.kp (Kp.of_below CA.out))).mono ?_
  rintro e w1 ⟨rfl, hb1⟩
  have D1 := hid hb1
  have C1 := hid (below_step CA.out hb1)
  clear hb1
  obtain ⟨x0, x1⟩ := HC.out w1 D1.out
  unfold stepE at HD
  by_cases he : (sysE s a).1 = 0
  · rw [if_pos he] at HD
    rw [he]
    go_wp2_with fail
    refine (refCheck_any _ _ s t w1 (HS.out.kp (Kp.of_below C1.out)) (HTt.out.kp (Kp.of_below C1.out)) (by omega)).mono ?_
    rintro e w2 ⟨rfl, hb2⟩
    have C2 := hid (below_step C1.out hb2)
    clear hb2
    by_cases ht0 : termE s t = 0
    · have hDt : D = true := by rw [HD.out, decide_eq_true ht0]
      subst hDt
      rw [ht0]
      go_wp2
      go_ret
      exact ⟨rfl, C2.out⟩
    · have hDt : D = false := by rw [HD.out, decide_eq_false ht0]
      subst hDt
      have hne : (termE s t == 0) = false := by rw [beq_eq_false_iff_ne]; exact ht0
      go_wp2
      go_ret
      exact ⟨rfl, C2.out⟩
  · rw [if_neg he] at HD
    have hDt : D = false := by rw [HD.out, decide_eq_false he]
    subst hDt
    have hne : ((sysE s a).1 == 0) = false := by rw [beq_eq_false_iff_ne]; exact he
    go_wp2
    go_ret
    exact ⟨rfl, C1.out⟩

end Go.Proofs.YtgpbnbmjgcchfaaGreatDoor
