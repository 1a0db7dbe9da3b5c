/- Texts of the proof, one behind the other. -/
import Derived.Test.YtfeeafkfjngemaaDoorOwn10
import Derived.Test.YtfeeafkfjngemaaDoorOwn5
import Derived.Test.YtfeeafkfjngemaaDoorOwn2
import Derived.Test.YtfeeafkfjngemaaDoorOwn7
import Derived.Test.YtfeeafkfjngemaaDoorOwn3
import Derived.Test.YtfeeafkfjngemaaDoorOwn9
import Derived.Test.YtfeeafkfjngemaaDoorOwn6
import Derived.Test.YtfeeafkfjngemaaDoorOwn8
/- The examples of layer 7 come out true. -/
namespace Go.Proofs.YtfeeafkfjngemaaDoor
open Go.RowKit Go.Maps Go.BigFrame

/-- The world behind the store of a new right side. -/
theorem store_world {W X : World} {B : Nat} {v1 v2 v3 v4 : Value} (hR : W.heap[B + 6]? = some (.cells #[v1, v2, v3, v4] 37)) (hX : X = (W.setCell ⟨B + 6, 1, none⟩ (.slice (some ⟨W.heap.size, 0, none⟩) 1 1)).alloc (.cells #[.int .i64 (-3)] 3)) :
    Exc W X (B + 6) ∧ X.heap[B + 6]? = some (.cells #[v1, .slice (some ⟨W.heap.size, 0, none⟩) 1 1, v3, v4] 37) ∧ Is X (.slice (some ⟨W.heap.size, 0, none⟩) 1 1) [-3] ∧ ∀ b w0, b ≤ B + 6 → Below b w0 W → Below b w0 X := by
  have hlt : B + 6 < W.heap.size := (Array.getElem?_eq_some_iff.1 hR).1
  have ha : ∀ g, g < W.heap.size → X.heap[g]? = (W.setCell ⟨B + 6, 1, none⟩ (.slice (some ⟨W.heap.size, 0, none⟩) 1 1)).heap[g]? := fun g hg => by
    rw [hX]
    exact (grown_of_below (below_alloc _) none).block _ (by simpa using hg) (by simp)
  refine ⟨⟨by rw [hX]; simp, fun g hne hg => ?_⟩, ?_, ?_, fun b w0 hle hb => ?_⟩
  · rw [ha g hg, heap_setCell_other _ _ _ _ hne]
  · rw [ha _ hlt]
    exact heap_setCell_same _ _ _ _ _ _ hR
  · refine is_lit (p := [-3]) (by rw [hX]; simp) (by decide) ⟨ei (by omega) (by omega) ?_, trivial⟩
    rw [hX]
    exact cell_newg (by simp) rfl
  · rw [hX]
    have h1 := hb.setCell (p := ⟨B + 6, 1, none⟩) hle (.slice (some ⟨W.heap.size, 0, none⟩) 1 1)
    exact h1.grown (grown_of_below (below_alloc _) none) (by simp; omega) (fun j hj => by cases hj)

set_option maxRecDepth 100000 in
set_option maxHeartbeats 3200000 in
theorem shown7_any (w : World) (hT : Tabs w) :
    Calls Tryd.prog 5 #[] w fun e w' => e = .returned (.bool true) ∧ Below w.heap.size w w' := by
  have HT := hid hT
  clear hT
  go_enter Tryd.func5, Tryd.ntmps5
  go_wp2_with fail
  refine (adds_any w).mono ?_
  rintro e w1 ⟨rfl, hA1, hR1, hs1, hb1⟩
  obtain ⟨W1, hW1⟩ : ∃ X, X = w1.alloc (.cells #[.slice (some ⟨w.heap.size + 1, 0, none⟩) 3 3, .slice (some ⟨w.heap.size + 6, 0, none⟩) 2 2] 25) := ⟨_, rfl⟩
  have C1 : Hid (Below w.heap.size w W1) := by rw [hW1]; exact below_step hb1 (below_alloc _)
  have HS1 : Hid (∀ W, Below W1.heap.size W1 W → (W.cell? ⟨w1.heap.size, 0, none⟩ = some (.slice (some ⟨w.heap.size + 1, 0, none⟩) 3 3) ∧ W.cell? ⟨w1.heap.size, 1, none⟩ = some (.slice (some ⟨w.heap.size + 6, 0, none⟩) 2 2)) ∧ Sg W (.slice (some ⟨w.heap.size + 1, 0, none⟩) 3 3) sumS ∧ RU W (.slice (some ⟨w.heap.size + 6, 0, none⟩) 2 2) [addR0, addR1]) := fun W hW => by
    have hk := Kp.of_below hW
    rw [hW1] at hk
    have hk1 := (Kp.of_below (below_alloc (w := w1) (.cells #[.slice (some ⟨w.heap.size + 1, 0, none⟩) 3 3, .slice (some ⟨w.heap.size + 6, 0, none⟩) 2 2] 25))).trans hk
    exact ⟨⟨hk.cell _ _ (cell_new rfl), hk.cell _ _ (cell_new rfl)⟩, hA1.sig.kp hk1, (adds_ru hA1 hR1).kp hk1⟩
  clear hA1 hR1 hs1 hb1
  go_wp2_with fail
  rw [← hW1]
  clear hW1
  obtain ⟨⟨x0, x1⟩, i0, i1⟩ := HS1.out W1 (Below.refl _ _)
  have I0 := hid i0
  have I1 := hid i1
  clear i0 i1
  go_wp2_with fail
  refine (sysCheck_any _ _ sumS [addR0, addR1] W1 I0.out I1.out (HT.out.below C1.out)).mono ?_
  rintro e w2 ⟨rfl, hb2⟩
  rw [sh7_check]
  have C2 := hid (below_step C1.out hb2)
  have D2 := hid hb2
  clear hb2 x0 x1 I0 I1
  obtain ⟨⟨x0, x1⟩, i0, i1⟩ := HS1.out w2 D2.out
  have I0 := hid i0
  have I1 := hid i1
  clear i0 i1
  go_wp2_with fail
  refine (defined_any _ _ sumS [addR0, addR1] w2 I0.out I1.out (HT.out.below C2.out)).mono ?_
  rintro e w3 ⟨v3, rfl, hi3, hb3⟩
  rw [sh7_defined] at hi3
  have C3 := hid (below_step C2.out hb3)
  have D3 := hid (below_step D2.out hb3)
  obtain ⟨a3, c3, rfl, _, _, _⟩ := hi3.flatI
  obtain ⟨g3, o3, y3, rfl, hy3, hc3, _, _⟩ := hi3.at (k := 0) (by decide)
  cases hy3
  have HD3 := hid hc3
  clear hb3 x0 x1 I0 I1 hi3 hc3
  go_wp2_with fail
  refine (adds_any w3).mono ?_
  rintro e w4 ⟨rfl, hA4, hR4, hs4, hb4⟩
  obtain ⟨W4, hW4⟩ : ∃ X, X = w4.alloc (.cells #[.slice (some ⟨w3.heap.size + 1, 0, none⟩) 3 3, .slice (some ⟨w3.heap.size + 6, 0, none⟩) 2 2] 25) := ⟨_, rfl⟩
  have b4 : Hid (Below w3.heap.size w3 W4) := by rw [hW4]; exact below_step hb4 (below_alloc _)
  have kA : Kp w4 W4 := by rw [hW4]; exact Kp.of_below (below_alloc _)
  have HA4 := hid (hA4.kp kA)
  have z0 : W4.cell? ⟨w4.heap.size, 0, none⟩ = some (.slice (some ⟨w3.heap.size + 1, 0, none⟩) 3 3) := by rw [hW4]; exact cell_new rfl
  have z1 : W4.cell? ⟨w4.heap.size, 1, none⟩ = some (.slice (some ⟨w3.heap.size + 6, 0, none⟩) 2 2) := by rw [hW4]; exact cell_new rfl
  obtain ⟨r0, r1, r2, r3⟩ := hR4.cells
  have q0 := kA.cell _ _ r0
  have q1 := kA.cell _ _ r1
  have q2 := kA.cell _ _ r2
  have q3 := kA.cell _ _ r3
  have hR4' : AddsR W4 w3.heap.size := by
    rw [hW4]
    exact ((grown_of_below (below_alloc _) none).block _ (by omega) (by simp)).trans hR4
  have HR4 := hid hR4'
  have z4 : W4.frozen? ⟨w3.heap.size + 6, 0, none⟩ = false := frozen_of_row _ _ _ _ _ hR4'
  have z5 : W4.frozen? ⟨w3.heap.size + 6, 1, none⟩ = false := frozen_of_row _ _ _ _ _ hR4'
  have z6 : W4.frozen? ⟨w3.heap.size + 6, 2, none⟩ = false := frozen_of_row _ _ _ _ _ hR4'
  have z7 : W4.frozen? ⟨w3.heap.size + 6, 3, none⟩ = false := frozen_of_row _ _ _ _ _ hR4'
  have hlt4 : w3.heap.size + 6 < w4.heap.size := by omega
  have hne4 : w3.heap.size + 6 ≠ w4.heap.size := by omega
  clear hA4 hR4 hR4' hs4 hb4 kA r0 r1 r2 r3
  go_wp2_with fail
  rw [← hW4]
  clear hW4
  go_region
  generalize hX : World.drew _ = W5
  obtain ⟨hx5, hr5, hbx⟩ := swap_world HR4.out hX
  clear hX
  have D5 := hid (hbx _ _ (by omega) b4.out)
  have A5 := hid (HA4.out.exc hx5 (.inr (Nat.le_refl _)))
  have z0' := hx5.cell (fun e => hne4 e.symm) z0
  have z1' := hx5.cell (fun e => hne4 e.symm) z1
  clear z0 z1 z4 z5 z6 z7 q0 q1 q2 q3 HR4 HA4 hbx hx5
  have RU5 : Hid (RU W5 (.slice (some ⟨w3.heap.size + 6, 0, none⟩) 2 2) [addR1, addR0]) := ru_lit2 (cell_of_row _ _ _ _ _ _ hr5) (cell_of_row _ _ _ _ _ _ hr5) (cell_of_row _ _ _ _ _ _ hr5) (cell_of_row _ _ _ _ _ _ hr5) A5.out.l1 A5.out.r1 A5.out.l0 A5.out.r0 (by decide) (by decide) (by decide) (by decide)
  have HR5 := hid hr5
  have C5 := hid (below_step C3.out D5.out)
  have E5 := hid (below_step D3.out D5.out)
  obtain ⟨⟨x0, x1⟩, i0, i1⟩ := HS1.out W5 E5.out
  have I0 := hid i0
  have I1 := hid i1
  have Z0 := hid z0'
  have Z1 := hid z1'
  have H4 := hid hlt4
  have hlw : w4.heap.size < W5.heap.size := World.block_lt_of_cell? _ _ z0'
  have HLw := hid hlw
  clear i0 i1 hr5 hlt4 hne4 hlw
  go_wp2_with fail
  refine (sysSame_any _ _ _ _ sumS sumS [addR0, addR1] [addR1, addR0] W5 I0.out I1.out A5.out.sig RU5.out (HT.out.below C5.out)).mono ?_
  rintro e w6 ⟨rfl, hb6⟩
  rw [sh7_same]
  have C6 := hid (below_step C5.out hb6)
  have E6 := hid (below_step E5.out hb6)
  have A6 := hid (A5.out.kp (Kp.of_below hb6))
  have hr6 : w6.heap[w3.heap.size + 6]? = _ := ((grown_of_below hb6 none).block _ (by have := H4.out; have := HLw.out; omega) (by simp)).trans HR5.out
  have y0 := (Kp.of_below hb6).cell _ _ Z0.out
  have y1 := (Kp.of_below hb6).cell _ _ Z1.out
  have f1 : w6.frozen? ⟨w3.heap.size + 6, 1, none⟩ = false := frozen_of_row _ _ _ _ _ hr6
  have q1 : w6.cell? ⟨w3.heap.size + 6, 1, none⟩ = some (.slice (some ⟨w3.heap.size + 5, 0, none⟩) 4 4) := cell_of_row _ _ _ _ _ _ hr6
  have hlt6 : w3.heap.size + 6 < w6.heap.size := (Array.getElem?_eq_some_iff.1 hr6).1
  have HR6 := hid hr6
  have D6 := hid (below_step D5.out hb6)
  clear hb6 x0 x1 I0 I1 z0' z1' Z0 Z1 RU5 HR5 A5
  obtain ⟨W7, hW7⟩ : ∃ X, X = (w6.setCell ⟨w3.heap.size + 6, 1, none⟩ (.slice (some ⟨w6.heap.size, 0, none⟩) 1 1)).alloc (.cells #[.int .i64 (-3)] 3) := ⟨_, rfl⟩
  obtain ⟨hx7, hr7, hi7, hbx7⟩ := store_world hr6 hW7
  have hne4 : w4.heap.size ≠ w3.heap.size + 6 := by have := H4.out; omega
  have y0' := hx7.cell hne4 y0
  have y1' := hx7.cell hne4 y1
  have A7 := hid (A6.out.exc hx7 (.inr (Nat.le_refl _)))
  have D7 := hid (hbx7 _ _ (by omega) D6.out)
  have RU7 : Hid (RU W7 (.slice (some ⟨w3.heap.size + 6, 0, none⟩) 2 2) [addR2, addR0]) := ru_lit2 (cell_of_row _ _ _ _ _ _ hr7) (cell_of_row _ _ _ _ _ _ hr7) (cell_of_row _ _ _ _ _ _ hr7) (cell_of_row _ _ _ _ _ _ hr7) A7.out.l1 hi7 A7.out.l0 A7.out.r0 (by decide) (by decide) (by decide) (by decide)
  have Y0 := hid y0'
  have Y1 := hid y1'
  rw [hW7] at y0' y1'
  clear hx7 hr7 hi7 hbx7 hr6 hne4 HR6 A6
  go_wp2_with fail
  rw [← hW7]
  clear hW7 y0 y1 y0' y1' q1 f1
  have C7 := hid (below_step C3.out D7.out)
  have E7 := hid (below_step D3.out D7.out)
  refine (sysCheck_any _ _ sumS [addR2, addR0] W7 A7.out.sig RU7.out (HT.out.below C7.out)).mono ?_
  rintro e w8 ⟨rfl, hb8⟩
  rw [sh7_bad]
  have C8 := hid (below_step C7.out hb8)
  have E8 := hid (below_step E7.out hb8)
  have y0 := (Kp.of_below hb8).cell _ _ Y0.out
  have y1 := (Kp.of_below hb8).cell _ _ Y1.out
  have A8 := hid (A7.out.sig.kp (Kp.of_below hb8))
  have RU8 := hid (RU7.out.kp (Kp.of_below hb8))
  obtain ⟨⟨x0, x1⟩, i0, i1⟩ := HS1.out w8 E8.out
  have I0 := hid i0
  have I1 := hid i1
  have D8 := hid (below_step D7.out hb8)
  clear hb8 i0 i1 RU7 A7
  go_wp2_with fail
  refine (sysSame_any _ _ _ _ sumS sumS [addR0, addR1] [addR2, addR0] w8 I0.out I1.out A8.out RU8.out (HT.out.below C8.out)).mono ?_
  rintro e w9 ⟨rfl, hb9⟩
  rw [sh7_other]
  have C9 := hid (below_step C8.out hb9)
  have hc9 := (Kp.of_below (below_step D8.out hb9)).cell _ _ HD3.out
  rw [Nat.add_zero] at hc9
  clear hb9 x0 x1 y0 y1 I0 I1
  go_wp2
  go_ret
  exact ⟨rfl, C9.out⟩

end Go.Proofs.YtfeeafkfjngemaaDoor

/- What the document's Shift answers. -/
namespace Go.Proofs.YtfeeafkfjngemaaDoor
open Go.RowKit Go.Maps Go.BigFrame

set_option maxRecDepth 100000 in
set_option maxHeartbeats 1600000 in
theorem refShift_any (v : Value) (t : List Int) (d : Int) (w : World) (h : Is w v t) (hb : t.length * 8 ≤ 140737488351232) (hd1 : -9223372036854775808 ≤ d) (hd2 : d ≤ 9223372036854775807) :
    Calls Tryd.prog 12 #[v, .int .i64 d] w fun e w' => ∃ v', e = .returned (.tuple #[v', .int .i64 (shiftE d t)]) ∧ OwI w' w.heap.size v' (shiftL d t) ∧ Below w.heap.size w w' := by
  obtain ⟨ao, cap, rfl, hao, hca, q0⟩ := Row.flat h
  unfold maxLen at hca
  have HT := hid h
  clear h q0
  go_enter Tryd.func12, Tryd.ntmps12
  go_wp2
  go_loopw [6, 7] (fun x i wr => ∃ k : Nat, k ≤ t.length ∧ i = .int .i64 k ∧ (∀ c ∈ t.take k, c < 0 → isVarB (-1 - c + d) = true) ∧ OwI wr w.heap.size x ((t.take k).map fun c => if c < 0 then c - d else c) ∧ Below w.heap.size w wr) (fun _ i _ => t.length - (intOf i).toNat)
  case atStart => exact ⟨0, Nat.zero_le _, rfl, fun c hc => (by simp at hc), ⟨fun k x hk => (by simp at hk), empty_row _ (Nat.le_refl _)⟩, below_alloc _⟩
  case round =>
    obtain ⟨k, hk, rfl, hpre, how, hbl⟩ := hrel
    have hol : ((t.take k).map fun c => if c < 0 then c - d else c).length = k := by rw [List.length_map, List.length_take]; omega
    obtain ⟨bo, bc, hv, hbc1, hbc2⟩ := how.shape
    rw [hol] at hv hbc1
    subst hv
    unfold maxLen at hbc2
    have HPre := hid hpre
    have HOw := hid how
    have HB := hid hbl
    have HOl := hid hol
    clear hpre how hol
    by_cases hlt : k < t.length
    · obtain ⟨ga, off, c, rfl, hx1, hx2, hx3, hx4⟩ := (HT.out.kp (Kp.of_below hbl)).at hlt
      have HG := hid hx1
      have HMem : Hid (c ∈ t) := List.mem_of_getElem? hx1
      have HPre2' : (c < 0 → isVarB (-1 - c + d) = true) → ∀ x ∈ t.take (k + 1), x < 0 → isVarB (-1 - x + d) = true := fun hcv x hx h0 => by
        rw [List.take_add_one, HG.out, List.mem_append] at hx
        rcases hx with hx | hx
        · exact HPre.out x hx h0
        · simp at hx
          subst hx
          exact hcv h0
      have HPq := hid HPre2'
      clear hx1 hbl HPre2'
      obtain ⟨n, hn⟩ : ∃ n, n = -1 - c := ⟨_, rfl⟩
      have hwn : IntKind.i64.wrap (-1 - c) = n := by rw [hn]; exact IntWalk.i64_in _ ⟨by omega, by omega⟩
      by_cases hc0 : 0 ≤ c
      · have HPre2 := hid (HPq.out (fun h => absurd h (by omega)))
        have hcn : ¬ c < 0 := by omega
        obtain ⟨v4, w4, hr4, ho4, hg4⟩ := join_ints 30 (u := .slice (some ⟨wr.heap.size, 0, none⟩) 1 1) (es := [c]) (HOw.out.later (below_alloc (.cells #[.int .i64 (c)] 3))) (is_new wr [c] _ (by intro x hx; simp at hx; omega) (by simp)) (b1 HB.out).size (by rw [HOl.out]; simp; omega)
        have HR4 := hid hr4
        have HO4 : Hid (OwI w4 w.heap.size v4 ((t.take (k + 1)).map fun c => if c < 0 then c - d else c)) := by
          have h9 := ho4
          rw [List.take_add_one, HG.out, List.map_append]
          simp only [Option.toList, List.map_cons, List.map_nil, if_neg hcn]
          exact h9
        have HB4 : Hid (Below w.heap.size w w4) := (b1 HB.out).grown hg4 (b1 HB.out).size (fun j hj => own_blk HOw.out.2 hj)
        clear hr4 ho4 hg4
        go_wp2_with (first
          | (at_builtin; refine wpList_append_run rfl _ _ _ rfl _ _ rfl rfl HR4.out ?_))
        go_roundw
        case rel => exact ⟨k + 1, by omega, by go_num, HPre2.out, HO4.out, HB4.out⟩
        case measure => simp [intOf]; omega
      · have hcn : c < 0 := by omega
        by_cases hv : isVarB (-1 - c + d) = true
        · have HPre2 := hid (HPq.out (fun _ => hv))
          have hv2 := isVarB_iff.1 hv
          obtain ⟨m, hm⟩ : ∃ m, m = n + d := ⟨_, rfl⟩
          obtain ⟨y, hy⟩ : ∃ y, y = c - d := ⟨_, rfl⟩
          have hwm : IntKind.i64.wrap (n + d) = m := by rw [hm]; exact IntWalk.i64_in _ ⟨by omega, by omega⟩
          have hwy : IntKind.i64.wrap (-1 - m) = y := by rw [IntWalk.i64_in _ ⟨by omega, by omega⟩]; omega
          have hdm : ¬ 1048576 ≤ d := by omega
          have hm0 : ¬ m < 0 := by omega
          have hm1 : ¬ 1048576 ≤ m := by omega
          by_cases hd0 : 0 ≤ d
          · have hwd : IntKind.i64.wrap (1048576 - d) = 1048576 - d := IntWalk.i64_in _ ⟨by omega, by omega⟩
            have hnd : ¬ 1048576 - d ≤ n := by omega
            obtain ⟨v4, w4, hr4, ho4, hg4⟩ := join_ints 30 (u := .slice (some ⟨wr.heap.size, 0, none⟩) 1 1) (es := [y]) (HOw.out.later (below_alloc (.cells #[.int .i64 (y)] 3))) (is_new wr [y] _ (by intro x hx; simp at hx; omega) (by simp)) (b1 HB.out).size (by rw [HOl.out]; simp; omega)
            have HR4 := hid hr4
            have HO4 : Hid (OwI w4 w.heap.size v4 ((t.take (k + 1)).map fun c => if c < 0 then c - d else c)) := by
              have h9 := ho4
              rw [List.take_add_one, HG.out, List.map_append]
              simp only [Option.toList, List.map_cons, List.map_nil, if_pos hcn, ← hy]
              exact h9
            have HB4 : Hid (Below w.heap.size w w4) := (b1 HB.out).grown hg4 (b1 HB.out).size (fun j hj => own_blk HOw.out.2 hj)
            clear hr4 ho4 hg4 hn hm hy hv hv2
            go_wp2_with (first
              | (at_builtin; refine wpList_append_run rfl _ _ _ rfl _ _ rfl rfl HR4.out ?_))
            go_roundw
            case rel => exact ⟨k + 1, by omega, by go_num, HPre2.out, HO4.out, HB4.out⟩
            case measure => simp [intOf]; omega
          · have hnd : ¬ 0 ≤ d := hd0
            obtain ⟨v4, w4, hr4, ho4, hg4⟩ := join_ints 30 (u := .slice (some ⟨wr.heap.size, 0, none⟩) 1 1) (es := [y]) (HOw.out.later (below_alloc (.cells #[.int .i64 (y)] 3))) (is_new wr [y] _ (by intro x hx; simp at hx; omega) (by simp)) (b1 HB.out).size (by rw [HOl.out]; simp; omega)
            have HR4 := hid hr4
            have HO4 : Hid (OwI w4 w.heap.size v4 ((t.take (k + 1)).map fun c => if c < 0 then c - d else c)) := by
              have h9 := ho4
              rw [List.take_add_one, HG.out, List.map_append]
              simp only [Option.toList, List.map_cons, List.map_nil, if_pos hcn, ← hy]
              exact h9
            have HB4 : Hid (Below w.heap.size w w4) := (b1 HB.out).grown hg4 (b1 HB.out).size (fun j hj => own_blk HOw.out.2 hj)
            clear hr4 ho4 hg4 hn hm hy hv hv2
            go_wp2_with (first
              | (at_builtin; refine wpList_append_run rfl _ _ _ rfl _ _ rfl rfl HR4.out ?_))
            go_roundw
            case rel => exact ⟨k + 1, by omega, by go_num, HPre2.out, HO4.out, HB4.out⟩
            case measure => simp [intOf]; omega
        · have HE : Hid (shiftE d t = 40 ∧ shiftL d t = []) := by
            have hno : ¬ okShift d t = true := fun h => hv (by
              have := List.all_eq_true.1 h c HMem.out
              simpa [hcn] using this)
            exact ⟨by unfold shiftE; rw [if_neg hno], by unfold shiftL; rw [if_neg hno]⟩
          have hv2 : ¬ (0 ≤ -1 - c + d ∧ -1 - c + d < 1048576) := fun h => hv (isVarB_iff.2 h)
          obtain ⟨m, hm⟩ : ∃ m, m = n + d := ⟨_, rfl⟩
          by_cases hd9 : 1048576 ≤ d
          · go_wp2
            go_ret2
            exact ⟨_, ret2i HE.out.1.symm, by rw [HE.out.2]; exact nilI _ _, HB.out⟩
          · by_cases hd0 : 0 ≤ d
            · have hwd : IntKind.i64.wrap (1048576 - d) = 1048576 - d := IntWalk.i64_in _ ⟨by omega, by omega⟩
              have hnd : 1048576 - d ≤ n := by omega
              go_wp2
              go_ret2
              exact ⟨_, ret2i HE.out.1.symm, by rw [HE.out.2]; exact nilI _ _, HB.out⟩
            · have hwm : IntKind.i64.wrap (n + d) = m := by rw [hm]; exact IntWalk.i64_in _ ⟨by omega, by omega⟩
              by_cases hm0 : m < 0
              · go_wp2
                go_ret2
                exact ⟨_, ret2i HE.out.1.symm, by rw [HE.out.2]; exact nilI _ _, HB.out⟩
              · have hm1 : 1048576 ≤ m := by omega
                go_wp2
                go_ret2
                exact ⟨_, ret2i HE.out.1.symm, by rw [HE.out.2]; exact nilI _ _, HB.out⟩
    · have hke : k = t.length := by omega
      subst hke
      have HE : Hid (shiftE d t = 0 ∧ shiftL d t = t.map fun c => if c < 0 then c - d else c) := by
        have h9 := HPre.out
        rw [List.take_length] at h9
        have hok : okShift d t = true := List.all_eq_true.2 fun c hc => by
          by_cases h0 : c < 0
          · simp [h9 c hc h0]
          · simp [h0]
        exact ⟨by unfold shiftE; rw [if_pos hok], by unfold shiftL; rw [if_pos hok]⟩
      rw [List.take_length] at HOw
      go_wp2
      go_ret2
      exact ⟨_, ret2i HE.out.1.symm, by rw [HE.out.2]; exact HOw.out, HB.out⟩

end Go.Proofs.YtfeeafkfjngemaaDoor


/- Shift, and back. -/
namespace Go.Proofs.YtfeeafkfjngemaaDoor
open Go.RowKit Go.Maps

theorem isVarB_iff2 {n : Int} : isVarB n = true ↔ 0 ≤ n ∧ n < 1048576 := isVarB_iff

theorem shift_cell {d c : Int} (h : c < 0 → isVarB (-1 - c + d) = true) : (if c < 0 then c - d else c) < 0 ↔ c < 0 := by
  by_cases hc : c < 0
  · have := isVarB_iff2.1 (h hc)
    rw [if_pos hc]
    omega
  · rw [if_neg hc]

theorem okShift_cons (d c : Int) (t : List Int) : okShift d (c :: t) = true ↔ (c < 0 → isVarB (-1 - c + d) = true) ∧ okShift d t = true := by
  unfold okShift
  rw [List.all_cons, Bool.and_eq_true]
  refine and_congr_left fun _ => ?_
  by_cases hc : c < 0
  · simp [hc]
  · simp [hc]

/-- What was shifted is shifted back just if all numbers were those of variables. -/
theorem shift_back (d : Int) : ∀ t : List Int, okShift d t = true → (okShift (-d) (t.map fun c => if c < 0 then c - d else c) = true ↔ ∀ c ∈ t, -1048576 ≤ c) ∧ ((t.map fun c => if c < 0 then c - d else c).map fun c => if c < 0 then c - -d else c) = t
  | [], _ => ⟨⟨fun _ c hc => (by cases hc), fun _ => rfl⟩, rfl⟩
  | c :: t, h => by
    obtain ⟨h1, h2⟩ := (okShift_cons d c t).1 h
    obtain ⟨h3, h4⟩ := shift_back d t h2
    have hs := shift_cell h1
    refine ⟨?_, ?_⟩
    · rw [List.map_cons, okShift_cons, h3, hs]
      refine ⟨fun ⟨k1, k2⟩ x hx => ?_, fun k => ⟨fun hc => ?_, fun x hx => k x (.tail _ hx)⟩⟩
      · cases hx with
        | head =>
          by_cases hc : c < 0
          · have := k1 hc
            rw [if_pos hc, isVarB_iff2] at this
            omega
          · omega
        | tail _ hx => exact k2 x hx
      · have := k c (.head _)
        rw [if_pos hc, isVarB_iff2]
        omega
    · rw [List.map_cons, List.map_cons, h4]
      congr 1
      by_cases hc : c < 0
      · rw [if_pos (hs.2 hc), if_pos hc]
        omega
      · rw [if_neg (fun h => hc (hs.1 h)), if_neg hc]

end Go.Proofs.YtfeeafkfjngemaaDoor

/- Rows whose variables are moved, plainly. -/
namespace Go.Proofs.YtfeeafkfjngemaaDoor
open Go.RowKit Go.Maps Go.BigFrame

def movL (d : Int) (t : List Int) : List Int := t.map fun c => if c < 0 then c - d else c

theorem mov_ok {d : Int} {t : List Int} (h : okShift d t = true) : shiftE d t = 0 ∧ shiftL d t = movL d t := by
  unfold shiftE shiftL
  rw [if_pos h, if_pos h]
  exact ⟨rfl, rfl⟩

theorem mov_no {d : Int} {t : List Int} (h : ¬ okShift d t = true) : shiftE d t = 40 := by
  unfold shiftE
  rw [if_neg h]

theorem mov_code {sig : List Sy} {d c : Int} (h : c < 0 → isVarB (-1 - c + d) = true) (hc : codeD sig c ≠ none) : codeD sig (if c < 0 then c - d else c) = codeD sig c := by
  by_cases h0 : c < 0
  · rw [if_pos h0]
    have h1 := isVarB_iff.1 (h h0)
    have h2 : ¬ c < -1048576 := fun h2 => hc (codeD_none (.inr h2))
    unfold codeD
    rw [if_neg (by omega), if_pos (by omega), if_neg (by omega), if_pos (by omega)]
  · rw [if_neg h0]

theorem mov_first {sig : List Sy} {d : Int} : ∀ (t : List Int) (m : Int) (i : Nat), okShift d t = true → (∀ c ∈ t, codeD sig c ≠ none) → firstT sig m i (movL d t) = firstT sig m i t
  | [], _, _, _, _ => rfl
  | c :: t, m, i, ho, hc => by
    have h1 : (c < 0 → isVarB (-1 - c + d) = true) ∧ okShift d t = true := by
      unfold okShift at ho ⊢
      rw [List.all_cons, Bool.and_eq_true] at ho
      refine ⟨fun h0 => ?_, ho.2⟩
      have := ho.1
      simpa [h0] using this
    have e : movL d (c :: t) = (if c < 0 then c - d else c) :: movL d t := rfl
    rw [e]
    unfold firstT
    rw [mov_code h1.1 (hc c (by simp))]
    cases codeD sig c with
    | none => rfl
    | some x =>
      simp only
      rw [mov_first t _ _ h1.2 (fun y hy => hc y (by simp [hy]))]

theorem first_codes {sig : List Sy} : ∀ (t : List Int) (m : Int) (i : Nat), firstT sig m i t = ((i : Int) + t.length, 0) → ∀ c ∈ t, codeD sig c ≠ none
  | [], _, _, _, c, hc => by simp at hc
  | a :: t, m, i, h, c, hc => by
    unfold firstT at h
    cases ha : codeD sig a with
    | none => rw [ha] at h; simp at h
    | some x =>
      rw [ha] at h
      simp only at h
      by_cases h0 : m + x = 0
      · rw [if_pos h0] at h
        have h2 := congrArg Prod.fst h
        simp only [List.length_cons] at h2
        have h3 : t.length = 0 := by omega
        obtain rfl := List.eq_nil_of_length_eq_zero h3
        rw [List.mem_singleton] at hc
        subst hc
        rw [ha]
        simp
      · rw [if_neg h0] at h
        rcases List.mem_cons.1 hc with rfl | hc
        · rw [ha]; simp
        · refine first_codes t (m + x) (i + 1) ?_ c hc
          rw [h]
          simp only [List.length_cons]
          congr 1
          push_cast
          omega

theorem mov_row {sig : List Sy} {d : Int} {t : List Int} (ho : okShift d t = true) (h : rowE sig t = 0) : rowE sig (movL d t) = 0 := by
  have h1 := first_right h []
  rw [List.append_nil] at h1
  have h2 := mov_first (sig := sig) t 1 0 ho (first_codes t 1 0 (by rw [h1]; simp))
  unfold rowE at h ⊢
  rw [h2]
  have h3 : (movL d t).length = t.length := by unfold movL; simp
  rw [h3]
  exact h

theorem mov_term {sig : List Sy} {d : Int} {t : List Int} (ho : okShift d t = true) (h : termE sig t = 0) : termE sig (movL d t) = 0 := by
  unfold termE at h ⊢
  by_cases hs : sigE sig = 0
  · rw [if_pos hs] at h ⊢
    exact mov_row ho h
  · rw [if_neg hs] at h
    exact absurd h hs

theorem mov_can {d : Int} {p q : List Int} (h1 : okShift d p = true) (h2 : okShift d q = true) : canL [movL d p, movL d q] = canL [p, q] := by
  refine canL_shift d [p, q] fun t ht c hc h0 => ?_
  have ho : okShift d t = true := by
    simp only [List.mem_cons, List.not_mem_nil, or_false] at ht
    rcases ht with rfl | rfl
    · exact h1
    · exact h2
  have h3 := List.all_eq_true.1 ho c hc
  have h4 : isVarB (-1 - c + d) = true := by simpa [h0] using h3
  exact (isVarB_iff.1 h4).1

end Go.Proofs.YtfeeafkfjngemaaDoor

/- Rules whose variables are moved, in another order, plainly. -/
namespace Go.Proofs.YtfeeafkfjngemaaDoor
open Go.RowKit Go.Maps Go.BigFrame

/-- A rule with its variables moved, where that can be. -/
def kindR (d : Int) (r : Rl) : Rl := if okShift d r.1 = true ∧ okShift d r.2 = true then (movL d r.1, movL d r.2) else r

theorem mov_mem {d : Int} {t : List Int} (ho : okShift d t = true) {x : Int} : x ∈ varsL (movL d t) ↔ x - d ∈ varsL t := by
  have hv : ∀ c ∈ t, c < 0 → c - d < 0 := fun c hc h0 => by
    have h3 := List.all_eq_true.1 ho c hc
    have h4 : isVarB (-1 - c + d) = true := by simpa [h0] using h3
    have := isVarB_iff.1 h4
    omega
  rw [mem_varsL, mem_varsL]
  unfold movL
  constructor
  · rintro ⟨c, hc, h0, rfl⟩
    obtain ⟨b, hb, rfl⟩ := List.mem_map.1 hc
    by_cases hn : b < 0
    · rw [if_pos hn] at h0 ⊢
      exact ⟨b, hb, hn, by omega⟩
    · rw [if_neg hn] at h0
      exact absurd h0 hn
  · rintro ⟨c, hc, h0, hx⟩
    refine ⟨c - d, List.mem_map.2 ⟨c, hc, by rw [if_pos h0]⟩, hv c hc h0, by omega⟩

theorem kind_right {sig : List Sy} {d : Int} {r : Rl} (h : ruleE sig r = 0) : ruleE sig (kindR d r) = 0 := by
  unfold kindR
  by_cases hk : okShift d r.1 = true ∧ okShift d r.2 = true
  · rw [if_pos hk]
    obtain ⟨h1, h2, h3, h4, h5, h6⟩ := rule_parts h
    have l1 : (movL d r.1).length = r.1.length := by unfold movL; simp
    have l2 : (movL d r.2).length = r.2.length := by unfold movL; simp
    have hr : ¬ ((movL d r.1)[0]?).getD 0 < 0 := by
      have hp := row_posS (term_parts h1).2
      unfold movL
      rw [List.getElem?_map]
      rw [List.getElem?_eq_getElem hp] at h5 ⊢
      simp only [Option.map_some, Option.getD_some] at h5 ⊢
      rw [if_neg (by omega)]
      omega
    have hf : freeB (movL d r.1) (movL d r.2) = false := by
      unfold freeB at h6 ⊢
      rw [List.any_eq_false] at h6 ⊢
      intro x hx
      have h9 := h6 (x - d) ((mov_mem hk.2).1 hx)
      have h8 : x - d ∈ varsL r.1 := by simpa using h9
      simpa using (mov_mem hk.1).2 h8
    unfold ruleE
    rw [mov_term hk.1 h1, mov_term hk.2 h2, if_pos rfl, if_pos rfl, l1, l2, if_neg (by omega), if_neg hr, hf]
    rfl
  · rw [if_neg hk]
    exact h

theorem kind_can {d : Int} {r : Rl} : canL [(kindR d r).1, (kindR d r).2] = canL [r.1, r.2] := by
  unfold kindR
  by_cases hk : okShift d r.1 = true ∧ okShift d r.2 = true
  · rw [if_pos hk]
    exact mov_can hk.1 hk.2
  · rw [if_neg hk]

theorem kind_len {d : Int} {r : Rl} : (kindR d r).1.length = r.1.length ∧ (kindR d r).2.length = r.2.length := by
  unfold kindR
  by_cases hk : okShift d r.1 = true ∧ okShift d r.2 = true
  · rw [if_pos hk]
    unfold movL
    simp
  · rw [if_neg hk]
    exact ⟨rfl, rfl⟩

theorem rules_go {sig : List Sy} : ∀ (rs : List Rl) (k : Nat), (∀ r ∈ rs, ruleE sig r = 0) → rulesGo sig k rs = (0, 0)
  | [], _, _ => rfl
  | a :: rs, k, h => by
    unfold rulesGo
    rw [if_pos (h a (by simp)), rules_go rs (k + 1) (fun r hr => h r (by simp [hr]))]

theorem sys_of {sig : List Sy} {rs : List Rl} (ha : aheadE sig rs.length = 0) (h : ∀ r ∈ rs, ruleE sig r = 0) : sysB sig rs = true := by
  unfold sysB sysE
  rw [if_pos ha, rules_go rs 0 h]
  rfl

/-- Rules in another order, with their variables moved, are the same. -/
theorem kinds_same {sig : List Sy} {d : Int} {rs rs' : List Rl} (h : sysB sig rs = true) (hp : rs'.Perm (rs.map (kindR d))) : sameB sig rs sig rs' = true ∧ sameB sig rs' sig rs = true := by
  obtain ⟨ha, hr⟩ := sys_right h
  have hl : rs'.length = rs.length := by rw [hp.length_eq, List.length_map]
  have hr' : ∀ r ∈ rs', ruleE sig r = 0 := fun r hm => by
    obtain ⟨x, hx, rfl⟩ := List.mem_map.1 (hp.subset hm)
    exact kind_right (hr x hx)
  have hs' : sysB sig rs' = true := sys_of (by rw [hl]; exact ha) hr'
  have hc : (rs'.map fun y => canL [y.1, y.2]).Perm (rs.map fun y => canL [y.1, y.2]) := by
    have h9 := hp.map (fun y : Rl => canL [y.1, y.2])
    rw [List.map_map] at h9
    refine h9.trans (List.Perm.of_eq (List.map_congr_left fun x _ => ?_))
    exact kind_can
  unfold sameB
  rw [h, hs', (pair_perm rs rs' hr hr' hl.symm).2 hc.symm, (pair_perm rs' rs hr' hr hl).2 hc, hl]
  simp

theorem same_self {sig : List Sy} {rs : List Rl} (h : sysB sig rs = true) : sameB sig rs sig rs = true := by
  obtain ⟨ha, hr⟩ := sys_right h
  unfold sameB
  rw [h, (pair_perm rs rs hr hr rfl).2 (List.Perm.refl _)]
  simp

theorem same_less {s t : List Sy} {a b : List Rl} (h : a.length ≠ b.length) : sameB s a t b = false := by
  unfold sameB
  rw [decide_eq_false h]
  simp

end Go.Proofs.YtfeeafkfjngemaaDoor

/- Rows of one's own whose elements have two cells. -/
namespace Go.Proofs.YtfeeafkfjngemaaDoor
open Go.RowKit Go.Maps Go.BigFrame

theorem prC_in {xs : List (Value × Value)} {u : Value} (h : u ∈ prC xs) : ∃ p ∈ xs, u = p.1 ∨ u = p.2 := by
  unfold prC at h
  rw [List.mem_flatMap] at h
  obtain ⟨p, hp, hu⟩ := h
  simp only [List.mem_cons, List.not_mem_nil, or_false] at hu
  exact ⟨p, hp, hu⟩

/-- Which of two cells. -/
theorem prC_get {xs : List (Value × Value)} {j : Nat} {u : Value} (h : (prC xs)[j]? = some u) : ∃ p, xs[j / 2]? = some p ∧ ((j = j / 2 * 2 ∧ u = p.1) ∨ (j = j / 2 * 2 + 1 ∧ u = p.2)) := by
  have hl := (List.getElem?_eq_some_iff.1 h).1
  rw [prC_len] at hl
  have hp : xs[j / 2]? = some xs[j / 2] := List.getElem?_eq_getElem (by omega)
  obtain ⟨h1, h2⟩ := prC_at xs (j / 2) _ hp
  rcases Nat.mod_two_eq_zero_or_one j with h9 | h9
  · have e : j / 2 * 2 = j := by omega
    rw [e, h] at h1
    exact ⟨_, hp, .inl ⟨e.symm, Option.some.inj h1⟩⟩
  · have e : j / 2 * 2 + 1 = j := by omega
    rw [e, h] at h2
    exact ⟨_, hp, .inr ⟨e.symm, Option.some.inj h2⟩⟩

theorem prC_set : ∀ (us : List (Value × Value)) (i : Nat) (q : Value × Value), prC (us.set i q) = ((prC us).set (i * 2) q.1).set (i * 2 + 1) q.2
  | [], i, q => by simp [prC]
  | p :: us, 0, q => by simp [prC]
  | p :: us, i + 1, q => by
    have h := prC_set us i q
    have e : ∀ (x : Value × Value) (l : List (Value × Value)), prC (x :: l) = x.1 :: x.2 :: prC l := fun x l => by simp [prC]
    rw [List.set_cons_succ, e, e, h, show (i + 1) * 2 = i * 2 + 1 + 1 by omega]
    rfl

/-- Two elements of a row of one's own, each two cells wide, change their places. -/
theorem own_swap2 {w X : World} {base g n cap : Nat} {e : TypeId} {us : List (Value × Value)} (h : w.ownsRow base e 2 (.slice (some ⟨g, 0, none⟩) n cap) n (prC us)) {i j : Nat} {p q : Value × Value}
    (hX : ((((w.setCell ⟨g, i * 2, none⟩ q.1).setCell ⟨g, i * 2 + 1, none⟩ q.2).setCell ⟨g, j * 2, none⟩ p.1).setCell ⟨g, j * 2 + 1, none⟩ p.2).drew = X) :
    X.ownsRow base e 2 (.slice (some ⟨g, 0, none⟩) n cap) n (prC ((us.set i q).set j p)) ∧ X.heap.size = w.heap.size ∧ (∀ k, k ≠ g → X.heap[k]? = w.heap[k]?) ∧ ∀ b w0, b ≤ g → Below b w0 w → Below b w0 X := by
  subst hX
  refine ⟨?_, by simp, fun k hk => ?_, fun b w0 hle hb => ?_⟩
  · rw [prC_set, prC_set]
    exact (World.ownsRow.stored (World.ownsRow.stored (World.ownsRow.stored (World.ownsRow.stored h (i * 2) q.1).1 (i * 2 + 1) q.2).1 (j * 2) p.1).1 (j * 2 + 1) p.2).1
  · show (World.setCell _ _ _).heap[k]? = _
    rw [heap_setCell_other _ _ _ _ hk, heap_setCell_other _ _ _ _ hk, heap_setCell_other _ _ _ _ hk, heap_setCell_other _ _ _ _ hk]
  · exact ((((hb.setCell (p := ⟨g, i * 2, none⟩) hle _).setCell (p := ⟨g, i * 2 + 1, none⟩) hle _).setCell (p := ⟨g, j * 2, none⟩) hle _).setCell (p := ⟨g, j * 2 + 1, none⟩) hle _).drew

theorem own_cells2 {w : World} {base g n cap : Nat} {e : TypeId} {us : List (Value × Value)} (h : w.ownsRow base e 2 (.slice (some ⟨g, 0, none⟩) n cap) n (prC us)) (hl : us.length = n) {i : Nat} {p : Value × Value} (hi : us[i]? = some p) :
    w.cell? ⟨g, i * 2, none⟩ = some p.1 ∧ w.cell? ⟨g, i * 2 + 1, none⟩ = some p.2 ∧ w.frozen? ⟨g, i * 2, none⟩ = false ∧ w.frozen? ⟨g, i * 2 + 1, none⟩ = false := by
  have hlt : i < us.length := (List.getElem?_eq_some_iff.1 hi).1
  obtain ⟨h1, h2⟩ := prC_at us i p hi
  rcases h.2 with ⟨hv, _⟩ | ⟨g', cap', cur, hv, hb, hg, r⟩
  · cases hv
  · cases hv
    refine ⟨?_, ?_, frozen_of_row _ _ _ _ _ hg, frozen_of_row _ _ _ _ _ hg⟩
    · rw [World.ownsRow.cellAt h (i * 2) (by omega)]
      exact h1
    · rw [World.ownsRow.cellAt h (i * 2 + 1) (by omega)]
      exact h2

end Go.Proofs.YtfeeafkfjngemaaDoor

/- A signature copied; rules of one's own whose rows may be new. -/
namespace Go.Proofs.YtfeeafkfjngemaaDoor
open Go.RowKit Go.Maps Go.BigFrame

theorem info_sym : (Tryd.prog.info? 48).map (fun i => (i.zero, i.size, i.bytes)) = some (some (.agg #[.string ByteArray.empty, .int .i64 0]), 2, 24) := by kernel_rfl
theorem under_syms : Tryd.prog.underlying 22 = some (.slice 48) := by kernel_rfl

def symV (s : Sy) : Value × Value := (.string s.1, .int .i64 s.2)

theorem empty_row2 {w : World} {base : Nat} (t : TypeId) (hb : base ≤ w.heap.size) : (w.alloc (.cells #[] t)).ownsRow base t 2 (.slice (some ⟨w.heap.size, 0, none⟩) 0 0) 0 [] := by
  refine ⟨rfl, .inr ⟨w.heap.size, 0, #[], rfl, hb, heap_alloc_new _ _, Nat.le_refl _, Nat.zero_le _, rfl, rfl⟩⟩

/-- A signature joined to an empty row of one's own. -/
theorem copy_sig (ty : TypeId) {w : World} {base : Nat} {v : Value} {so : Option Addr} {sc : Nat} {sig : List Sy} (ho : w.ownsRow base 48 2 v 0 []) (hs : Sg w (.slice so sig.length sc) sig) (hb : base ≤ w.heap.size) (hl : sig.length * 24 ≤ 140737488355328) :
    ∃ v' w', (Builtin.append_ #[22, 22] ty #[v, .slice so sig.length sc]).run Tryd.prog w = .ok v' w' ∧ Sg w' v' sig ∧ w.grownBy w' v.ownBlock := by
  obtain ⟨i0, hi, hz0, hz1, hz2⟩ := info_parts info_sym
  by_cases h0 : sig.length = 0
  · obtain rfl : sig = [] := List.eq_nil_of_length_eq_zero h0
    rcases ho.2 with ⟨rfl, _⟩ | ⟨g, cap, cur, rfl, _, _, _, hm, _⟩
    · refine ⟨_, w, run_append_nothing w 22 22 ty 48 i0 under_syms hi _ 0 _ (Nat.le_refl _) _ ?_, Row.nil (by simp [maxLen]), World.grownBy.refl _ _⟩
      cases so with
      | none => exact Src.ofNil w under_syms _
      | some a => exact Src.ofSlice w under_syms a 0 _ [] (by simp) (fun j u hj => (by simp at hj)) (fun u hu => (by simp at hu))
    · refine ⟨_, w, run_append_nothing w 22 22 ty 48 i0 under_syms hi _ 0 _ (Nat.zero_le _) _ ?_, Row.nil hm, World.grownBy.refl _ _⟩
      cases so with
      | none => exact Src.ofNil w under_syms _
      | some a => exact Src.ofSlice w under_syms a 0 _ [] (by simp) (fun j u hj => (by simp at hj)) (fun u hu => (by simp at hu))
  · have hs0 := hs
    obtain ⟨ao, cap, hv, hc, hm, hx⟩ := hs
    simp only [Value.slice.injEq] at hv
    obtain ⟨rfl, _, rfl⟩ := hv
    obtain ⟨g', off, rfl, hg, hcell⟩ := hx (by omega)
    obtain ⟨v', w', hr, h2, h3, _, _⟩ := run_append_own_at (P := Tryd.prog) w base 22 ty 48 i0 _ 2 24 under_syms hi hz0 hz1 hz2 rfl (by decide) _ 0 [] ho ⟨g', off, none⟩ sig.length sc (prC (sig.map symV)) (by rw [prC_len, List.length_map])
      (fun j u hj => by
        obtain ⟨p, hp, hj2⟩ := prC_get hj
        rw [List.getElem?_map] at hp
        cases hk : sig[j / 2]? with
        | none => rw [hk] at hp; simp at hp
        | some s =>
          rw [hk] at hp
          simp only [Option.map_some, Option.some.injEq] at hp
          subst hp
          obtain ⟨_, _, _, e4, e5⟩ := hcell _ s hk
          rw [Addr.add_lit]
          rcases hj2 with ⟨e, rfl⟩ | ⟨e, rfl⟩
          · rw [e]
            exact e4
          · rw [e, ← Nat.add_assoc]
            exact e5)
      (fun u hu => by
        obtain ⟨p, hp, hu2⟩ := prC_in hu
        obtain ⟨s, _, rfl⟩ := List.mem_map.1 hp
        rcases hu2 with rfl | rfl <;> rfl) (by unfold maxLen; omega) (by omega) hb
    refine ⟨v', w', hr, ?_, h3⟩
    rw [Nat.zero_add, List.nil_append] at h2
    rcases h2.2 with ⟨rfl, hn⟩ | ⟨g, cap2, cur, rfl, hbg, hgg, hcap, hm2, hs2, ht⟩
    · exact absurd hn h0
    · refine ⟨_, cap2, rfl, hcap, hm2, fun _ => ⟨g, 0, rfl, (Array.getElem?_eq_some_iff.1 hgg).1, fun k s hk => ?_⟩⟩
      have hlt : k < sig.length := (List.getElem?_eq_some_iff.1 hk).1
      obtain ⟨q1, q2⟩ := prC_at (sig.map symV) k (symV s) (by rw [List.getElem?_map, hk]; rfl)
      obtain ⟨e1, e2, e3, _, _⟩ := hcell k s hk
      refine ⟨e1, e2, e3, ?_, ?_⟩
      · rw [Nat.zero_add, World.ownsRow.cellAt h2 (k * 2) (by omega)]
        exact q1
      · rw [Nat.zero_add, World.ownsRow.cellAt h2 (k * 2 + 1) (by omega)]
        exact q2

/-- A row that is read, and lies in no block of X. -/
def IsX (X : Nat → Prop) (w : World) (v : Value) (xs : List Int) : Prop := Is w v xs ∧ ∀ g o n c, v = .slice (some ⟨g, o, none⟩) n c → 0 < n → ¬ X g

theorem IsX.keep {X : Nat → Prop} {w w' : World} {v : Value} {xs : List Int} (h : IsX X w v xs) (hs : w.heap.size ≤ w'.heap.size) (hk : ∀ g, ¬ X g → g < w.heap.size → w'.heap[g]? = w.heap[g]?) : IsX X w' v xs := by
  refine ⟨?_, h.2⟩
  obtain ⟨⟨ao, cap, rfl, h1, h2, h3⟩, hx⟩ := h
  refine ⟨ao, cap, rfl, h1, h2, fun h0 => ?_⟩
  obtain ⟨g, off, rfl, hg, hc⟩ := h3 h0
  have hng := hx g off _ _ rfl h0
  refine ⟨g, off, rfl, Nat.lt_of_lt_of_le hg hs, fun k x hxk => ?_⟩
  obtain ⟨e1, e2, e3⟩ := hc k x hxk
  exact ⟨e1, e2, (cell_block (hk g hng hg) _).trans e3⟩

theorem IsX.turn {X Y : Nat → Prop} {w : World} {v : Value} {xs : List Int} (h : IsX X w v xs) (hY : ∀ g, g < w.heap.size → Y g → X g) : IsX Y w v xs := by
  refine ⟨h.1, fun g o n c hv h0 hy => ?_⟩
  obtain ⟨⟨ao, cap, rfl, h1, h2, h3⟩, hx⟩ := h
  cases hv
  obtain ⟨g', off, e, hg, _⟩ := h3 h0
  cases e
  exact hx g o _ _ rfl h0 (hY g hg hy)

/-- What is not to be touched: the block t, and the row's own. -/
def TX (t : Nat) (v : Value) (g : Nat) : Prop := g = t ∨ v.ownBlock = some g

/-- Rules of one's own, above the block t; their rows lie elsewhere. -/
def KR (w : World) (t : Nat) (v : Value) (rs : List Rl) : Prop :=
  ∃ us : List (Value × Value), us.length = rs.length ∧ (∀ (i : Nat) (p : Value × Value) (r : Rl), us[i]? = some p → rs[i]? = some r → IsX (TX t v) w p.1 r.1 ∧ IsX (TX t v) w p.2 r.2 ∧ r.1.length * 8 ≤ 140737488351232 ∧ r.2.length * 8 ≤ 140737488351232) ∧ w.ownsRow (t + 1) 37 2 v rs.length (prC us)

theorem KR.nil (w : World) (t : Nat) : KR w t (.slice none 0 0) [] := ⟨[], rfl, fun i c m h => (by simp at h), World.ownsRow_nil _ _ _ _⟩

theorem KR.shape {w : World} {t : Nat} {v : Value} {rs : List Rl} (h : KR w t v rs) : ∃ ao cap, v = .slice ao rs.length cap ∧ rs.length ≤ cap ∧ cap ≤ maxLen := by
  obtain ⟨us, hl, hc, ho⟩ := h
  rcases ho.2 with ⟨rfl, hn⟩ | ⟨g, cap, cur, rfl, hb, hg, hc, hm, hs, ht⟩
  · exact ⟨none, 0, by rw [hn], by omega, by simp [maxLen]⟩
  · exact ⟨_, cap, rfl, hc, hm⟩

theorem KR.ru {w : World} {t : Nat} {v : Value} {rs : List Rl} (h : KR w t v rs) : RU w v rs := by
  obtain ⟨us, hl, hc, ho⟩ := h
  have ho2 := ho
  rcases ho2.2 with ⟨rfl, hn⟩ | ⟨g, cap, cur, rfl, hbg, hg, hcap, hm, hs, ht⟩
  · obtain rfl := List.eq_nil_of_length_eq_zero hn
    exact Row.nil (by simp [maxLen])
  · refine ⟨_, cap, rfl, hcap, hm, fun _ => ⟨g, 0, rfl, (Array.getElem?_eq_some_iff.1 hg).1, ?_⟩⟩
    intro k r hk
    have hlt : k < rs.length := (List.getElem?_eq_some_iff.1 hk).1
    have hck : us[k]? = some us[k] := List.getElem?_eq_getElem (by omega)
    obtain ⟨h1, h2⟩ := prC_at us k _ hck
    obtain ⟨o1, o2, o3, o4⟩ := hc k _ r hck hk
    refine ⟨o3, o4, us[k].1, us[k].2, ?_, ?_, o1.1, o2.1⟩
    · rw [Nat.zero_add, World.ownsRow.cellAt ho2 (k * 2) (by omega)]
      exact h1
    · rw [Nat.zero_add, World.ownsRow.cellAt ho2 (k * 2 + 1) (by omega)]
      exact h2

/-- Whatever does not touch the row and its rows. -/
theorem KR.keep {w w' : World} {t : Nat} {v : Value} {rs : List Rl} (h : KR w t v rs) (hs : w.heap.size ≤ w'.heap.size) (hk : ∀ g, g ≠ t → g < w.heap.size → w'.heap[g]? = w.heap[g]?) : KR w' t v rs := by
  obtain ⟨us, hl, hc, ho⟩ := h
  refine ⟨us, hl, fun i p r h1 h2 => ?_, ho.1, ?_⟩
  · obtain ⟨o1, o2, o3, o4⟩ := hc i p r h1 h2
    exact ⟨o1.keep hs (fun g hg hlt => hk g (fun e => hg (.inl e)) hlt), o2.keep hs (fun g hg hlt => hk g (fun e => hg (.inl e)) hlt), o3, o4⟩
  · rcases ho.2 with h | ⟨g, cap, cur, rfl, hb, hgg, r⟩
    · exact .inl h
    · exact .inr ⟨g, cap, cur, rfl, hb, (hk g (by omega) (Array.getElem?_eq_some_iff.1 hgg).1).trans hgg, r⟩

theorem KR.later {w w' : World} {t : Nat} {v : Value} {rs : List Rl} (h : KR w t v rs) (hb : Below w.heap.size w w') : KR w' t v rs :=
  h.keep hb.size (fun g _ hg => (grown_of_below hb none).block g hg (by simp))

/-- One rule joined. -/
theorem KR.join (ty : TypeId) {w : World} {t : Nat} {v : Value} {rs : List Rl} {p : Value × Value} {r : Rl} {g off c : Nat} (h : KR w t v rs) (ht : t < w.heap.size) (h1 : IsX (TX t v) w p.1 r.1) (h2 : IsX (TX t v) w p.2 r.2) (h3 : r.1.length * 8 ≤ 140737488351232) (h4 : r.2.length * 8 ≤ 140737488351232) (hc0 : w.cell? ⟨g, off, none⟩ = some p.1) (hc1 : w.cell? ⟨g, off + 1, none⟩ = some p.2) (hlen : (rs.length + 1) * 48 ≤ 140737488355328) :
    ∃ v' w', (Builtin.append_ #[23, 23] ty #[v, .slice (some ⟨g, off, none⟩) 1 c]).run Tryd.prog w = .ok v' w' ∧ KR w' t v' (rs ++ [r]) ∧ w.grownBy w' v.ownBlock := by
  obtain ⟨i1, hi1, hy0, hy1, hy2⟩ := info_parts info_rule
  obtain ⟨us, hl, hc, ho⟩ := h
  obtain ⟨v', w', hrun, g2, g3, _, g5⟩ := run_append_own_at (P := Tryd.prog) w (t + 1) 23 ty 37 i1 _ 2 48 under_rulesU hi1 hy0 hy1 hy2 rfl (by decide) v rs.length (prC us) ho ⟨g, off, none⟩ 1 c [p.1, p.2] rfl
    (fun j u hj => by
      rw [Addr.add_lit]
      match j, hj with
      | 0, hj => simp at hj; subst hj; exact hc0
      | 1, hj => simp at hj; subst hj; exact hc1
      | j + 2, hj => simp at hj)
    (fun u hu => by
      simp only [List.mem_cons, List.not_mem_nil, or_false] at hu
      rcases hu with rfl | rfl
      · exact is_one h1.1
      · exact is_one h2.1) (by unfold maxLen; omega) (by omega) ht
  have hX : ∀ {u : Value} {xs : List Int}, IsX (TX t v) w u xs → IsX (TX t v') w' u xs := fun {u xs} hu => by
    refine (hu.turn (Y := fun g => TX t v g ∨ TX t v' g) (fun g hg hy => ?_)).keep g3.size (fun g hg hlt => g3.block g hlt (fun e => hg (.inl (.inr e.symm)))) |>.turn (fun g _ hy => .inr hy)
    rcases hy with hy | hy | hy
    · exact hy
    · exact .inl hy
    · rcases g5 with g5 | g5
      · exact .inr (by rw [← g5]; exact hy)
      · rw [g5] at hy
        cases hy
        omega
  refine ⟨v', w', hrun, ⟨us ++ [p], by rw [List.length_append, List.length_append, hl]; rfl, fun i q x h7 h8 => ?_, ?_⟩, g3⟩
  · by_cases hi : i < us.length
    · rw [List.getElem?_append_left hi] at h7
      rw [List.getElem?_append_left (by omega)] at h8
      obtain ⟨o1, o2, o3, o4⟩ := hc i q x h7 h8
      exact ⟨hX o1, hX o2, o3, o4⟩
    · rw [List.getElem?_append_right (by omega)] at h7
      rw [List.getElem?_append_right (by omega), ← hl] at h8
      have hi : i - us.length = 0 := by
        have := (List.getElem?_eq_some_iff.1 h7).1
        simp at this
        omega
      rw [hi] at h7 h8
      simp at h7 h8
      subst h7
      subst h8
      exact ⟨hX h1, hX h2, h3, h4⟩
  · rw [List.length_append, prC_app]
    exact g2

theorem is_slice {w : World} {v : Value} {xs : List Int} (h : Is w v xs) : ∃ x n c, v = .slice x n c := by
  obtain ⟨a, c, e, _⟩ := h
  exact ⟨a, _, c, e⟩

/-- Two rules change their places. -/
theorem KR.swap {w : World} {t g cap : Nat} {rs : List Rl} (h : KR w t (.slice (some ⟨g, 0, none⟩) rs.length cap) rs) {i j : Nat} (hi : i < rs.length) (hj : j < rs.length) :
    ∃ p q : Value × Value, (w.cell? ⟨g, i * 2, none⟩ = some p.1 ∧ w.cell? ⟨g, i * 2 + 1, none⟩ = some p.2 ∧ w.frozen? ⟨g, i * 2, none⟩ = false ∧ w.frozen? ⟨g, i * 2 + 1, none⟩ = false) ∧ (w.cell? ⟨g, j * 2, none⟩ = some q.1 ∧ w.cell? ⟨g, j * 2 + 1, none⟩ = some q.2 ∧ w.frozen? ⟨g, j * 2, none⟩ = false ∧ w.frozen? ⟨g, j * 2 + 1, none⟩ = false) ∧ t < g ∧
      ((∃ x n c, p.1 = .slice x n c) ∧ (∃ x n c, p.2 = .slice x n c) ∧ (∃ x n c, q.1 = .slice x n c) ∧ ∃ x n c, q.2 = .slice x n c) ∧
      ∀ X : World, ((((w.setCell ⟨g, i * 2, none⟩ q.1).setCell ⟨g, i * 2 + 1, none⟩ q.2).setCell ⟨g, j * 2, none⟩ p.1).setCell ⟨g, j * 2 + 1, none⟩ p.2).drew = X → KR X t (.slice (some ⟨g, 0, none⟩) rs.length cap) ((rs.set i rs[j]).set j rs[i]) ∧ X.heap[t]? = w.heap[t]? ∧ X.heap.size = w.heap.size ∧ ∀ b w0, b ≤ t → Below b w0 w → Below b w0 X := by
  obtain ⟨us, hl, hc, ho⟩ := h
  have hui : us[i]? = some us[i] := List.getElem?_eq_getElem (by omega)
  have huj : us[j]? = some us[j] := List.getElem?_eq_getElem (by omega)
  have htg : t < g := own_ge ho
  have ri := hc i _ _ hui (List.getElem?_eq_getElem hi)
  have rj := hc j _ _ huj (List.getElem?_eq_getElem hj)
  refine ⟨us[i], us[j], own_cells2 ho hl hui, own_cells2 ho hl huj, htg, ⟨is_slice ri.1.1, is_slice ri.2.1.1, is_slice rj.1.1, is_slice rj.2.1.1⟩, fun X hX => ?_⟩
  obtain ⟨x1, x2, x3, x4⟩ := own_swap2 ho hX
  refine ⟨⟨(us.set i us[j]).set j us[i], by simp [hl], fun k p r h1 h2 => ?_, ?_⟩, x3 t (by omega), x2, fun b w0 hb hw => x4 b w0 (by omega) hw⟩
  · have hk : ∀ {u : Value} {xs : List Int}, IsX (TX t (.slice (some ⟨g, 0, none⟩) rs.length cap)) w u xs → IsX (TX t (.slice (some ⟨g, 0, none⟩) rs.length cap)) X u xs := fun {u xs} hu => hu.keep (by omega) (fun k hk _ => x3 k (fun e => hk (.inr (by rw [e]; rfl))))
    rw [List.getElem?_set] at h1 h2
    rw [List.length_set] at h1 h2
    by_cases e1 : j = k
    · rw [if_pos e1, if_pos (by omega)] at h1 h2
      cases h1
      cases h2
      exact ⟨hk ri.1, hk ri.2.1, ri.2.2⟩
    · rw [if_neg e1, List.getElem?_set] at h1 h2
      by_cases e2 : i = k
      · rw [if_pos e2, if_pos (by omega)] at h1 h2
        cases h1
        cases h2
        exact ⟨hk rj.1, hk rj.2.1, rj.2.2⟩
      · rw [if_neg e2] at h1 h2
        obtain ⟨o1, o2, o3⟩ := hc k p r h1 h2
        exact ⟨hk o1, hk o2, o3⟩
  · rw [List.length_set, List.length_set]
    exact x1

theorem swap_perm {α : Type} {l : List α} {i j : Nat} (hi : i < l.length) (hj : j < l.length) : ((l.set i l[j]).set j l[i]).Perm l := by
  have h := List.set_set_perm hi hj
  exact h

theorem KR.own {w : World} {t : Nat} {v : Value} {rs : List Rl} (h : KR w t v rs) {j : Nat} (hj : v.ownBlock = some j) : t < j ∧ j < w.heap.size := by
  obtain ⟨us, hl, hc, ho⟩ := h
  exact ⟨own_blk ho hj, own_blk_lt ho hj⟩

theorem isx_new {w w' : World} {t : Nat} {v u : Value} {xs : List Int} (ho : OwI w' w.heap.size u xs) (ht : t < w.heap.size) (hv : ∀ j, v.ownBlock = some j → j < w.heap.size) : IsX (TX t v) w' u xs := by
  refine ⟨ho.is, fun g o n c hu _ hx => ?_⟩
  have hg := own_blk ho.2 (j := g) (by rw [hu]; rfl)
  rcases hx with e | e
  · omega
  · have := hv g e; omega

theorem isx_old {w3 w : World} {v u : Value} {xs : List Int} (hi : Is w3 u xs) (hb : Below w3.heap.size w3 w) (hv : ∀ j, v.ownBlock = some j → w3.heap.size < j) : IsX (TX w3.heap.size v) w u xs := by
  refine ⟨hi.kp (Kp.of_below hb), fun g o n c hu h0 hx => ?_⟩
  obtain ⟨ao, cap, rfl, h1, h2, h3⟩ := hi
  cases hu
  obtain ⟨g', off, e, hg, _⟩ := h3 h0
  cases e
  rcases hx with e | e
  · omega
  · have := hv g e; omega

theorem IsX.later {X : Nat → Prop} {w w' : World} {v : Value} {xs : List Int} (h : IsX X w v xs) (hb : Below w.heap.size w w') : IsX X w' v xs :=
  h.keep hb.size (fun g _ hg => (grown_of_below hb none).block g hg (by simp))

/-- A rule joined to the rules of a system in the block t. -/
theorem kinds_join {w3 wr w6 : World} {sg rv : Value} {p : Value × Value} {rs : List Rl} {r : Rl} (hbt : wr.heap[w3.heap.size]? = some (.cells #[sg, rv] 25)) (hk : KR wr w3.heap.size rv rs) (hb3 : Below w3.heap.size w3 wr) (hb : Below wr.heap.size wr w6) (h1 : IsX (TX w3.heap.size rv) w6 p.1 r.1) (h2 : IsX (TX w3.heap.size rv) w6 p.2 r.2) (h3 : r.1.length * 8 ≤ 140737488351232) (h4 : r.2.length * 8 ≤ 140737488351232) (hl : rs.length ≤ 1000) :
    ∃ v7 w7, (Builtin.append_ #[23, 23] 23 #[rv, .slice (some ⟨w6.heap.size, 0, none⟩) 1 1]).run Tryd.prog (w6.alloc (.cells #[p.1, p.2] 37)) = .ok v7 w7 ∧ w6.cell? ⟨w3.heap.size, 1, none⟩ = some rv ∧ w7.cell? ⟨w3.heap.size, 1, none⟩ = some rv ∧ w7.frozen? ⟨w3.heap.size, 1, none⟩ = false ∧
      (w7.setCell ⟨w3.heap.size, 1, none⟩ v7).heap[w3.heap.size]? = some (.cells #[sg, v7] 25) ∧ KR (w7.setCell ⟨w3.heap.size, 1, none⟩ v7) w3.heap.size v7 (rs ++ [r]) ∧ Below w3.heap.size w3 (w7.setCell ⟨w3.heap.size, 1, none⟩ v7) := by
  have ht : w3.heap.size < wr.heap.size := (Array.getElem?_eq_some_iff.1 hbt).1
  have ha : Below w6.heap.size w6 (w6.alloc (.cells #[p.1, p.2] 37)) := below_alloc _
  have hba := below_step hb ha
  obtain ⟨v7, w7, hr, hk7, hg7⟩ := KR.join 23 (p := p) (r := r) (c := 1) (g := w6.heap.size) (off := 0) (hk.later hba) (Nat.lt_of_lt_of_le ht hba.size) (h1.later ha) (h2.later ha) h3 h4 (cell_new rfl) (cell_new rfl) (by omega)
  have e6 : w6.heap[w3.heap.size]? = some (.cells #[sg, rv] 25) := ((grown_of_below hb none).block _ ht (by simp)).trans hbt
  have eA : (w6.alloc (.cells #[p.1, p.2] 37)).heap[w3.heap.size]? = some (.cells #[sg, rv] 25) := ((grown_of_below hba none).block _ ht (by simp)).trans hbt
  have e7 : w7.heap[w3.heap.size]? = some (.cells #[sg, rv] 25) := (hg7.block _ (Nat.lt_of_lt_of_le ht hba.size) (fun e => by have := (hk.own e.symm).1; omega)).trans eA
  have hB7 : Below w3.heap.size w3 w7 := (below_step hb3 hba).grown hg7 (below_step hb3 hba).size (fun j hj => by have := (hk.own hj).1; omega)
  refine ⟨v7, w7, hr, cell_of_row _ _ _ _ _ _ e6, cell_of_row _ _ _ _ _ _ e7, frozen_of_row _ _ _ _ _ e7, ?_, ?_, hB7.setCell (p := ⟨w3.heap.size, 1, none⟩) (Nat.le_refl _) _⟩
  · exact heap_setCell_same _ _ _ _ _ _ e7
  · exact hk7.keep (by simp) (fun g hg _ => heap_setCell_other _ _ _ _ hg)

/-- Rules but the first. -/
theorem RU.tail {w : World} {g off n cap : Nat} {r : Rl} {rs : List Rl} (h : RU w (.slice (some ⟨g, off, none⟩) n cap) (r :: rs)) : RU w (.slice (some ⟨g, off + 2, none⟩) rs.length (cap - 1)) rs := by
  obtain ⟨ao, c, hv, h1, h2, h3⟩ := h
  simp only [Value.slice.injEq] at hv
  obtain ⟨rfl, hn, rfl⟩ := hv
  rw [List.length_cons] at h1
  refine ⟨_, _, rfl, by omega, by omega, fun _ => ?_⟩
  obtain ⟨g', off', e, hg, hc⟩ := h3 (by simp)
  cases e
  refine ⟨g, off + 2, rfl, hg, fun k x hk => ?_⟩
  have h9 := hc (k + 1) x (by simpa using hk)
  rw [show off + (k + 1) * 2 = off + 2 + k * 2 by omega] at h9
  exact h9

end Go.Proofs.YtfeeafkfjngemaaDoor
