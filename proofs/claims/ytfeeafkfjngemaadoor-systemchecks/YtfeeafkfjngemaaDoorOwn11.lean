/- Texts of the proof, one behind the other. -/
import Derived.Test.YtfeeafkfjngemaaDoorOwn10
import Derived.Test.YtfeeafkfjngemaaDoorOwn3
import Derived.Test.YtfeeafkfjngemaaDoorOwn6
import Derived.Test.YtfeeafkfjngemaaDoorOwn9
/- The examples of layer 7 come out true. -/
namespace Go.Proofs.YtfeeafkfjngemaaDoor
open Go.RowKit Go.Maps Go.BigFrame

/-- The world behind the store of a new right side. -/
theorem store_world {W X : World} {B : Nat} {v1 v2 v3 v4 : Value} (hR : W.heap[B + 6]? = some (.cells #[v1, v2, v3, v4] 37)) (hX : X = (W.setCell ⟨B + 6, 1, none⟩ (.slice (some ⟨W.heap.size, 0, none⟩) 1 1)).alloc (.cells #[.int .i64 (-3)] 3)) :
    Exc W X (B + 6) ∧ X.heap[B + 6]? = some (.cells #[v1, .slice (some ⟨W.heap.size, 0, none⟩) 1 1, v3, v4] 37) ∧ Is X (.slice (some ⟨W.heap.size, 0, none⟩) 1 1) [-3] ∧ ∀ b w0, b ≤ B + 6 → Below b w0 W → Below b w0 X := by
  have hlt : B + 6 < W.heap.size := (Array.getElem?_eq_some_iff.1 hR).1
  have ha : ∀ g, g < W.heap.size → X.heap[g]? = (W.setCell ⟨B + 6, 1, none⟩ (.slice (some ⟨W.heap.size, 0, none⟩) 1 1)).heap[g]? := fun g hg => by
    rw [hX]
    exact (grown_of_below (below_alloc _) none).block _ (by simpa using hg) (by simp)
  refine ⟨⟨by rw [hX]; simp, fun g hne hg => ?_⟩, ?_, ?_, fun b w0 hle hb => ?_⟩
  · rw [ha g hg, heap_setCell_other _ _ _ _ hne]
  · rw [ha _ hlt]
    exact heap_setCell_same _ _ _ _ _ _ hR
  · refine is_lit (p := [-3]) (by rw [hX]; simp) (by decide) ⟨ei (by omega) (by omega) ?_, trivial⟩
    rw [hX]
    exact cell_newg (by simp) rfl
  · rw [hX]
    have h1 := hb.setCell (p := ⟨B + 6, 1, none⟩) hle (.slice (some ⟨W.heap.size, 0, none⟩) 1 1)
    exact h1.grown (grown_of_below (below_alloc _) none) (by simp; omega) (fun j hj => by cases hj)

set_option maxRecDepth 100000 in
set_option maxHeartbeats 3200000 in
theorem shown7_any (w : World) (hT : Tabs w) :
    Calls Tryd.prog 5 #[] w fun e w' => e = .returned (.bool true) ∧ Below w.heap.size w w' := by
  have HT := hid hT
  clear hT
  go_enter Tryd.func5, Tryd.ntmps5
  go_wp2_with fail
  refine (adds_any w).mono ?_
  rintro e w1 ⟨rfl, hA1, hR1, hs1, hb1⟩
  obtain ⟨W1, hW1⟩ : ∃ X, X = w1.alloc (.cells #[.slice (some ⟨w.heap.size + 1, 0, none⟩) 3 3, .slice (some ⟨w.heap.size + 6, 0, none⟩) 2 2] 25) := ⟨_, rfl⟩
  have C1 : Hid (Below w.heap.size w W1) := by rw [hW1]; exact below_step hb1 (below_alloc _)
  have HS1 : Hid (∀ W, Below W1.heap.size W1 W → (W.cell? ⟨w1.heap.size, 0, none⟩ = some (.slice (some ⟨w.heap.size + 1, 0, none⟩) 3 3) ∧ W.cell? ⟨w1.heap.size, 1, none⟩ = some (.slice (some ⟨w.heap.size + 6, 0, none⟩) 2 2)) ∧ Sg W (.slice (some ⟨w.heap.size + 1, 0, none⟩) 3 3) sumS ∧ RU W (.slice (some ⟨w.heap.size + 6, 0, none⟩) 2 2) [addR0, addR1]) := fun W hW => by
    have hk := Kp.of_below hW
    rw [hW1] at hk
    have hk1 := (Kp.of_below (below_alloc (w := w1) (.cells #[.slice (some ⟨w.heap.size + 1, 0, none⟩) 3 3, .slice (some ⟨w.heap.size + 6, 0, none⟩) 2 2] 25))).trans hk
    exact ⟨⟨hk.cell _ _ (cell_new rfl), hk.cell _ _ (cell_new rfl)⟩, hA1.sig.kp hk1, (adds_ru hA1 hR1).kp hk1⟩
  clear hA1 hR1 hs1 hb1
  go_wp2_with fail
  rw [← hW1]
  clear hW1
  obtain ⟨⟨x0, x1⟩, i0, i1⟩ := HS1.out W1 (Below.refl _ _)
  have I0 := hid i0
  have I1 := hid i1
  clear i0 i1
  go_wp2_with fail
  refine (sysCheck_any _ _ sumS [addR0, addR1] W1 I0.out I1.out (HT.out.below C1.out)).mono ?_
  rintro e w2 ⟨rfl, hb2⟩
  rw [sh7_check]
  have C2 := hid (below_step C1.out hb2)
  have D2 := hid hb2
  clear hb2 x0 x1 I0 I1
  obtain ⟨⟨x0, x1⟩, i0, i1⟩ := HS1.out w2 D2.out
  have I0 := hid i0
  have I1 := hid i1
  clear i0 i1
  go_wp2_with fail
  refine (defined_any _ _ sumS [addR0, addR1] w2 I0.out I1.out (HT.out.below C2.out)).mono ?_
  rintro e w3 ⟨v3, rfl, hi3, hb3⟩
  rw [sh7_defined] at hi3
  have C3 := hid (below_step C2.out hb3)
  have D3 := hid (below_step D2.out hb3)
  obtain ⟨a3, c3, rfl, _, _, _⟩ := hi3.flatI
  obtain ⟨g3, o3, y3, rfl, hy3, hc3, _, _⟩ := hi3.at (k := 0) (by decide)
  cases hy3
  have HD3 := hid hc3
  clear hb3 x0 x1 I0 I1 hi3 hc3
  go_wp2_with fail
  refine (adds_any w3).mono ?_
  rintro e w4 ⟨rfl, hA4, hR4, hs4, hb4⟩
  obtain ⟨W4, hW4⟩ : ∃ X, X = w4.alloc (.cells #[.slice (some ⟨w3.heap.size + 1, 0, none⟩) 3 3, .slice (some ⟨w3.heap.size + 6, 0, none⟩) 2 2] 25) := ⟨_, rfl⟩
  have b4 : Hid (Below w3.heap.size w3 W4) := by rw [hW4]; exact below_step hb4 (below_alloc _)
  have kA : Kp w4 W4 := by rw [hW4]; exact Kp.of_below (below_alloc _)
  have HA4 := hid (hA4.kp kA)
  have z0 : W4.cell? ⟨w4.heap.size, 0, none⟩ = some (.slice (some ⟨w3.heap.size + 1, 0, none⟩) 3 3) := by rw [hW4]; exact cell_new rfl
  have z1 : W4.cell? ⟨w4.heap.size, 1, none⟩ = some (.slice (some ⟨w3.heap.size + 6, 0, none⟩) 2 2) := by rw [hW4]; exact cell_new rfl
  obtain ⟨r0, r1, r2, r3⟩ := hR4.cells
  have q0 := kA.cell _ _ r0
  have q1 := kA.cell _ _ r1
  have q2 := kA.cell _ _ r2
  have q3 := kA.cell _ _ r3
  have hR4' : AddsR W4 w3.heap.size := by
    rw [hW4]
    exact ((grown_of_below (below_alloc _) none).block _ (by omega) (by simp)).trans hR4
  have HR4 := hid hR4'
  have z4 : W4.frozen? ⟨w3.heap.size + 6, 0, none⟩ = false := frozen_of_row _ _ _ _ _ hR4'
  have z5 : W4.frozen? ⟨w3.heap.size + 6, 1, none⟩ = false := frozen_of_row _ _ _ _ _ hR4'
  have z6 : W4.frozen? ⟨w3.heap.size + 6, 2, none⟩ = false := frozen_of_row _ _ _ _ _ hR4'
  have z7 : W4.frozen? ⟨w3.heap.size + 6, 3, none⟩ = false := frozen_of_row _ _ _ _ _ hR4'
  have hlt4 : w3.heap.size + 6 < w4.heap.size := by omega
  have hne4 : w3.heap.size + 6 ≠ w4.heap.size := by omega
  clear hA4 hR4 hR4' hs4 hb4 kA r0 r1 r2 r3
  go_wp2_with fail
  rw [← hW4]
  clear hW4
  go_region
  generalize hX : World.drew _ = W5
  obtain ⟨hx5, hr5, hbx⟩ := swap_world HR4.out hX
  clear hX
  have D5 := hid (hbx _ _ (by omega) b4.out)
  have A5 := hid (HA4.out.exc hx5 (.inr (Nat.le_refl _)))
  have z0' := hx5.cell (fun e => hne4 e.symm) z0
  have z1' := hx5.cell (fun e => hne4 e.symm) z1
  clear z0 z1 z4 z5 z6 z7 q0 q1 q2 q3 HR4 HA4 hbx hx5
  have RU5 : Hid (RU W5 (.slice (some ⟨w3.heap.size + 6, 0, none⟩) 2 2) [addR1, addR0]) := ru_lit2 (cell_of_row _ _ _ _ _ _ hr5) (cell_of_row _ _ _ _ _ _ hr5) (cell_of_row _ _ _ _ _ _ hr5) (cell_of_row _ _ _ _ _ _ hr5) A5.out.l1 A5.out.r1 A5.out.l0 A5.out.r0 (by decide) (by decide) (by decide) (by decide)
  have HR5 := hid hr5
  have C5 := hid (below_step C3.out D5.out)
  have E5 := hid (below_step D3.out D5.out)
  obtain ⟨⟨x0, x1⟩, i0, i1⟩ := HS1.out W5 E5.out
  have I0 := hid i0
  have I1 := hid i1
  have Z0 := hid z0'
  have Z1 := hid z1'
  have H4 := hid hlt4
  have hlw : w4.heap.size < W5.heap.size := World.block_lt_of_cell? _ _ z0'
  have HLw := hid hlw
  clear i0 i1 hr5 hlt4 hne4 hlw
  go_wp2_with fail
  refine (sysSame_any _ _ _ _ sumS sumS [addR0, addR1] [addR1, addR0] W5 I0.out I1.out A5.out.sig RU5.out (HT.out.below C5.out)).mono ?_
  rintro e w6 ⟨rfl, hb6⟩
  rw [sh7_same]
  have C6 := hid (below_step C5.out hb6)
  have E6 := hid (below_step E5.out hb6)
  have A6 := hid (A5.out.kp (Kp.of_below hb6))
  have hr6 : w6.heap[w3.heap.size + 6]? = _ := ((grown_of_below hb6 none).block _ (by have := H4.out; have := HLw.out; omega) (by simp)).trans HR5.out
  have y0 := (Kp.of_below hb6).cell _ _ Z0.out
  have y1 := (Kp.of_below hb6).cell _ _ Z1.out
  have f1 : w6.frozen? ⟨w3.heap.size + 6, 1, none⟩ = false := frozen_of_row _ _ _ _ _ hr6
  have q1 : w6.cell? ⟨w3.heap.size + 6, 1, none⟩ = some (.slice (some ⟨w3.heap.size + 5, 0, none⟩) 4 4) := cell_of_row _ _ _ _ _ _ hr6
  have hlt6 : w3.heap.size + 6 < w6.heap.size := (Array.getElem?_eq_some_iff.1 hr6).1
  have HR6 := hid hr6
  have D6 := hid (below_step D5.out hb6)
  clear hb6 x0 x1 I0 I1 z0' z1' Z0 Z1 RU5 HR5 A5
  obtain ⟨W7, hW7⟩ : ∃ X, X = (w6.setCell ⟨w3.heap.size + 6, 1, none⟩ (.slice (some ⟨w6.heap.size, 0, none⟩) 1 1)).alloc (.cells #[.int .i64 (-3)] 3) := ⟨_, rfl⟩
  obtain ⟨hx7, hr7, hi7, hbx7⟩ := store_world hr6 hW7
  have hne4 : w4.heap.size ≠ w3.heap.size + 6 := by have := H4.out; omega
  have y0' := hx7.cell hne4 y0
  have y1' := hx7.cell hne4 y1
  have A7 := hid (A6.out.exc hx7 (.inr (Nat.le_refl _)))
  have D7 := hid (hbx7 _ _ (by omega) D6.out)
  have RU7 : Hid (RU W7 (.slice (some ⟨w3.heap.size + 6, 0, none⟩) 2 2) [addR2, addR0]) := ru_lit2 (cell_of_row _ _ _ _ _ _ hr7) (cell_of_row _ _ _ _ _ _ hr7) (cell_of_row _ _ _ _ _ _ hr7) (cell_of_row _ _ _ _ _ _ hr7) A7.out.l1 hi7 A7.out.l0 A7.out.r0 (by decide) (by decide) (by decide) (by decide)
  have Y0 := hid y0'
  have Y1 := hid y1'
  rw [hW7] at y0' y1'
  clear hx7 hr7 hi7 hbx7 hr6 hne4 HR6 A6
  go_wp2_with fail
  rw [← hW7]
  clear hW7 y0 y1 y0' y1' q1 f1
  have C7 := hid (below_step C3.out D7.out)
  have E7 := hid (below_step D3.out D7.out)
  refine (sysCheck_any _ _ sumS [addR2, addR0] W7 A7.out.sig RU7.out (HT.out.below C7.out)).mono ?_
  rintro e w8 ⟨rfl, hb8⟩
  rw [sh7_bad]
  have C8 := hid (below_step C7.out hb8)
  have E8 := hid (below_step E7.out hb8)
  have y0 := (Kp.of_below hb8).cell _ _ Y0.out
  have y1 := (Kp.of_below hb8).cell _ _ Y1.out
  have A8 := hid (A7.out.sig.kp (Kp.of_below hb8))
  have RU8 := hid (RU7.out.kp (Kp.of_below hb8))
  obtain ⟨⟨x0, x1⟩, i0, i1⟩ := HS1.out w8 E8.out
  have I0 := hid i0
  have I1 := hid i1
  have D8 := hid (below_step D7.out hb8)
  clear hb8 i0 i1 RU7 A7
  go_wp2_with fail
  refine (sysSame_any _ _ _ _ sumS sumS [addR0, addR1] [addR2, addR0] w8 I0.out I1.out A8.out RU8.out (HT.out.below C8.out)).mono ?_
  rintro e w9 ⟨rfl, hb9⟩
  rw [sh7_other]
  have C9 := hid (below_step C8.out hb9)
  have hc9 := (Kp.of_below (below_step D8.out hb9)).cell _ _ HD3.out
  rw [Nat.add_zero] at hc9
  clear hb9 x0 x1 y0 y1 I0 I1
  go_wp2
  go_ret
  exact ⟨rfl, C9.out⟩

end Go.Proofs.YtfeeafkfjngemaaDoor

/- Rows that rise, plainly. -/
namespace Go.Proofs.YtfeeafkfjngemaaDoor
open Go.RowKit Go.Maps

theorem rise_eq : ∀ {a b : List Int}, a.Pairwise (· < ·) → b.Pairwise (· < ·) → (∀ x, x ∈ a ↔ x ∈ b) → a = b
  | [], [], _, _, _ => rfl
  | [], y :: b, _, _, h => absurd ((h y).2 (by simp)) (by simp)
  | x :: a, [], _, _, h => absurd ((h x).1 (by simp)) (by simp)
  | x :: a, y :: b, ha, hb, h => by
    rw [List.pairwise_cons] at ha hb
    have hxy : x = y := by
      rcases List.mem_cons.1 ((h x).1 (by simp)) with e | e
      · exact e
      · rcases List.mem_cons.1 ((h y).2 (by simp)) with e2 | e2
        · exact e2.symm
        · have := hb.1 x e
          have := ha.1 y e2
          omega
    subst hxy
    rw [rise_eq ha.2 hb.2 fun z => ?_]
    constructor
    · intro hz
      rcases List.mem_cons.1 ((h z).1 (by simp [hz])) with e | e
      · have := ha.1 z hz; omega
      · exact e
    · intro hz
      rcases List.mem_cons.1 ((h z).2 (by simp [hz])) with e | e
      · have := hb.1 z hz; omega
      · exact e

theorem sortI_rise {xs : List Int} (h : xs.Nodup) : (sortI xs).Pairwise (· < ·) := by
  have h1 : (sortI xs).Pairwise (fun a b => decide (a ≤ b) = true) := List.pairwise_mergeSort (fun a b c => by simp; omega) (fun a b => by simp; omega) xs
  have h2 : (sortI xs).Nodup := (List.mergeSort_perm xs _).symm.nodup h
  refine (h1.and h2).imp ?_
  rintro a b ⟨h3, h4⟩
  have h5 : a ≤ b := by simpa using h3
  have h6 : a ≠ b := h4
  omega

theorem vars_once (t : List Int) : (varsL t).Nodup := by
  unfold varsL
  refine List.Pairwise.map _ ?_ (met_once t [] (by simp))
  intro a b hab e
  omega

/-- The least of those that are later. -/
theorem sel_next {S : List Int} (h : S.Pairwise (· < ·)) {k : Nat} {s : Int} (hs : S[k]? = some s) : (∀ j y, j + 1 = k → S[j]? = some y → y < s) ∧ ∀ x ∈ S, (∀ j y, j + 1 = k → S[j]? = some y → y < x) → s ≤ x := by
  have hlt : ∀ (i j : Nat) (a b : Int), S[i]? = some a → S[j]? = some b → i < j → a < b := fun i j a b ha hb hij => by
    obtain ⟨h1, rfl⟩ := List.getElem?_eq_some_iff.1 ha
    obtain ⟨h2, rfl⟩ := List.getElem?_eq_some_iff.1 hb
    exact (List.pairwise_iff_getElem.1 h) i j h1 h2 hij
  refine ⟨fun j y hj hy => hlt j k y s hy hs (by omega), fun x hx hl => ?_⟩
  obtain ⟨m, hm⟩ := List.getElem?_of_mem hx
  rcases Nat.lt_trichotomy m k with h1 | h1 | h1
  · obtain ⟨j, rfl⟩ : ∃ j, k = j + 1 := ⟨k - 1, by omega⟩
    have hj : j < S.length := by have := (List.getElem?_eq_some_iff.1 hs).1; omega
    have h2 := hl j S[j] rfl (List.getElem?_eq_getElem hj)
    rcases Nat.lt_or_ge m j with h3 | h3
    · have := hlt m j x S[j] hm (List.getElem?_eq_getElem hj) h3
      omega
    · obtain rfl : m = j := by omega
      rw [List.getElem?_eq_getElem hj] at hm
      simp at hm
      omega
  · subst h1
    rw [hs] at hm
    simp at hm
    omega
  · exact Int.le_of_lt (hlt k m s x hs hm h1)

end Go.Proofs.YtfeeafkfjngemaaDoor

/- The document's Defined of layer 7, and sameInts of the laws. -/
namespace Go.Proofs.YtfeeafkfjngemaaDoor
open Go.RowKit Go.Maps Go.BigFrame

theorem sortI_up (xs : List Int) : (sortI xs).Pairwise (· ≤ ·) := by
  have h1 : (sortI xs).Pairwise (fun a b => decide (a ≤ b) = true) := List.pairwise_mergeSort (fun a b c => by simp; omega) (fun a b => by simp; omega) xs
  exact h1.imp fun h => by simpa using h

theorem comp_upto {d : List Int} (hd : d.Pairwise (· ≤ ·)) : ∀ m, m ≤ d.length → (Lib.compactUpTo d.toArray m).Pairwise (· < ·) ∧ (∀ x, x ∈ Lib.compactUpTo d.toArray m ↔ x ∈ d.take m)
  | 0, _ => by simp [Lib.compactUpTo]
  | m + 1, hm => by
    obtain ⟨h1, h2⟩ := comp_upto hd m (by omega)
    have hg : ∀ j, j < d.length → d.toArray[j]! = d[j]! := fun j hj => by rw [getElem!_pos d.toArray j (by simpa using hj), getElem!_pos d j hj]; simp
    have hle : ∀ i j, i ≤ j → j < d.length → d[i]! ≤ d[j]! := fun i j hij hj => by
      rw [getElem!_pos d i (by omega), getElem!_pos d j hj]
      rcases Nat.lt_or_eq_of_le hij with h | h
      · exact (List.pairwise_iff_getElem.1 hd) i j (by omega) hj h
      · subst h; exact Int.le_refl _
    have htk : ∀ x, x ∈ d.take m → ∃ i, i < m ∧ x = d[i]! := fun x hx => by
      obtain ⟨i, hi⟩ := List.getElem?_of_mem hx
      obtain ⟨hi1, hi2⟩ := List.getElem?_eq_some_iff.1 hi
      rw [List.length_take] at hi1
      rw [List.getElem_take] at hi2
      exact ⟨i, by omega, by rw [getElem!_pos d i (by omega), hi2]⟩
    have hst : d.take (m + 1) = d.take m ++ [d[m]!] := by
      rw [getElem!_pos d m (by omega)]; exact (List.take_append_getElem (by omega)).symm
    rw [Lib.compactUpTo_succ]
    by_cases hk : Lib.keeps d.toArray m = true
    · rw [if_pos hk, hst, hg m (by omega)]
      refine ⟨?_, fun x => ?_⟩
      · rw [List.pairwise_append]
        refine ⟨h1, by simp, fun a ha b hb => ?_⟩
        obtain ⟨i, hi, rfl⟩ := htk a ((h2 a).1 ha)
        simp only [List.mem_cons, List.not_mem_nil, or_false] at hb
        subst hb
        unfold Lib.keeps at hk
        rw [decide_eq_true_eq] at hk
        rcases hk with hk | hk
        · omega
        · rw [hg m (by omega), hg (m - 1) (by omega)] at hk
          have e1 := hle i (m - 1) (by omega) (by omega)
          have e2 := hle (m - 1) m (by omega) (by omega)
          omega
      · rw [List.mem_append, List.mem_append, h2]
    · rw [if_neg hk, List.append_nil, hst]
      refine ⟨h1, fun x => ?_⟩
      rw [h2, List.mem_append]
      refine ⟨.inl, fun hx => hx.elim id fun hx => ?_⟩
      simp only [List.mem_cons, List.not_mem_nil, or_false] at hx
      subst hx
      have hk2 : ¬ (m = 0 ∨ d.toArray[m]! ≠ d.toArray[m - 1]!) := fun h => hk (by unfold Lib.keeps; exact decide_eq_true h)
      rw [hg m (by omega), hg (m - 1) (by omega)] at hk2
      have hm0 : m ≠ 0 := fun h => hk2 (.inl h)
      have he : d[m]! = d[m - 1]! := Classical.byContradiction fun h => hk2 (.inr h)
      rw [he, getElem!_pos d (m - 1) (by omega)]
      rw [List.mem_take_iff_getElem]
      exact ⟨m - 1, by omega, rfl⟩

theorem comp_rise {d : List Int} (hd : d.Pairwise (· ≤ ·)) : (Lib.compact d).Pairwise (· < ·) := (comp_upto hd d.length (Nat.le_refl _)).1

theorem comp_mem {d : List Int} (hd : d.Pairwise (· ≤ ·)) (x : Int) : x ∈ Lib.compact d ↔ x ∈ d := by
  have := (comp_upto hd d.length (Nat.le_refl _)).2 x
  rwa [List.take_length] at this

/-- The codes below n that are in a row. -/
def belowL (n : Nat) (rs : List Int) : List Int := ((List.range n).map Int.ofNat).filter fun c => decide (c ∈ rs)

theorem belowL_succ (n : Nat) (rs : List Int) : belowL (n + 1) rs = belowL n rs ++ (if (n : Int) ∈ rs then [(n : Int)] else []) := by
  unfold belowL
  rw [List.range_succ, List.map_append, List.filter_append]
  congr 1
  by_cases h : (n : Int) ∈ rs
  · simp [h]
  · simp [h]

theorem belowL_eq {n : Nat} {rs : List Int} (h : ∀ c ∈ rs, 0 ≤ c ∧ c < n) : Lib.compact (sortI rs) = belowL n rs := by
  refine rise_eq (comp_rise (sortI_up rs)) ?_ fun x => ?_
  · unfold belowL
    refine List.Pairwise.filter _ ?_
    refine List.Pairwise.map _ (fun a b hab => ?_) (List.pairwise_lt_range)
    exact Int.ofNat_lt.2 hab
  · rw [comp_mem (sortI_up rs), sortI_mem]
    unfold belowL
    rw [List.mem_filter, decide_eq_true_eq, List.mem_map]
    refine ⟨fun hx => ⟨⟨x.toNat, ?_, ?_⟩, hx⟩, fun hx => hx.2⟩
    · have := h x hx; rw [List.mem_range]; omega
    · have := h x hx; show ((x.toNat : Nat) : Int) = x; omega

theorem code_lt {sig : List Sy} {c : Int} (h : codeD sig c ≠ none) : c < (sig.length : Int) := by
  have : ¬ (sig.length : Int) ≤ c := fun h9 => h (codeD_none (.inl h9))
  omega

theorem root_code {sig : List Sy} {t : List Int} (h : rowE sig t = 0) : codeD sig ((t[0]?).getD 0) ≠ none := by
  cases t with
  | nil => simp [rowE, firstT] at h
  | cons c t =>
    intro h9
    simp only [List.getElem?_cons_zero, Option.getD_some] at h9
    unfold rowE firstT at h
    rw [h9] at h
    simp at h

theorem defined_eq {sig : List Sy} {rs : List Rl} (h : ∀ r ∈ rs, ruleE sig r = 0) : Lib.compact (sortI (rootsL rs)) = belowL sig.length (rootsL rs) := by
  refine belowL_eq fun c hc => ?_
  unfold rootsL at hc
  obtain ⟨r, hr, rfl⟩ := List.mem_map.1 hc
  obtain ⟨h1, _, _, _, h5, _⟩ := rule_parts (h r hr)
  exact ⟨h5, code_lt (root_code (term_parts h1).2)⟩

theorem roots_next {rs : List Rl} {j : Nat} {l r : List Int} {c k : Int} (hm : rs[j]? = some (l, r)) (hc : l[0]? = some c) : decide (k ∈ rootsL (rs.take (j + 1))) = (decide (k ∈ rootsL (rs.take j)) || (c == k)) := by
  have e : rootsL (rs.take (j + 1)) = rootsL (rs.take j) ++ [c] := by
    unfold rootsL
    rw [take_get hm, List.map_append]
    simp only [List.map_cons, List.map_nil]
    rw [hc]
    rfl
  rw [e]
  by_cases h1 : k ∈ rootsL (rs.take j)
  · simp [h1]
  · by_cases h2 : c = k
    · subst h2; simp
    · have h3 : ¬ k = c := fun h => h2 h.symm
      have h4 : (c == k) = false := by simpa using h2
      simp [h1, h3, h4]

set_option maxRecDepth 100000 in
set_option maxHeartbeats 1600000 in
theorem refDefined_any (sv rv : Value) (sig : List Sy) (rs : List Rl) (w : World) (hs : Sg w sv sig) (hr : RU w rv rs) :
    Calls Tryd.prog 9 #[.agg #[sv, rv]] w fun e w' => ∃ v', e = .returned v' ∧ Is w' v' (definedL sig rs) ∧ Below w.heap.size w w' := by
  obtain ⟨so, sc, rfl, hso, hsc, _⟩ := Row.flat hs
  obtain ⟨ro, rc, rfl, hro, hrc, _⟩ := Row.flat hr
  unfold maxLen at hsc hrc
  have HS := hid hs
  have HR := hid hr
  clear hs hr
  obtain ⟨w0, hw0⟩ : ∃ X, X = w.alloc (.cells #[.slice so sig.length sc, .slice ro rs.length rc] 25) := ⟨_, rfl⟩
  have C0 : Hid (Below w.heap.size w w0) := by rw [hw0]; exact below_alloc _
  have HC : Hid (∀ W, Below w0.heap.size w0 W → W.cell? ⟨w.heap.size, 0, none⟩ = some (.slice so sig.length sc) ∧ W.cell? ⟨w.heap.size, 1, none⟩ = some (.slice ro rs.length rc)) := fun W hW => by
    have hk := Kp.of_below hW
    rw [hw0] at hk
    exact ⟨hk.cell _ _ (cell_new rfl), hk.cell _ _ (cell_new rfl)⟩
  obtain ⟨x0, x1⟩ := HC.out w0 (Below.refl _ _)
  go_enter Tryd.func9, Tryd.ntmps9
  go_wp2_with fail
  rw [← hw0]
  clear hw0
  refine (refRight_any _ _ sig rs w0 (HS.out.kp (Kp.of_below C0.out)) (HR.out.kp (Kp.of_below C0.out))).mono ?_
  rintro e w1 ⟨rfl, hb1⟩
  have C1 := hid (below_step C0.out hb1)
  have D1 := hid hb1
  clear hb1 x0 x1
  cases hok : sysB sig rs with
  | false =>
    have HF : Hid (definedL sig rs = []) := by show _ = _; unfold definedL; rw [hok]; rfl
    clear hok
    go_wp2
    go_ret
    exact ⟨_, rfl, by rw [HF.out]; exact Row.nil (by simp [maxLen]), C1.out⟩
  | true =>
    obtain ⟨hah, hru⟩ := sys_right hok
    have HF : Hid (definedL sig rs = belowL sig.length (rootsL rs)) := by show _ = _; unfold definedL; rw [hok, if_pos rfl]; exact defined_eq hru
    have HRu := hid hru
    have hr64 := (ahead_parts hah).2.2.2
    have hs64 := (ahead_parts hah).2.1
    clear hok hah hru
    go_wp2
    go_loopw [3, 4] (fun ov iv wr => ∃ k : Nat, k ≤ sig.length ∧ iv = .int .i64 k ∧ OwI wr w1.heap.size ov (belowL k (rootsL rs)) ∧ Below w1.heap.size w1 wr) (fun _ iv _ => sig.length - (intOf iv).toNat)
    case atStart => exact ⟨0, Nat.zero_le _, rfl, ⟨fun k x hk => (by simp [belowL] at hk), World.ownsRow_nil _ _ _ _⟩, Below.refl _ _⟩
    case round =>
      obtain ⟨k, hk, rfl, how, hbl⟩ := hrel
      have HO := hid how
      have HB := hid hbl
      have CB := hid (below_step C1.out hbl)
      have DB := hid (below_step D1.out hbl)
      obtain ⟨z0, z1⟩ := HC.out wr DB.out
      have hkl : (belowL k (rootsL rs)).length ≤ k := by
        unfold belowL
        refine Nat.le_trans (List.length_filter_le _ _) ?_
        simp
      have HKl := hid hkl
      clear how hkl
      by_cases hlt : k < sig.length
      · go_wp2
        go_loopw [5, 6] (fun bv jv wi => ∃ j : Nat, j ≤ rs.length ∧ jv = .int .i64 j ∧ bv = .bool (decide ((k : Int) ∈ rootsL (rs.take j))) ∧ Below wr.heap.size wr wi) (fun _ jv _ => rs.length - (intOf jv).toNat)
        case atStart => exact ⟨0, Nat.zero_le _, rfl, by simp [rootsL], Below.refl _ _⟩
        case round =>
          obtain ⟨j, hj, rfl, rfl, hbj⟩ := hrel
          have HBj := hid hbj
          obtain ⟨z0', z1'⟩ := HC.out _ (below_step DB.out hbj)
          clear z0 z1
          have z1 := z1'
          clear z0' z1' hbj
          by_cases hjl : j < rs.length
          · obtain ⟨g, off, l, r, a1, c1, a2, c2, rfl, hm, hc0, hc1, hi1, hi2, hl1, hl2⟩ := (HR.out.kp (Kp.of_below (below_step CB.out HBj.out))).at hjl
            have hrp := rule_parts (HRu.out _ (List.mem_of_getElem? hm))
            have hlp := row_posS (term_parts hrp.1).2
            obtain ⟨gl, ol, c, rfl, hc, hcx, hcb1, hcb2⟩ := hi1.at hlp
            rw [Nat.add_zero] at hcx
            have HN := hid (roots_next (k := (k : Int)) hm hc)
            clear hm hc hc1 hi1 hi2 hrp
            cases hin : decide ((k : Int) ∈ rootsL (rs.take j)) with
            | true =>
              have HNx : Hid (true = decide ((k : Int) ∈ rootsL (rs.take (j + 1)))) := by show _ = _; rw [HN.out, hin]; rfl
              clear hin HN
              go_wp2
              go_roundw
              case rel => exact ⟨j + 1, hjl, by go_num, by rw [← HNx.out], HBj.out⟩
              case measure => simp only [intOf]; omega
            | false =>
              have HNx : Hid ((c == (k : Int)) = decide ((k : Int) ∈ rootsL (rs.take (j + 1)))) := by show _ = _; rw [HN.out, hin]; rfl
              clear hin HN
              go_wp2
              go_roundw
              case rel => exact ⟨j + 1, hjl, by go_num, by rw [← HNx.out], HBj.out⟩
              case measure => simp only [intOf]; omega
          · have hke : rs.take j = rs := List.take_of_length_le (by omega)
            rw [hke]
            clear hke
            by_cases hin : (k : Int) ∈ rootsL rs
            · rw [decide_eq_true hin]
              have HN : Hid (belowL (k + 1) (rootsL rs) = belowL k (rootsL rs) ++ [(k : Int)]) := by show _ = _; rw [belowL_succ, if_pos hin]
              obtain ⟨v6, w6, hr6, ho6, hg6, _⟩ := join_one 30 (c := (k : Int)) (HO.out.later HBj.out) (by omega) (by omega) (Nat.le_trans HB.out.size HBj.out.size) (by have := HKl.out; omega)
              have hB9 := below_step HB.out (below_step HBj.out (below_alloc (.cells #[.int .i64 (k : Int)] 3)))
              have HB6 : Hid (Below w1.heap.size w1 w6) := hB9.grown hg6 hB9.size (fun j hj => own_blk HO.out.2 hj)
              rw [← HN.out] at ho6
              have HO6 := hid ho6
              have HR6 := hid hr6
              clear hr6 ho6 hg6 hB9 hin HN
              go_wp2_with (first
                | (at_builtin; refine wpList_append_run rfl _ _ _ rfl _ _ rfl rfl HR6.out ?_))
              go_roundw
              case rel => exact ⟨k + 1, hlt, by go_num, HO6.out, HB6.out⟩
              case measure => simp only [intOf]; omega
            · rw [decide_eq_false hin]
              have HN : Hid (belowL (k + 1) (rootsL rs) = belowL k (rootsL rs)) := by show _ = _; rw [belowL_succ, if_neg hin, List.append_nil]
              clear hin
              go_wp2
              go_roundw
              case rel => exact ⟨k + 1, hlt, by go_num, by rw [HN.out]; exact HO.out.later HBj.out, below_step HB.out HBj.out⟩
              case measure => simp only [intOf]; omega
      · have hke : k = sig.length := by omega
        subst hke
        go_wp2
        go_ret
        exact ⟨_, rfl, by rw [HF.out]; exact HO.out.is, CB.out⟩

set_option maxHeartbeats 400000 in
theorem sameInts7_any (v u : Value) (xs ys : List Int) (w : World) (h : Is w v xs) (h' : Is w u ys) :
    Calls Tryd.prog 10 #[v, u] w fun e w' => e = .returned (.bool (decide (xs = ys))) ∧ ∃ n, w' = w.drewN n := by
  obtain ⟨ao, cap, rfl, hao, hca, hcl⟩ := h.flatI
  obtain ⟨bo, cap', rfl, hbo, hcb, hcl'⟩ := h'.flatI
  clear h h'
  by_cases hl : xs.length = ys.length
  · have hle : ((xs.length : Int) != ys.length) = false := by simp; omega
    go_enter Tryd.func10, Tryd.ntmps10
    go_wp2
    go_loopw [5] (fun i wr => ∃ k : Nat, k ≤ xs.length ∧ i = .int .i64 k ∧ xs.take k = ys.take k ∧ ∃ n, wr = w.drewN n) (fun i _ => xs.length - (intOf i).toNat)
    case atStart => exact ⟨0, Nat.zero_le _, rfl, rfl, 0, rfl⟩
    case round =>
      obtain ⟨k, hk, rfl, ht, n, rfl⟩ := hrel
      have HT : Hid (xs.take k = ys.take k) := ht
      clear ht
      by_cases hlt : k < xs.length
      · obtain ⟨g, off, x, rfl, hx1, hx3⟩ := hcl k hlt
        obtain ⟨g', off', y, rfl, hy1, hy3⟩ := hcl' k (by omega)
        have HX : Hid (xs[k]? = some x) := hx1
        have HY : Hid (ys[k]? = some y) := hy1
        have hlt' : k < ys.length := by omega
        clear hx1 hy1 hcl hcl'
        by_cases hxy : x = y
        · subst hxy
          have hxx : (x != x) = false := by simp
          go_wp2
          go_quiet (fail)
          go_wp2
          go_roundw
          case rel => exact ⟨k + 1, by omega, by go_num, by rw [take_get HX.out, take_get HY.out, HT.out], _, rfl⟩
          case measure => simp [intOf]; omega
        · have hne : (x != y) = true := by rw [bne_iff_ne]; exact hxy
          go_wp2
          go_quiet (fail)
          go_wp2
          go_ret
          exact ⟨ret1b (by rw [eq_comm, decide_eq_false_iff_not]; rintro rfl; have := HX.out.symm.trans HY.out; simp at this; exact hxy this), _, World.drewN_drewN _ _ _⟩
      · have hk' : k = xs.length := by omega
        go_wp2
        go_ret
        refine ⟨ret1b ?_, n, rfl⟩
        have := HT.out
        rw [List.take_of_length_le (by omega), List.take_of_length_le (by omega)] at this
        simp [this]
  · have hle : ((xs.length : Int) != ys.length) = true := by rw [bne_iff_ne]; omega
    go_enter Tryd.func10, Tryd.ntmps10
    go_wp2
    go_ret
    exact ⟨ret1b (by rw [eq_comm, decide_eq_false_iff_not]; rintro rfl; exact hl rfl), 0, rfl⟩

end Go.Proofs.YtfeeafkfjngemaaDoor

/- SystemChecks walked. -/
namespace Go.Proofs.YtfeeafkfjngemaaDoor
open Go.RowKit Go.Maps Go.BigFrame

set_option maxRecDepth 100000 in
set_option maxHeartbeats 1600000 in
theorem systemChecks_any (sv rv : Value) (s : List Sy) (a : List Rl) (w : World) (hs : Sg w sv s) (ha : RU w rv a) (hT : Tabs w) :
    Calls Tryd.prog 3 #[.agg #[sv, rv]] w fun e w' => e = .returned (.bool true) ∧ Below w.heap.size w w' := by
  obtain ⟨so, sc, rfl, hso, hsc, _⟩ := Row.flat hs
  obtain ⟨ao, ac, rfl, hao, hac, _⟩ := Row.flat ha
  have HS := hid hs
  have HA := hid ha
  have HT := hid hT
  clear hs ha hT
  obtain ⟨w0, hw0⟩ : ∃ X, X = w.alloc (.cells #[.slice so s.length sc, .slice ao a.length ac] 25) := ⟨_, rfl⟩
  have C0 : Hid (Below w.heap.size w w0) := by rw [hw0]; exact below_alloc _
  have HC : Hid (∀ W, Below w0.heap.size w0 W → W.cell? ⟨w.heap.size, 0, none⟩ = some (.slice so s.length sc) ∧ W.cell? ⟨w.heap.size, 1, none⟩ = some (.slice ao a.length ac)) := fun W hW => by
    have hk := Kp.of_below hW
    rw [hw0] at hk
    exact ⟨hk.cell _ _ (cell_new rfl), hk.cell _ _ (cell_new rfl)⟩
  go_enter Tryd.func3, Tryd.ntmps3
  go_wp2_with fail
  rw [← hw0]
  clear hw0
  refine (shown7_any w0 (HT.out.below C0.out)).mono ?_
  rintro e w1 ⟨rfl, hb1⟩
  have C1 := hid (below_step C0.out hb1)
  have D1 := hid hb1
  clear hb1
  obtain ⟨x0, x1⟩ := HC.out w1 D1.out
  go_wp2_with fail
  refine (sysCheck_any _ _ s a w1 (HS.out.kp (Kp.of_below C1.out)) (HA.out.kp (Kp.of_below C1.out)) (HT.out.below C1.out)).mono ?_
  rintro e w2 ⟨rfl, hb2⟩
  have C2 := hid (below_step C1.out hb2)
  have D2 := hid (below_step D1.out hb2)
  clear hb2 x0 x1
  obtain ⟨x0, x1⟩ := HC.out w2 D2.out
  have HCk := hid (refSysCheck_any _ _ s a w2 (HS.out.kp (Kp.of_below C2.out)) (HA.out.kp (Kp.of_below C2.out)))
  generalize sysE s a = E at HCk ⊢
  obtain ⟨E1, E2⟩ := E
  have HCk2 : Hid (Calls Tryd.prog 7 #[.agg #[.slice so s.length sc, .slice ao a.length ac]] w2 fun e w' => e = .returned (.tuple #[.int .i64 E1, .int .i64 E2]) ∧ Below w2.heap.size w2 w') := HCk
  clear HCk
  go_wp2_with fail
  refine HCk2.out.mono ?_
  rintro e w3 ⟨rfl, hb3⟩
  have C3 := hid (below_step C2.out hb3)
  have D3 := hid (below_step D2.out hb3)
  clear hb3 x0 x1 HCk2
  obtain ⟨x0, x1⟩ := HC.out w3 D3.out
  go_wp2_with fail
  refine (defined_any _ _ s a w3 (HS.out.kp (Kp.of_below C3.out)) (HA.out.kp (Kp.of_below C3.out)) (HT.out.below C3.out)).mono ?_
  rintro e w4 ⟨v4, rfl, hi4, hb4⟩
  have C4 := hid (below_step C3.out hb4)
  have D4 := hid (below_step D3.out hb4)
  have HI4 := hid hi4
  clear hb4 hi4 x0 x1
  obtain ⟨x0, x1⟩ := HC.out w4 D4.out
  go_wp2_with fail
  refine (refDefined_any _ _ s a w4 (HS.out.kp (Kp.of_below C4.out)) (HA.out.kp (Kp.of_below C4.out))).mono ?_
  rintro e w5 ⟨v5, rfl, hi5, hb5⟩
  have C5 := hid (below_step C4.out hb5)
  have HI45 := hid (HI4.out.kp (Kp.of_below hb5))
  have HI5 := hid hi5
  clear hb5 hi5 x0 x1 HI4
  go_wp2_with fail
  refine (sameInts7_any _ _ _ _ w5 HI45.out HI5.out).mono ?_
  rintro e w6 ⟨rfl, n6, hw6⟩
  have C6 := hid (below_step C5.out (drawn_below hw6))
  clear hw6
  rw [decide_eq_true rfl]
  have h1 : (E1 == E1) = true := by simp
  have h2 : (E2 == E2) = true := by simp
  go_wp2
  go_ret
  exact ⟨rfl, C6.out⟩

end Go.Proofs.YtfeeafkfjngemaaDoor
