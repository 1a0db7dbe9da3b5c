/- The examples of layer 10. -/
import Derived.Test.YtagndlcpcggmpaaTPrcE
namespace Go.Proofs.Ytagndlcpcggmpaa
open Go.RowKit Go.Maps

theorem exA_ok : closeE 3 [(2, 1), (1, 0)] = 0 := by
  refine closeE_ok (by decide) (by decide) ?_ ?_
  · intro x hx
    simp only [List.mem_cons, List.not_mem_nil, or_false] at hx
    rcases hx with rfl | rfl <;> decide
  · intro i hi
    have := hi (fun i j => j < i) (fun i j hp => by
      simp only [PR, List.mem_cons, Prod.mk.injEq, List.not_mem_nil, or_false] at hp
      omega) (fun i j k h1 h2 => Nat.lt_trans h2 h1)
    exact Nat.lt_irrefl _ this

theorem exA_less {i j : Nat} (h : Up [(2, 1), (1, 0)] i j) : j < i :=
  h (fun i j => j < i) (fun i j hp => by
    simp only [PR, List.mem_cons, Prod.mk.injEq, List.not_mem_nil, or_false] at hp
    omega) (fun i j k h1 h2 => Nat.lt_trans h2 h1)

theorem exA_20 : abB [(2, 1), (1, 0)] 2 0 = true :=
  (abB_nat _ 2 0).2 (Up.tr _ 2 1 0 (Up.base (by simp [PR])) (Up.base (by simp [PR])))

theorem exA_no {f g : Int} (h : ¬ (0 ≤ f ∧ 0 ≤ g ∧ g < f)) : abB [(2, 1), (1, 0)] f g = false := by
  rw [Bool.eq_false_iff]
  intro hh
  rw [abB_iff] at hh
  have := exA_less hh.2.2
  omega

theorem exB_cyc : closeE 2 [(0, 1), (1, 0)] = 101 := by
  refine closeE_cyc (by decide) (by decide) ?_ ⟨0, Up.tr _ 0 1 0 (Up.base (by simp [PR])) (Up.base (by simp [PR]))⟩
  intro x hx
  simp only [List.mem_cons, List.not_mem_nil, or_false] at hx
  rcases hx with rfl | rfl <;> decide

theorem exC_sym : closeE 2 [(0, 2)] = 100 := closeE_sym (by decide) (by decide) (fun h => by
  have := h (0, 2) (List.mem_cons_self ..)
  simp at this)

theorem exD_arg : closeE 129 [] = 1 := closeE_arg (.inr (by decide))

theorem CloseO.ok {n : Int} {ps : List (Int × Int)} {w w' : World} {e : Ending} (h : CloseO n ps w e w') (h0 : closeE n ps = 0) : Below w.heap.size w w' ∧ ∃ g, e = .returned (.tuple #[.pointer (some ⟨g, 0, none⟩), .int .i64 0]) ∧ Pc w' (.pointer (some ⟨g, 0, none⟩)) ps := by
  rcases h.2 with ⟨h1, _⟩ | ⟨_, h2⟩
  · exact absurd h0 h1
  · exact ⟨h.1, h2⟩

theorem CloseO.err {n c : Int} {ps : List (Int × Int)} {w w' : World} {e : Ending} (h : CloseO n ps w e w') (h0 : closeE n ps = c) (hc : c ≠ 0) : Below w.heap.size w w' ∧ e = .returned (.tuple #[.pointer none, .int .i64 c]) := by
  subst h0
  rcases h.2 with ⟨_, h1⟩ | ⟨h2, _⟩
  · exact ⟨h.1, h1⟩
  · exact absurd h2 hc

/-- Two pairs, just laid. -/
theorem prs_two (w : World) (a b c d : Int) (ha : -9223372036854775808 ≤ a ∧ a ≤ 9223372036854775807) (hb : -9223372036854775808 ≤ b ∧ b ≤ 9223372036854775807) (hc : -9223372036854775808 ≤ c ∧ c ≤ 9223372036854775807) (hd : -9223372036854775808 ≤ d ∧ d ≤ 9223372036854775807) :
    Prs (w.alloc (.cells #[.int .i64 a, .int .i64 b, .int .i64 c, .int .i64 d] 31)) (.slice (some ⟨w.heap.size, 0, none⟩) 2 2) [(a, b), (c, d)] := by
  refine ⟨_, 2, rfl, Nat.le_refl _, by decide, fun _ => ⟨w.heap.size, 0, rfl, by simp, fun k x hk => ?_⟩⟩
  have hcell := fun j => cell_of_row _ w.heap.size j _ _ _ (heap_alloc_new w (.cells #[.int .i64 a, .int .i64 b, .int .i64 c, .int .i64 d] 31))
  match k, hk with
  | 0, hk => cases hk; exact ⟨ha, hb, hcell 0, hcell 1⟩
  | 1, hk => cases hk; exact ⟨hc, hd, hcell 2, hcell 3⟩

theorem prs_one (w : World) (a b : Int) (ha : -9223372036854775808 ≤ a ∧ a ≤ 9223372036854775807) (hb : -9223372036854775808 ≤ b ∧ b ≤ 9223372036854775807) :
    Prs (w.alloc (.cells #[.int .i64 a, .int .i64 b] 31)) (.slice (some ⟨w.heap.size, 0, none⟩) 1 1) [(a, b)] := by
  refine ⟨_, 1, rfl, Nat.le_refl _, by decide, fun _ => ⟨w.heap.size, 0, rfl, by simp, fun k x hk => ?_⟩⟩
  have hcell := fun j => cell_of_row _ w.heap.size j _ _ _ (heap_alloc_new w (.cells #[.int .i64 a, .int .i64 b] 31))
  match k, hk with
  | 0, hk => cases hk; exact ⟨ha, hb, hcell 0, hcell 1⟩

set_option maxRecDepth 100000 in
set_option maxHeartbeats 1600000 in
theorem shown10_any (w : World) : Calls Try.prog 8 #[] w fun e w' => e = .returned (.bool true) ∧ Below w.heap.size w w' := by
  go_enter Try.func8, Try.ntmps8
  go_wp2_with fail
  refine (close_any 3 _ [(2, 1), (1, 0)] _ (prs_two w 2 1 1 0 (by decide) (by decide) (by decide) (by decide))).mono ?_
  intro e w1 hc
  obtain ⟨hb1, g1, rfl, hp1⟩ := hc.ok exA_ok
  have H1 : Hid (Pc w1 (.pointer (some ⟨g1, 0, none⟩)) [(2, 1), (1, 0)]) := hp1
  have B1 : Hid (Below w.heap.size w w1) := below_step (below_alloc _) hb1
  clear hc hb1 hp1
  go_wp2_with fail
  refine (close_any 2 _ [(0, 1), (1, 0)] _ (prs_two w1 0 1 1 0 (by decide) (by decide) (by decide) (by decide))).mono ?_
  intro e w2 hc
  obtain ⟨hb2, rfl⟩ := hc.err exB_cyc (by decide)
  have hb2 := below_step (below_alloc _) hb2
  have H2 := hidP (H1.out.later hb2)
  have B2 : Hid (Below w.heap.size w w2) := below_step B1.out hb2
  clear hc hb2 H1 B1
  go_wp2_with fail
  refine (close_any 2 _ [(0, 2)] _ (prs_one w2 0 2 (by decide) (by decide))).mono ?_
  intro e w3 hc
  obtain ⟨hb3, rfl⟩ := hc.err exC_sym (by decide)
  have hb3 := below_step (below_alloc _) hb3
  have H3 := hidP (H2.out.later hb3)
  have B3 : Hid (Below w.heap.size w w3) := below_step B2.out hb3
  clear hc hb3 H2 B2
  go_wp2_with fail
  refine (close_any 129 _ [] _ (Row.nil (by decide))).mono ?_
  intro e w4 hc
  obtain ⟨hb4, rfl⟩ := hc.err exD_arg (by decide)
  have hb4 := below_step (below_alloc _) hb4
  have H4 := hidP (H3.out.later hb4)
  have B4 : Hid (Below w.heap.size w w4) := below_step B3.out hb4
  clear hc hb4 H3 B3
  go_wp2_with fail
  refine (above_any _ _ 2 0 w4 H4.out).mono ?_
  rintro e w5 ⟨rfl, hb5⟩
  have H5 := hidP (H4.out.later hb5)
  have B5 : Hid (Below w.heap.size w w5) := below_step B4.out hb5
  clear hb5 H4 B4
  rw [exA_20]
  go_wp2_with fail
  refine (above_any _ _ 0 2 w5 H5.out).mono ?_
  rintro e w6 ⟨rfl, hb6⟩
  have H6 := hidP (H5.out.later hb6)
  have B6 : Hid (Below w.heap.size w w6) := below_step B5.out hb6
  clear hb6 H5 B5
  rw [exA_no (by decide)]
  go_wp2_with fail
  refine (above_any _ _ 2 2 w6 H6.out).mono ?_
  rintro e w7 ⟨rfl, hb7⟩
  have H7 := hidP (H6.out.later hb7)
  have B7 : Hid (Below w.heap.size w w7) := below_step B6.out hb7
  clear hb7 H6 B6
  rw [exA_no (by decide)]
  go_wp2_with fail
  refine (above_any _ _ 2 3 w7 H7.out).mono ?_
  rintro e w8 ⟨rfl, hb8⟩
  have H8 := hidP (H7.out.later hb8)
  have B8 : Hid (Below w.heap.size w w8) := below_step B7.out hb8
  clear hb8 H7 B7
  rw [exA_no (by decide)]
  go_wp2_with fail
  refine (above_any _ _ (-1) 0 w8 H8.out).mono ?_
  rintro e w9 ⟨rfl, hb9⟩
  have B9 : Hid (Below w.heap.size w w9) := below_step B8.out hb9
  clear hb9 H8 B8
  rw [exA_no (by decide)]
  go_wp2
  go_ret
  exact ⟨rfl, B9.out⟩

end Go.Proofs.Ytagndlcpcggmpaa
