/- The document's Above of layer 10. -/
import Derived.Test.YtagndlcpcggmpaaTPrcX
namespace Go.Proofs.Ytagndlcpcggmpaa
open Go.RowKit Go.Maps

theorem abB_outU {ps : List (Int × Int)} {f g : Int} {N : Nat} {U : Nat → Nat → Bool} (h : ∀ i j, (i < N ∧ j < N ∧ U i j = true) ↔ Up ps i j) (hn : ¬ (0 ≤ f ∧ f < N ∧ 0 ≤ g ∧ g < N)) : abB ps f g = false := by
  rw [Bool.eq_false_iff]
  intro hh
  rw [abB_iff] at hh
  obtain ⟨h1, h2, h3⟩ := hh
  have := (h _ _).2 h3
  have h4 := this.1
  have h5 := this.2.1
  omega

theorem abB_inU {ps : List (Int × Int)} {N : Nat} {U : Nat → Nat → Bool} (h : ∀ i j, (i < N ∧ j < N ∧ U i j = true) ↔ Up ps i j) {f g : Nat} (hf : f < N) (hg : g < N) : abB ps (f : Int) (g : Int) = U f g := by
  rw [Bool.eq_iff_iff, abB_nat, ← h]
  exact ⟨fun x => x.2.2, fun x => ⟨hf, hg, x⟩⟩

set_option maxRecDepth 100000 in
set_option maxHeartbeats 1600000 in
theorem refAbove_any (ps : List (Int × Int)) (v : Value) (f g : Int) (w : World) (h : Rc w v ps) :
    Calls Try.prog 12 #[v, .int .i64 f, .int .i64 g] w fun e w' => e = .returned (.bool (abB ps f g)) ∧ w' = w := by
  obtain ⟨base, gp, ro, rc, rb, N, U, rfl, hR, hu⟩ := h
  have HU := hidP hu
  have HR := hidP hR
  have c3 := hR.cellP
  clear hu hR
  by_cases q1 : f < 0
  · have HX := hidP (abB_outU HU.out (f := f) (g := g) (by omega))
    have q1b : ¬ 0 ≤ f := by omega
    go_enter Try.func12, Try.ntmps12
    go_wp2
    go_ret
    exact ⟨ret1b HX.out.symm, rfl⟩
  have q1b : 0 ≤ f := by omega
  by_cases q2 : g < 0
  · have HX := hidP (abB_outU HU.out (f := f) (g := g) (by omega))
    have q2b : ¬ 0 ≤ g := by omega
    go_enter Try.func12, Try.ntmps12
    go_wp2
    go_ret
    exact ⟨ret1b HX.out.symm, rfl⟩
  have q2b : 0 ≤ g := by omega
  by_cases q3 : (N : Int) ≤ f
  · have HX := hidP (abB_outU HU.out (f := f) (g := g) (by omega))
    have q3b : ¬ f < (N : Int) := by omega
    go_enter Try.func12, Try.ntmps12
    go_wp2
    go_ret
    exact ⟨ret1b HX.out.symm, rfl⟩
  have q3b : f < (N : Int) := by omega
  by_cases q4 : (N : Int) ≤ g
  · have HX := hidP (abB_outU HU.out (f := f) (g := g) (by omega))
    have q4b : ¬ g < (N : Int) := by omega
    go_enter Try.func12, Try.ntmps12
    go_wp2
    go_ret
    exact ⟨ret1b HX.out.symm, rfl⟩
  have q4b : g < (N : Int) := by omega
  obtain ⟨F, rfl⟩ := Int.eq_ofNat_of_zero_le q1b
  obtain ⟨G, rfl⟩ := Int.eq_ofNat_of_zero_le q2b
  have hF : F < N := by omega
  have hG : G < N := by omega
  obtain ⟨gr, hro, hrc, hrow⟩ := HR.out.form (by omega)
  subst hro
  have c4 := hrow F hF
  have c5 := HR.out.bit hF hG
  rw [← abB_inU HU.out hF hG] at c5
  generalize abB ps (F : Int) (G : Int) = X at c5 ⊢
  clear hrow
  go_enter Try.func12, Try.ntmps12
  go_wp2
  go_ret
  exact ⟨rfl, rfl⟩

end Go.Proofs.Ytagndlcpcggmpaa
