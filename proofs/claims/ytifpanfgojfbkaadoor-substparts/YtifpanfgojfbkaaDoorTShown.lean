/- The calls of the examples. -/
import Derived.Test.YtifpanfgojfbkaaDoorTLit
namespace Go.Proofs.YtifpanfgojfbkaaDoor
open Go.RowKit Go.Maps Go.BigFrame

theorem b0 {w : World} : Below w.heap.size w w := Below.refl _ _
theorem b1 {w w' : World} {o : Obj} (h : Below w.heap.size w w') : Below w.heap.size w (w'.alloc o) := below_step h (below_alloc o)

def EIs (w : World) (g : Nat) : Nat → List Int → Prop
  | _, [] => True
  | o, x :: r => EI w g o x ∧ EIs w g (o + 1) r

theorem EIs.get {w : World} {g : Nat} : ∀ {p : List Int} {o k : Nat} {m : Int}, EIs w g o p → p[k]? = some m → EI w g (o + k * 1) m
  | [], _, _, _, _, h => by simp at h
  | x :: r, o, 0, m, h, hk => by
    simp at hk
    subst hk
    exact h.1
  | x :: r, o, k + 1, m, h, hk => by
    have := EIs.get h.2 (k := k) (by simpa using hk)
    rw [show o + (k + 1) * 1 = o + 1 + k * 1 by omega]
    exact this

theorem is_lit {w : World} {g : Nat} {p : List Int} (hg : g < w.heap.size) (hl : p.length ≤ 9) (h : EIs w g 0 p) : Is w (.slice (some ⟨g, 0, none⟩) p.length p.length) p := by
  refine ⟨_, p.length, rfl, Nat.le_refl _, by unfold maxLen; omega, fun _ => ⟨g, 0, rfl, hg, fun k m hk => ?_⟩⟩
  have := h.get hk
  rwa [Nat.zero_add] at this ⊢

theorem cell_newg {w : World} {t : TypeId} {vs : Array Value} {g k : Nat} {v : Value} (hg : g = w.heap.size) (hv : vs[k]? = some v) : (w.alloc (.cells vs t)).cell? ⟨g, k, none⟩ = some v := by
  subst hg
  exact cell_new hv

theorem ei {w : World} {g o : Nat} {x : Int} (h1 : -9223372036854775808 ≤ x) (h2 : x ≤ 9223372036854775807) (h : w.cell? ⟨g, o, none⟩ = some (.int .i64 x)) : EI w g o x := ⟨h1, h2, h⟩

theorem w_apply (w : World) : ∀ W, W = ((((w.alloc (Obj.cells #[Value.int IntKind.i64 1, Value.int IntKind.i64 (-2)] 3)).alloc (Obj.cells #[Value.int IntKind.i64 0] 3)).alloc (Obj.cells #[Value.int IntKind.i64 0, Value.slice (some ⟨w.heap.size, 0, none⟩) 2 2, Value.int IntKind.i64 1, Value.slice (some ⟨w.heap.size + 1, 0, none⟩) 1 1] 43)).alloc (Obj.cells #[Value.int IntKind.i64 2, Value.int IntKind.i64 (-1), Value.int IntKind.i64 (-2)] 3)) →
    Is W (.slice (some ⟨w.heap.size + 1 + 1 + 1, 0, none⟩) 3 3) [2, -1, -2] ∧ Bs W (.slice (some ⟨w.heap.size + 1 + 1, 0, none⟩) 2 2) [(0, [1, -2]), (1, [0])] ∧ Below w.heap.size w W := by
  intro W hW
  have hsz : W.heap.size = w.heap.size + 4 := by rw [hW]; simp
  have i1 : Is W (.slice (some ⟨w.heap.size, 0, none⟩) 2 2) [1, -2] := by
    refine is_lit (p := [1, -2]) (by omega) (by decide) ⟨ei (by omega) (by omega) ?_, ei (by omega) (by omega) ?_, trivial⟩ <;> (rw [hW]; repeat (first | (refine cell_newg ?_ rfl; simp; done) | refine cell_old ?_))
  have i2 : Is W (.slice (some ⟨w.heap.size + 1, 0, none⟩) 1 1) [0] := by
    refine is_lit (p := [0]) (by omega) (by decide) ⟨ei (by omega) (by omega) ?_, trivial⟩ <;> (rw [hW]; repeat (first | (refine cell_newg ?_ rfl; simp; done) | refine cell_old ?_))
  refine ⟨?_, ?_, by rw [hW]; exact b1 (b1 (b1 (b1 b0)))⟩
  · refine is_lit (p := [2, -1, -2]) (by omega) (by decide) ⟨ei (by omega) (by omega) ?_, ei (by omega) (by omega) ?_, ei (by omega) (by omega) ?_, trivial⟩ <;> (rw [hW]; repeat (first | (refine cell_newg ?_ rfl; simp; done) | refine cell_old ?_))
  · refine bs_lit (p := [(0, [1, -2]), (1, [0])]) (by omega) (by decide) ⟨⟨by decide, by decide, by decide, ?_, _, ?_, i1⟩, ⟨by decide, by decide, by decide, ?_, _, ?_, i2⟩, trivial⟩ <;> (rw [hW]; repeat (first | (refine cell_newg ?_ rfl; simp; done) | refine cell_old ?_))

end Go.Proofs.YtifpanfgojfbkaaDoor
