/- Literal rows in memory. -/
import Derived.Test.YtjcgngfidnechaaDoorTCanonB
namespace Go.Proofs.YtjcgngfidnechaaDoor
open Go.RowKit Go.Maps Go.BigFrame

theorem is_new (w : World) (xs : List Int) (t : TypeId) (hz : ∀ x ∈ xs, -9223372036854775808 ≤ x ∧ x ≤ 9223372036854775807) (hl : xs.length ≤ 1000) : Is (w.alloc (.cells (xs.map I64).toArray t)) (.slice (some ⟨w.heap.size, 0, none⟩) xs.length xs.length) xs := by
  refine ⟨some ⟨w.heap.size, 0, none⟩, xs.length, rfl, Nat.le_refl _, by unfold maxLen; omega, fun _ => ⟨w.heap.size, 0, rfl, by simp, fun k x hk => ?_⟩⟩
  refine ⟨(hz x (List.mem_of_getElem? hk)).1, (hz x (List.mem_of_getElem? hk)).2, ?_⟩
  rw [Nat.mul_one, Nat.zero_add, cell_of_row _ _ _ _ _ _ (heap_alloc_new _ _)]
  simp [hk, I64]

/-- Binds one behind the other. -/
def EBs (w : World) (g : Nat) : Nat → List Bd → Prop
  | _, [] => True
  | o, b :: r => EB w g o b ∧ EBs w g (o + 2) r

theorem EBs.get {w : World} {g : Nat} : ∀ {p : List Bd} {o k : Nat} {m : Bd}, EBs w g o p → p[k]? = some m → EB w g (o + k * 2) m
  | [], _, _, _, _, h => by simp at h
  | x :: r, o, 0, m, h, hk => by
    simp at hk
    subst hk
    exact h.1
  | x :: r, o, k + 1, m, h, hk => by
    have := EBs.get h.2 (k := k) (by simpa using hk)
    rw [show o + (k + 1) * 2 = o + 2 + k * 2 by omega]
    exact this

theorem bs_lit {w : World} {g : Nat} {p : List Bd} (hg : g < w.heap.size) (hl : p.length ≤ 9) (h : EBs w g 0 p) : Bs w (.slice (some ⟨g, 0, none⟩) p.length p.length) p := by
  refine ⟨_, p.length, rfl, Nat.le_refl _, by unfold maxLen; omega, fun _ => ⟨g, 0, rfl, hg, fun k m hk => ?_⟩⟩
  have := h.get hk
  rwa [Nat.zero_add] at this ⊢

def ESs (w : World) (g : Nat) : Nat → List Sy → Prop
  | _, [] => True
  | o, b :: r => ES w g o b ∧ ESs w g (o + 2) r

theorem ESs.get {w : World} {g : Nat} : ∀ {p : List Sy} {o k : Nat} {m : Sy}, ESs w g o p → p[k]? = some m → ES w g (o + k * 2) m
  | [], _, _, _, _, h => by simp at h
  | x :: r, o, 0, m, h, hk => by
    simp at hk
    subst hk
    exact h.1
  | x :: r, o, k + 1, m, h, hk => by
    have := ESs.get h.2 (k := k) (by simpa using hk)
    rw [show o + (k + 1) * 2 = o + 2 + k * 2 by omega]
    exact this

theorem sg_lit {w : World} {g : Nat} {p : List Sy} (hg : g < w.heap.size) (hl : p.length ≤ 9) (h : ESs w g 0 p) : Sg w (.slice (some ⟨g, 0, none⟩) p.length p.length) p := by
  refine ⟨_, p.length, rfl, Nat.le_refl _, by unfold maxLen; omega, fun _ => ⟨g, 0, rfl, hg, fun k m hk => ?_⟩⟩
  have := h.get hk
  rwa [Nat.zero_add] at this ⊢

def ERs (w : World) (g : Nat) : Nat → List (List Int) → Prop
  | _, [] => True
  | o, b :: r => ER w g o b ∧ ERs w g (o + 1) r

theorem ERs.get {w : World} {g : Nat} : ∀ {p : List (List Int)} {o k : Nat} {m : List Int}, ERs w g o p → p[k]? = some m → ER w g (o + k * 1) m
  | [], _, _, _, _, h => by simp at h
  | x :: r, o, 0, m, h, hk => by
    simp at hk
    subst hk
    exact h.1
  | x :: r, o, k + 1, m, h, hk => by
    have := ERs.get h.2 (k := k) (by simpa using hk)
    rw [show o + (k + 1) * 1 = o + 1 + k * 1 by omega]
    exact this

theorem rs_lit {w : World} {g : Nat} {p : List (List Int)} (hg : g < w.heap.size) (hl : p.length ≤ 9) (h : ERs w g 0 p) : Rs w (.slice (some ⟨g, 0, none⟩) p.length p.length) p := by
  refine ⟨_, p.length, rfl, Nat.le_refl _, by unfold maxLen; omega, fun _ => ⟨g, 0, rfl, hg, fun k m hk => ?_⟩⟩
  have := h.get hk
  rwa [Nat.zero_add] at this ⊢

theorem cell_new {w : World} {t : TypeId} {vs : Array Value} {k : Nat} {v : Value} (hv : vs[k]? = some v) : (w.alloc (.cells vs t)).cell? ⟨w.heap.size, k, none⟩ = some v := by
  rw [cell_of_row _ _ _ _ _ _ (heap_alloc_new _ _)]
  simpa using hv

theorem cell_old {w : World} {o : Obj} {g k : Nat} {v : Value} (h : w.cell? ⟨g, k, none⟩ = some v) : (w.alloc o).cell? ⟨g, k, none⟩ = some v := (Kp.of_below (below_alloc o)).cell _ _ h

def sumS : List Sy := [(⟨#[122, 101, 114, 111]⟩, 0), (⟨#[115]⟩, 1), (⟨#[112, 108, 117, 115]⟩, 2)]

theorem applyE_1 : applyE sumS [(0, [1, -2]), (1, [0])] [2, -1, -2] = 0 := by kernel_rfl
theorem applyL_1 : applyL sumS [(0, [1, -2]), (1, [0])] [2, -1, -2] = [2, 1, -2, 0] := by kernel_rfl
theorem bindE_1 : bindE sumS [(2, [0]), (2, [0])] = 41 := by kernel_rfl
theorem bindE_2 : bindE sumS [(0, [1])] = 31 := by kernel_rfl
theorem shift_1 : shiftE 3 [2, -1, -2] = 0 := by kernel_rfl
theorem shift_2 : shiftL 3 [2, -1, -2] = [2, -4, -5] := by kernel_rfl
theorem shift_3 : shiftE (-3) [-3] = 40 := by kernel_rfl
theorem canon_1 : canL [[2, -7, -3], [-3, -9]] = [[2, -1, -2], [-2, -3]] := by kernel_rfl

end Go.Proofs.YtjcgngfidnechaaDoor
