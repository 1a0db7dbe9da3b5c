/- What Apply answers. -/
import Derived.Test.YtjcgngfidnechaaDoorTApplyB
namespace Go.Proofs.YtjcgngfidnechaaDoor
open Go.RowKit Go.Maps

/-- What a variable becomes by binds. -/
def bnd (s : List Bd) (n : Int) : Option (List Int) := s.reverse.lookup n

theorem lookup_mem {α : Type} : ∀ {l : List (Int × α)} {n : Int} {x : α}, l.lookup n = some x → (n, x) ∈ l
  | (k, v) :: l, n, x, h => by
    rw [List.lookup_cons] at h
    cases hk : n == k with
    | true =>
      rw [hk] at h
      cases h
      rw [beq_iff_eq] at hk
      subst hk
      exact .head _
    | false =>
      rw [hk] at h
      exact .tail _ (lookup_mem h)

theorem bind_rise (sig : List Sy) : ∀ (s : List Bd) (p : Option Int), bindGo sig p s = 0 → (∀ y, p = some y → ∀ b ∈ s, y < b.1) ∧ s.Pairwise (fun a b => a.1 < b.1)
  | [], _, _ => ⟨fun _ _ b hb => (by cases hb), List.Pairwise.nil⟩
  | b :: r, p, h => by
    unfold bindGo at h
    split at h
    · split at h
      · cases h
      · rename_i hp
        split at h
        · obtain ⟨h1, h2⟩ := bind_rise sig r (some b.1) h
          have h1' := h1 b.1 rfl
          refine ⟨fun y hy c hc => ?_, List.Pairwise.cons h1' h2⟩
          subst hy
          have hyb : y < b.1 := by simpa using hp
          cases hc with
          | head => exact hyb
          | tail _ hc => have := h1' c hc; omega
        · rename_i he
          exact absurd h he
    · cases h

theorem bind_new {s : List Bd} (h : s.Pairwise (fun a b => a.1 < b.1)) {k : Nat} {x : Int} {t : List Int} (hk : s[k]? = some (x, t)) : (s.take k).reverse.lookup x = none := by
  cases hl : (s.take k).reverse.lookup x with
  | none => rfl
  | some u =>
    have hm := lookup_mem hl
    rw [List.mem_reverse] at hm
    obtain ⟨j, hj, he⟩ := List.getElem_of_mem hm
    rw [List.length_take] at hj
    have hkl : k < s.length := (List.getElem?_eq_some_iff.1 hk).1
    have h2 := List.pairwise_iff_getElem.1 h j k (by omega) hkl (by omega)
    rw [List.getElem_take] at he
    rw [he, (List.getElem?_eq_some_iff.1 hk).2] at h2
    simp at h2

theorem Bs.small {w : World} {v : Value} {s : List Bd} (h : Bs w v s) {b : Bd} (hb : b ∈ s) : b.2.length * 8 ≤ 140737488351232 := by
  obtain ⟨ao, cap, rfl, _, _, hx⟩ := Row.flat h
  obtain ⟨k, hk, rfl⟩ := List.getElem_of_mem hb
  obtain ⟨g, off, x, _, hm, _, _, h3, _⟩ := hx k hk
  rw [List.getElem?_eq_getElem hk] at hm
  cases hm
  exact h3

def applyE (sig : List Sy) (s : List Bd) (t : List Int) : Int := if bindE sig s = 0 then (if termE sig t = 0 then layE (bnd s) t else termE sig t) else bindE sig s
def applyL (sig : List Sy) (s : List Bd) (t : List Int) : List Int := if bindE sig s = 0 then (if termE sig t = 0 then layL (bnd s) t else []) else []

end Go.Proofs.YtjcgngfidnechaaDoor
