/- What the document's Laid and Apply answer. -/
import Derived.Test.YtjcgngfidnechaaDoorTRefE
import Derived.Test.YtjcgngfidnechaaDoorTApplyC
import Derived.Test.YtjcgngfidnechaaDoorTShown
namespace Go.Proofs.YtjcgngfidnechaaDoor
open Go.RowKit Go.Maps Go.BigFrame

theorem look_rise : ∀ {s : List Bd}, s.Pairwise (fun a b => a.1 < b.1) → ∀ n, s.lookup n = s.reverse.lookup n
  | [], _, _ => rfl
  | (x, t) :: s, h, n => by
    obtain ⟨h1, h2⟩ := List.pairwise_cons.1 h
    rw [List.reverse_cons, List.lookup_cons]
    have ih := look_rise h2 n
    have happ : ∀ (l : List Bd), (l ++ [(x, t)]).lookup n = (match l.lookup n with | some y => some y | none => if n == x then some t else none) := by
      intro l
      induction l with
      | nil =>
        rw [List.nil_append, List.lookup_cons]
        cases n == x <;> rfl
      | cons a l il =>
        obtain ⟨k, v⟩ := a
        rw [List.cons_append, List.lookup_cons, List.lookup_cons]
        cases n == k with
        | true => rfl
        | false => exact il
    rw [happ, ← ih]
    cases hk : n == x with
    | true =>
      rw [beq_iff_eq] at hk
      subst hk
      cases hl : s.lookup n with
      | none => rfl
      | some y =>
        have hm := lookup_mem hl
        have := h1 _ hm
        simp at this
    | false =>
      show s.lookup n = _
      cases s.lookup n <;> rfl

theorem layGo_congr {f g : Int → Option (List Int)} (h : ∀ n, f n = g n) : layGo f = layGo g := by
  have : f = g := funext h
  rw [this]

end Go.Proofs.YtjcgngfidnechaaDoor
