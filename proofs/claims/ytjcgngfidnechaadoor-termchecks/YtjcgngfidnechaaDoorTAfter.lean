/- Binds laid, plainly; one after the other. -/
import Derived.Test.YtjcgngfidnechaaDoorTApplyC
namespace Go.Proofs.YtjcgngfidnechaaDoor
open Go.RowKit Go.Maps

/-- What comes of a row, of whatever length. -/
def laidL (f : Int → Option (List Int)) (t : List Int) : List Int := t.flatMap (piece f)

theorem layGo_eq (f : Int → Option (List Int)) : ∀ (t a : List Int), a.length ≤ 512 → layGo f a t = if 512 < a.length + (laidL f t).length then none else some (a ++ laidL f t)
  | [], a, h => by
    unfold layGo laidL
    rw [List.flatMap_nil, List.append_nil, if_neg (by simp; omega)]
  | c :: t, a, h => by
    unfold layGo
    have hl : (laidL f (c :: t)).length = (piece f c).length + (laidL f t).length := by unfold laidL; rw [List.flatMap_cons, List.length_append]
    by_cases h5 : 512 < a.length + (piece f c).length
    · rw [if_pos h5, if_pos (by omega)]
    · rw [if_neg h5, layGo_eq f t (a ++ piece f c) (by rw [List.length_append]; omega), List.length_append]
      by_cases h6 : 512 < a.length + (piece f c).length + (laidL f t).length
      · rw [if_pos h6, if_pos (by omega)]
      · rw [if_neg h6, if_neg (by omega)]
        unfold laidL
        rw [List.flatMap_cons, List.append_assoc]

theorem lay_eq (f : Int → Option (List Int)) (t : List Int) : layE f t = (if 512 < (laidL f t).length then 2 else 0) ∧ layL f t = if 512 < (laidL f t).length then [] else laidL f t := by
  unfold layE layL
  rw [layGo_eq f t [] (by simp)]
  rw [List.length_nil, Nat.zero_add, List.nil_append]
  by_cases h : 512 < (laidL f t).length
  · rw [if_pos h, if_pos h, if_pos h]
    exact ⟨rfl, rfl⟩
  · rw [if_neg h, if_neg h, if_neg h]
    exact ⟨rfl, rfl⟩

/-- One after the other: the binds that do both. -/
theorem laid_after (f g h : Int → Option (List Int)) (hh : ∀ n, h n = match f n with | some u => some (laidL g u) | none => g n) (t : List Int) : laidL h t = laidL g (laidL f t) := by
  induction t with
  | nil => rfl
  | cons c t ih =>
    unfold laidL at ih ⊢
    rw [List.flatMap_cons, List.flatMap_cons, List.flatMap_append, ih]
    congr 1
    by_cases hc : c < 0
    · unfold piece
      rw [if_pos hc, if_pos hc, hh]
      cases hf : f (-1 - c) with
      | some u => rfl
      | none =>
        show (g (-1 - c)).getD [c] = ([c]).flatMap _
        rw [List.flatMap_cons, List.flatMap_nil, List.append_nil, if_pos hc]
    · have e : ∀ k, piece k c = [c] := fun k => by unfold piece; rw [if_neg hc]
      rw [e, e, List.flatMap_cons, List.flatMap_nil, List.append_nil, e]

end Go.Proofs.YtjcgngfidnechaaDoor
