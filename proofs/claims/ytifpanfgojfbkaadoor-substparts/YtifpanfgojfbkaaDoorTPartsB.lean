/- What SubstParts asks, plainly. -/
import Derived.Test.YtifpanfgojfbkaaDoorTParts
import Derived.Test.YtifpanfgojfbkaaDoorSubstApplies
namespace Go.Proofs.YtifpanfgojfbkaaDoor
open Go.RowKit Go.Maps

theorem parts_bad {sig : List Sy} {s : List Bd} {t : List Int} (h : ¬ (termE sig t = 0 ∧ bindE sig s = 0)) : applyE sig s t ≠ 0 ∧ applyL sig s t = [] := by
  unfold applyE applyL
  by_cases hb : bindE sig s = 0
  · have ht : ¬ termE sig t = 0 := fun ht => h ⟨ht, hb⟩
    rw [if_pos hb, if_pos hb, if_neg ht, if_neg ht]
    exact ⟨ht, rfl⟩
  · rw [if_neg hb, if_neg hb]
    exact ⟨hb, rfl⟩

theorem bind_nil {sig : List Sy} {t : List Int} (h : termE sig t = 0) : bindE sig [] = 0 := by
  unfold bindE
  rw [if_pos (term_parts h).1]
  rfl

theorem parts_none {sig : List Sy} {t : List Int} (h : termE sig t = 0) : applyE sig [] t = (if 512 < t.length then 2 else 0) ∧ applyL sig [] t = if 512 < t.length then [] else t := by
  have := apply_of (bind_nil h) h
  rw [laid_none] at this
  exact this

theorem met_mem : ∀ (t m : List Int) (c : Int), (c ∈ m ∨ (c ∈ t ∧ c < 0)) → c ∈ metA m t
  | [], m, c, h => by
    rcases h with h | h
    · exact h
    · simp at h
  | d :: t, m, c, h => by
    unfold metA
    split
    · rename_i hd
      refine met_mem t m c ?_
      rcases h with h | ⟨h, h0⟩
      · exact .inl h
      · rcases List.mem_cons.1 h with rfl | h
        · rcases hd with hd | hd
          · omega
          · exact .inl hd
        · exact .inr ⟨h, h0⟩
    · refine met_mem t (m ++ [d]) c ?_
      rcases h with h | ⟨h, h0⟩
      · exact .inl (by simp [h])
      · rcases List.mem_cons.1 h with rfl | h
        · exact .inl (by simp)
        · exact .inr ⟨h, h0⟩

theorem parts_unmet {sig : List Sy} {s : List Bd} {t : List Int} (ht : termE sig t = 0) (hb : bindE sig s = 0) (h : ∀ n ∈ varsL t, ∀ b ∈ s, b.1 ≠ n) : applyE sig s t = applyE sig [] t ∧ applyL sig s t = applyL sig [] t := by
  have h1 := apply_of hb ht
  have h2 := apply_of (bind_nil ht) ht
  have h3 : laidL (bnd s) t = t := laid_unmet _ _ fun c hc h0 => by
    cases hn : bnd s (-1 - c) with
    | none => rfl
    | some x =>
      have hm := List.mem_reverse.1 (lookup_mem hn)
      exact absurd rfl (h (-1 - c) (List.mem_map.2 ⟨c, met_mem t [] c (.inr ⟨hc, h0⟩), rfl⟩) _ hm)
  rw [h3] at h1
  rw [laid_none] at h2
  exact ⟨h1.1.trans h2.1.symm, h1.2.trans h2.2.symm⟩

theorem laid_app (f : Int → Option (List Int)) (a b : List Int) : laidL f (a ++ b) = laidL f a ++ laidL f b := by
  unfold laidL
  rw [List.flatMap_append]

theorem laid_len (f : Int → Option (List Int)) (hf : ∀ n u, f n = some u → 0 < u.length) (t : List Int) : t.length ≤ (laidL f t).length := by
  unfold laidL
  induction t with
  | nil => simp
  | cons c t ih =>
    rw [List.flatMap_cons, List.length_append, List.length_cons]
    have : 1 ≤ (piece f c).length := by
      unfold piece
      split
      · cases hn : f (-1 - c) with
        | none => simp
        | some u => exact hf _ u hn
      · simp
    omega

theorem right_pos {sig : List Sy} {u : List Int} (h : rowE sig u = 0) : 0 < u.length := by
  cases u with
  | nil => simp [rowE, firstT] at h
  | cons c u => simp

/-- Where Apply is right, its term is no longer than what it makes. -/
theorem apply_small {sig : List Sy} {s : List Bd} {t : List Int} (h : applyE sig s t = 0) : t.length ≤ 512 := by
  obtain ⟨h1, h2, h3, _⟩ := apply_ok h
  have := laid_len (bnd s) (fun n u hn => right_pos (bnd_right h1 n u hn)) t
  omega

/-- An argument by itself. -/
theorem apply_part {sig : List Sy} {s : List Bd} {t p u q : List Int} (h : applyE sig s t = 0) (hu : rowE sig u = 0) (he : t = p ++ (u ++ q)) : applyE sig s u = 0 ∧ applyL sig s u = laidL (bnd s) u ∧ (laidL (bnd s) p).length + (laidL (bnd s) u).length ≤ 512 := by
  obtain ⟨h1, h2, h3, _⟩ := apply_ok h
  rw [he, laid_app, laid_app, List.length_append, List.length_append] at h3
  have htu : termE sig u = 0 := by unfold termE; rw [if_pos (term_parts h2).1]; exact hu
  have h4 := apply_of h1 htu
  rw [if_neg (by omega), if_neg (by omega)] at h4
  exact ⟨h4.1, h4.2, by omega⟩

end Go.Proofs.YtifpanfgojfbkaaDoor
