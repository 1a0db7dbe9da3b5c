/- What Shift, and the document's Shift, answer. -/
import Derived.Test.YtjcgngfidnechaaDoorTShift
import Derived.Shelf.Abstract
namespace Go.Proofs.YtjcgngfidnechaaDoor
open Go.RowKit Go.Maps

def okShift (d : Int) (t : List Int) : Bool := t.all fun c => !decide (c < 0) || isVarB (-1 - c + d)
def shiftE (d : Int) (t : List Int) : Int := if okShift d t = true then 0 else 40
def shiftL (d : Int) (t : List Int) : List Int := if okShift d t = true then t.map (fun c => if c < 0 then c - d else c) else []

theorem mem_metA : ∀ {t m : List Int} {c : Int}, c ∈ metA m t ↔ c ∈ m ∨ (c ∈ t ∧ c < 0)
  | [], m, c => by simp [metA]
  | a :: t, m, c => by
    unfold metA
    split
    · rename_i h
      rw [mem_metA]
      constructor
      · rintro (h1 | ⟨h1, h2⟩)
        · exact .inl h1
        · exact .inr ⟨List.mem_cons_of_mem _ h1, h2⟩
      · rintro (h1 | ⟨h1, h2⟩)
        · exact .inl h1
        · rcases List.mem_cons.1 h1 with rfl | h1
          · rcases h with h | h
            · omega
            · exact .inl h
          · exact .inr ⟨h1, h2⟩
    · rename_i h
      rw [mem_metA]
      constructor
      · rintro (h1 | ⟨h1, h2⟩)
        · rcases List.mem_append.1 h1 with h1 | h1
          · exact .inl h1
          · simp at h1
            subst h1
            exact .inr ⟨by simp, by have := fun hh => h (.inl hh); omega⟩
        · exact .inr ⟨List.mem_cons_of_mem _ h1, h2⟩
      · rintro (h1 | ⟨h1, h2⟩)
        · exact .inl (List.mem_append.2 (.inl h1))
        · rcases List.mem_cons.1 h1 with rfl | h1
          · exact .inl (by simp)
          · exact .inr ⟨h1, h2⟩

theorem mem_varsL {t : List Int} {x : Int} : x ∈ varsL t ↔ ∃ c ∈ t, c < 0 ∧ x = -1 - c := by
  unfold varsL
  rw [List.mem_map]
  constructor
  · rintro ⟨c, hc, rfl⟩
    rcases mem_metA.1 hc with h | ⟨h, h2⟩
    · cases h
    · exact ⟨c, h, h2, rfl⟩
  · rintro ⟨c, hc, h2, rfl⟩
    exact ⟨c, mem_metA.2 (.inr ⟨hc, h2⟩), rfl⟩

theorem okShift_vars {d : Int} {t : List Int} : okShift d t = true ↔ ∀ x ∈ varsL t, isVarB (x + d) = true := by
  unfold okShift
  rw [List.all_eq_true]
  constructor
  · intro h x hx
    obtain ⟨c, hc, h2, rfl⟩ := mem_varsL.1 hx
    have := h c hc
    rw [decide_eq_true h2] at this
    simpa using this
  · intro h c hc
    by_cases h2 : c < 0
    · rw [decide_eq_true h2, h _ (mem_varsL.2 ⟨c, hc, h2, rfl⟩)]
      rfl
    · rw [decide_eq_false h2]
      rfl

theorem isVarB_iff {n : Int} : isVarB n = true ↔ 0 ≤ n ∧ n < 1048576 := by
  unfold isVarB
  rw [Bool.and_eq_true, decide_eq_true_eq, decide_eq_true_eq]

theorem isVar_wrap {x d : Int} (h1 : 0 ≤ x) (h2 : x ≤ 9223372036854775807) (h3 : -9223372036854775808 ≤ d) (h4 : d ≤ 9223372036854775807) : isVarB (wrap64 (x + d)) = isVarB (x + d) := by
  by_cases h : x + d ≤ 9223372036854775807
  · rw [IntWalk.wrap64_in _ ⟨by omega, h⟩]
  · have e : wrap64 (x + d) = x + d - 18446744073709551616 := by unfold wrap64; omega
    rw [e]
    have a : isVarB (x + d - 18446744073709551616) = false := by rw [Bool.eq_false_iff]; intro hh; have := isVarB_iff.1 hh; omega
    have b : isVarB (x + d) = false := by rw [Bool.eq_false_iff]; intro hh; have := isVarB_iff.1 hh; omega
    rw [a, b]

theorem renG_shift (d : Int) : ∀ t : List Int, (renG (fun (_ : Unit) n => (n + d, ())) () t).1 = t.map fun c => if c < 0 then c - d else c
  | [] => rfl
  | c :: t => by
    unfold renG
    by_cases h : c < 0
    · rw [if_pos h, List.map_cons, if_pos h, renG_shift d t]
      show (-1 - (-1 - c + d)) :: _ = _
      rw [show -1 - (-1 - c + d) = c - d by omega]
    · rw [if_neg h, List.map_cons, if_neg h, renG_shift d t]

end Go.Proofs.YtjcgngfidnechaaDoor
