/- Shift, and back. -/
import Derived.Test.YtifpanfgojfbkabDoorTShiftB
namespace Go.Proofs.YtifpanfgojfbkabDoor
open Go.RowKit Go.Maps

theorem isVarB_iff2 {n : Int} : isVarB n = true ↔ 0 ≤ n ∧ n < 1048576 := isVarB_iff

theorem shift_cell {d c : Int} (h : c < 0 → isVarB (-1 - c + d) = true) : (if c < 0 then c - d else c) < 0 ↔ c < 0 := by
  by_cases hc : c < 0
  · have := isVarB_iff2.1 (h hc)
    rw [if_pos hc]
    omega
  · rw [if_neg hc]

theorem okShift_cons (d c : Int) (t : List Int) : okShift d (c :: t) = true ↔ (c < 0 → isVarB (-1 - c + d) = true) ∧ okShift d t = true := by
  unfold okShift
  rw [List.all_cons, Bool.and_eq_true]
  refine and_congr_left fun _ => ?_
  by_cases hc : c < 0
  · simp [hc]
  · simp [hc]

/-- What was shifted is shifted back just if all numbers were those of variables. -/
theorem shift_back (d : Int) : ∀ t : List Int, okShift d t = true → (okShift (-d) (t.map fun c => if c < 0 then c - d else c) = true ↔ ∀ c ∈ t, -1048576 ≤ c) ∧ ((t.map fun c => if c < 0 then c - d else c).map fun c => if c < 0 then c - -d else c) = t
  | [], _ => ⟨⟨fun _ c hc => (by cases hc), fun _ => rfl⟩, rfl⟩
  | c :: t, h => by
    obtain ⟨h1, h2⟩ := (okShift_cons d c t).1 h
    obtain ⟨h3, h4⟩ := shift_back d t h2
    have hs := shift_cell h1
    refine ⟨?_, ?_⟩
    · rw [List.map_cons, okShift_cons, h3, hs]
      refine ⟨fun ⟨k1, k2⟩ x hx => ?_, fun k => ⟨fun hc => ?_, fun x hx => k x (.tail _ hx)⟩⟩
      · cases hx with
        | head =>
          by_cases hc : c < 0
          · have := k1 hc
            rw [if_pos hc, isVarB_iff2] at this
            omega
          · omega
        | tail _ hx => exact k2 x hx
      · have := k c (.head _)
        rw [if_pos hc, isVarB_iff2]
        omega
    · rw [List.map_cons, List.map_cons, h4]
      congr 1
      by_cases hc : c < 0
      · rw [if_pos (hs.2 hc), if_pos hc]
        omega
      · rw [if_neg (fun h => hc (hs.1 h)), if_neg hc]

end Go.Proofs.YtifpanfgojfbkabDoor
