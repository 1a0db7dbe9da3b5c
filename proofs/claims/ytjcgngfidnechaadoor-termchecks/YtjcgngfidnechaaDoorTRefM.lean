/- The document's marked names walked. -/
import Derived.Test.YtjcgngfidnechaaDoorTRefB
namespace Go.Proofs.YtjcgngfidnechaaDoor
open Go.RowKit Go.Maps Go.Lib

set_option maxRecDepth 100000 in
theorem refMarked_any (s : ByteArray) (w : World) (hs : s.size ≤ 9223372036854775807) :
    Calls Tryd.prog 33 #[.string s] w fun e w' => e = .returned (.bool (markB s)) ∧ Below w.heap.size w w' := by
  go_enter Tryd.func33, Tryd.ntmps33
  by_cases h0 : s.size = 0
  · have HF : Hid (markB s = false) := by show _ = _; unfold markB; rw [decide_eq_false (by omega)]; rfl
    go_wp2
    go_ret
    exact ⟨ret1b HF.out.symm, Below.refl _ _⟩
  · have h1 : 0 < s.size := by omega
    have hlast : lastB s = s[s.size - 1]'(by omega) := by
      unfold lastB
      rw [List.getD_eq_getElem?_getD, List.getElem?_eq_getElem (by rw [← Go.Lib.size_eq]; omega), Option.getD_some]
      rfl
    by_cases hc : lastB s = 35
    · have HF : Hid (markB s = nameB (validD (init1 s).data.toList) (init1 s)) := by show _ = _; unfold markB; rw [decide_eq_true h1, decide_eq_true hc]; rfl
      have hz : ((s[s.size - 1]'(by omega)).toNat : Int) = 35 := by rw [← hlast, hc]; rfl
      have hsz : (init1 s).size ≤ 9223372036854775807 := by unfold init1; rw [ByteArray.size_extract]; omega
      have HC := hid (refName_any (init1 s) w hsz)
      generalize nameB (validD (init1 s).data.toList) (init1 s) = B at HF HC
      rw [show init1 s = s.extract 0 (s.size - 1) from rfl] at HC
      clear hlast hc hsz
      go_wp2_with fail
      refine HC.out.mono ?_
      rintro e w1 ⟨rfl, hb1⟩
      go_wp2
      go_ret
      exact ⟨ret1b HF.out.symm, hb1⟩
    · have HF : Hid (markB s = false) := by show _ = _; unfold markB; rw [decide_eq_false hc]; simp
      have hz : ¬ ((s[s.size - 1]'(by omega)).toNat : Int) = 35 := fun h => hc (by
        rw [hlast]
        apply UInt8.toNat_inj.1
        show _ = 35
        omega)
      clear hlast hc
      go_wp2
      go_ret
      exact ⟨ret1b HF.out.symm, Below.refl _ _⟩

end Go.Proofs.YtjcgngfidnechaaDoor
