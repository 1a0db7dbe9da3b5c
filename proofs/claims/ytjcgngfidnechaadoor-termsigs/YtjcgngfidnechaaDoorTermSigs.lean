/- What is wrong with a signature is told as the document tells it: TermSigs walked for every signature. -/
import Derived.Test.YtjcgngfidnechaaDoorTShown3
namespace Go.Proofs.YtjcgngfidnechaaDoor
open Go.RowKit Go.Maps Go.BigFrame

set_option maxRecDepth 100000 in
set_option maxHeartbeats 800000 in
theorem termSigs_any (sv : Value) (sig : List Sy) (w : World) (hs : Sg w sv sig) (hT : Tabs w) :
    Calls Tryd.prog 3 #[sv] w fun e w' => e = .returned (.bool true) ∧ Below w.heap.size w w' := by
  have HS := hid hs
  have HT := hid hT
  clear hs hT
  go_enter Tryd.func3, Tryd.ntmps3
  go_wp2_with fail
  refine (shown3_any w HT.out).mono ?_
  rintro e w1 ⟨rfl, hb1⟩
  have HB1 := hid hb1
  clear hb1
  go_wp2_with fail
  refine (checkSig_any sv sig w1 (HS.out.kp (Kp.of_below HB1.out)) (HT.out.below HB1.out)).mono ?_
  rintro e w2 ⟨rfl, hb2⟩
  have HB2 := hid (below_step HB1.out hb2)
  clear hb2
  go_wp2_with fail
  refine (refCheckSig_any sv sig w2 (HS.out.kp (Kp.of_below HB2.out))).mono ?_
  rintro e w3 ⟨rfl, hb3⟩
  have HB3 := hid (below_step HB2.out hb3)
  clear hb3
  generalize sigE sig = E
  have hEE : (E == E) = true := by simp
  go_wp2
  go_ret
  exact ⟨rfl, HB3.out⟩

end Go.Proofs.YtjcgngfidnechaaDoor
