/- SubstChecks. -/
import Derived.Test.YtifpanfgojfbkaaDoorTBindW
import Derived.Test.YtifpanfgojfbkaaDoorTRefE
namespace Go.Proofs.YtifpanfgojfbkaaDoor
open Go.RowKit Go.Maps Go.BigFrame

set_option maxRecDepth 100000 in
set_option maxHeartbeats 1600000 in
theorem substChecks_any (sv bv : Value) (sig : List Sy) (s : List Bd) (w : World) (hs : Sg w sv sig) (hB : Bs w bv s) (hT : Tabs w) (hb : s.length * 32 ≤ 140737488351232) :
    Calls Tryd.prog 3 #[sv, bv] w fun e w' => e = .returned (.bool true) ∧ Below w.heap.size w w' := by
  have HS := hid hs
  have HBs := hid hB
  have HT := hid hT
  clear hs hB hT
  go_enter Tryd.func3, Tryd.ntmps3
  go_wp2_with fail
  refine (shown_any w HT.out).mono ?_
  rintro e w1 ⟨rfl, hb1⟩
  have HB1 := hid hb1
  clear hb1
  go_wp2_with fail
  refine (copied_any bv s w1 (HBs.out.kp (Kp.of_below HB1.out)) hb).mono ?_
  rintro e w2 ⟨v2, rfl, ho2, hb2⟩
  have HO2 := hid ho2
  have HB2 := hid (below_step HB1.out hb2)
  clear ho2 hb2 HB1
  go_wp2_with fail
  refine (substCheck_any sv v2 sig s w2 (HS.out.kp (Kp.of_below HB2.out)) HO2.out (HT.out.below HB2.out)).mono ?_
  rintro e w3 ⟨rfl, hb3⟩
  have HK3 := hid hb3
  have HB3 := hid (below_step HB2.out hb3)
  clear hb3
  go_wp2_with fail
  refine (refBinds_any sv bv sig s w3 (HS.out.kp (Kp.of_below HB3.out)) (HBs.out.kp (Kp.of_below HB3.out))).mono ?_
  rintro e w4 ⟨rfl, hb4⟩
  have HK4 := hid (below_step HK3.out hb4)
  have HB4 := hid (below_step HB3.out hb4)
  clear hb4
  generalize bindE sig s = E
  have hEE : (E == E) = true := by simp
  go_wp2_with fail
  refine (sameBinds_any v2 bv s w4 (HO2.out.kp (Kp.of_below HK4.out)) (HBs.out.kp (Kp.of_below HB4.out))).mono ?_
  rintro e w5 ⟨rfl, hb5⟩
  have HB5 := hid (below_step HB4.out hb5)
  clear hb5
  go_wp2
  go_ret
  exact ⟨rfl, HB5.out⟩

end Go.Proofs.YtifpanfgojfbkaaDoor
