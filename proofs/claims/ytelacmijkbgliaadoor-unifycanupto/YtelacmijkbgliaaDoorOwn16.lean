/- UnifyCan: its walk. -/
import Derived.Test.YtelacmijkbgliaaDoorOwn11
import Derived.Test.YtelacmijkbgliaaDoorOwn10
import Derived.Test.YtelacmijkbgliaaDoorOwn15
namespace Go.Proofs.YtelacmijkbgliaaDoor
open Go.RowKit Go.Maps Go.BigFrame

theorem sigGo_two (sig : List Sy) : ∀ (l : List Sy) (k : Nat), sigGo sig k l ≠ 2
  | [], _ => by unfold sigGo; decide
  | s :: r, k => by
    unfold sigGo
    split
    · split
      · decide
      · split
        · decide
        · exact sigGo_two sig r (k + 1)
    · decide

theorem first_two (sig : List Sy) : ∀ (t : List Int) (m : Int) (i : Nat), (firstT sig m i t).2 ≠ 2
  | [], m, i => by unfold firstT; decide
  | c :: t, m, i => by
    rw [firstT_cons]
    cases codeD sig c with
    | none => simp
    | some x =>
      simp only
      split
      · simp
      · exact first_two sig t (m + x) (i + 1)

theorem term_two (sig : List Sy) (t : List Int) : termE sig t ≠ 2 := by
  unfold termE
  split
  · unfold rowE
    split
    · decide
    · exact first_two sig t 1 0
  · unfold sigE
    split
    · decide
    · exact sigGo_two sig sig 0

open Classical in
theorem can_of {sig : List Sy} {a b : List Int} : decide (twoE sig a b = 0 ∧ Unif sig a b) = (decide (uniE sig a b = 0) || decide (uniE sig a b = 2)) := by
  by_cases h0 : twoE sig a b = 0
  · by_cases hu : Unif sig a b
    · have e : uniE sig a b = riseE (mgG sig a b) (ysV a b) := by
        unfold uniE
        rw [if_neg (fun h => h h0), if_neg (fun h => h hu)]
      rw [e]
      unfold riseE
      split <;> simp [h0, hu]
    · rw [(uniE_no h0 hu).1]
      simp [hu]
  · have e := (uniE_two h0).1
    have h2 : twoE sig a b ≠ 2 := by
      unfold twoE
      split
      · exact term_two _ _
      · exact term_two _ _
    rw [e]
    simp [h0, h2]

set_option maxRecDepth 100000 in
set_option maxHeartbeats 1600000 in
open Classical in
theorem unifyCan_any (sv v1 v2 : Value) (sig : List Sy) (a b : List Int) (w : World) (hs : Sg w sv sig) (h1 : Is w v1 a) (h2 : Is w v2 b) (hT : Tabs w) (hl : a.length + b.length ≤ 1048576) :
    Calls Tryd.prog 4 #[sv, v1, v2] w fun e w' => e = .returned (.bool true) ∧ Below w.heap.size w w' := by
  have hsl : sig.length ≤ 9223372036854775807 := by
    obtain ⟨_, _, _, h8, h9, _⟩ := Row.flat hs
    unfold maxLen at h9
    omega
  have HS := hid hs
  have H1 := hid h1
  have H2 := hid h2
  have HT := hid hT
  obtain ⟨K, hK⟩ : ∃ K, K = decide (twoE sig a b = 0 ∧ Unif sig a b) := ⟨_, rfl⟩
  obtain ⟨E, hE⟩ : ∃ E, E = uniE sig a b := ⟨_, rfl⟩
  have HKE : Hid (K = (decide (E = 0) || decide (E = 2))) := by rw [hK, hE]; exact can_of
  have HCa := hid fun (W : World) (hW : Below w.heap.size w W) => can_any sv v1 v2 sig a b W (HS.out.kp (Kp.of_below hW)) (H1.out.kp (Kp.of_below hW)) (H2.out.kp (Kp.of_below hW)) (HT.out.below hW) (by omega)
  have HRc := hid fun (W : World) (hW : Below w.heap.size w W) => refCan6_any sv v1 v2 sig a b W (HS.out.kp (Kp.of_below hW)) (H1.out.kp (Kp.of_below hW)) (H2.out.kp (Kp.of_below hW)) hl
  rw [← hK] at HCa HRc
  have HE := hid hE
  clear hs h1 h2 hT hK hE
  go_enter Tryd.func4, Tryd.ntmps4
  go_wp2_with fail
  refine (shown6_any w HT.out).mono ?_
  rintro e w1 ⟨rfl, hb1⟩
  have B1 := hid hb1
  clear hb1
  go_wp2_with fail
  refine (HCa.out w1 B1.out).mono ?_
  rintro e w2 ⟨rfl, hb2⟩
  have B2 := hid (below_step B1.out hb2)
  clear hb2
  go_wp2_with fail
  refine (unify_any sv v1 v2 sig a b w2 (HS.out.kp (Kp.of_below B2.out)) (H1.out.kp (Kp.of_below B2.out)) (H2.out.kp (Kp.of_below B2.out)) (HT.out.below B2.out) (by omega) hsl).mono ?_
  rintro e w3 ⟨u, rfl, ho, hb3⟩
  rw [← HE.out]
  have B3 := hid (below_step B2.out hb3)
  clear hb3 ho
  go_wp2_with fail
  refine (HRc.out w3 B3.out).mono ?_
  rintro e w4 ⟨rfl, hb4⟩
  have B4 := hid (below_step B3.out hb4)
  clear hb4 HCa HRc
  by_cases h0 : E = 0
  · have hk : K = true := by rw [HKE.out]; simp [h0]
    have q0 : (E == 0) = true := by simpa using h0
    clear HKE h0
    subst hk
    go_wp2
    go_ret
    exact ⟨rfl, B4.out⟩
  · have q0 : (E == 0) = false := by simpa using h0
    by_cases h2 : E = 2
    · have hk : K = true := by rw [HKE.out]; simp [h2]
      have q2 : (E == 2) = true := by simpa using h2
      clear HKE h0 h2
      subst hk
      go_wp2
      go_ret
      exact ⟨rfl, B4.out⟩
    · have hk : K = false := by rw [HKE.out]; simp [h0, h2]
      have q2 : (E == 2) = false := by simpa using h2
      clear HKE h0 h2
      subst hk
      go_wp2
      go_ret
      exact ⟨rfl, B4.out⟩

end Go.Proofs.YtelacmijkbgliaaDoor
