/- What is wrong with a row, and which variables it has, is told as the document tells it: TermChecks walked for every row over every signature. -/
import Derived.Test.YtjcgngfidnechaaDoorTShown3
import Derived.Test.YtjcgngfidnechaaDoorTRefV
namespace Go.Proofs.YtjcgngfidnechaaDoor
open Go.RowKit Go.Maps Go.BigFrame

theorem met_len : ∀ (t m : List Int), (metA m t).length ≤ m.length + t.length
  | [], m => by simp [metA]
  | c :: t, m => by
    unfold metA
    split
    · have := met_len t m
      simp only [List.length_cons]
      omega
    · have := met_len t (m ++ [c])
      simp only [List.length_append, List.length_cons, List.length_nil] at this ⊢
      omega

theorem vars_len (t : List Int) : (varsL t).length ≤ t.length := by
  unfold varsL
  rw [List.length_map]
  have := met_len t []
  simp only [List.length_nil] at this
  omega

/-- What lies in other blocks than the spoilt one stays. -/
theorem apart_keep {w : World} {b1 b2 : Nat} {v u : Value} {xs ys : List Int} (h : OwI w b1 v xs) (hb : ∀ g, v.ownBlock = some g → g < b2) (k : OwI w b2 u ys) : v.ownBlock = none ∨ v.ownBlock ≠ u.ownBlock := by
  cases hv : v.ownBlock with
  | none => exact .inl rfl
  | some g =>
    refine .inr fun e => ?_
    have h1 := hb g hv
    have h2 := own_blk k.2 e.symm
    omega

theorem apart_keep2 {w : World} {b1 b2 : Nat} {v u : Value} {xs ys : List Int} (h : OwI w b1 v xs) (hb : ∀ g, v.ownBlock = some g → g < b2) (k : OwI w b2 u ys) : u.ownBlock = none ∨ u.ownBlock ≠ v.ownBlock := by
  cases hu : u.ownBlock with
  | none => exact .inl rfl
  | some g =>
    refine .inr fun e => ?_
    have h1 := hb g e.symm
    have h2 := own_blk k.2 hu
    omega

set_option maxRecDepth 100000 in
set_option maxHeartbeats 1600000 in
theorem termChecks_any (sv v : Value) (sig : List Sy) (t : List Int) (w : World) (hs : Sg w sv sig) (h : Is w v t) (hT : Tabs w) (hb : t.length * 8 ≤ 140737488351232) :
    Calls Tryd.prog 4 #[sv, v] w fun e w' => e = .returned (.bool true) ∧ Below w.heap.size w w' := by
  have HS := hid hs
  have HT := hid hT
  have HI := hid h
  clear hs hT h
  go_enter Tryd.func4, Tryd.ntmps4
  go_wp2_with fail
  refine (shown3_any w HT.out).mono ?_
  rintro e w1 ⟨rfl, hb1⟩
  have HB1 := hid hb1
  clear hb1
  go_wp2_with fail
  refine (lent_any v t w1 (HI.out.kp (Kp.of_below HB1.out)) hb).mono ?_
  rintro e w2 ⟨g, rfl, ho2, hb2⟩
  have HA2 := hid ho2
  have HB2 := hid (below_step HB1.out hb2)
  have HG := hid (own_lt ho2.2)
  clear ho2 hb2
  go_wp2_with fail
  refine (check_any sv _ sig t w2 (HS.out.kp (Kp.of_below HB2.out)) (cutI HA2.out) (HT.out.below HB2.out) hb).mono ?_
  rintro e w3 ⟨rfl, hb3⟩
  have HK3 := hid hb3
  have HB3 := hid (below_step HB2.out hb3)
  clear hb3
  go_wp2_with fail
  refine (refCheck_any sv v sig t w3 (HS.out.kp (Kp.of_below HB3.out)) (HI.out.kp (Kp.of_below HB3.out)) hb).mono ?_
  rintro e w4 ⟨rfl, hb4⟩
  have HK4 := hid (below_step HK3.out hb4)
  have HB4 := hid (below_step HB3.out hb4)
  clear hb4 HK3 HB3
  go_wp2_with fail
  refine (vars_any _ t w4 ((cutI HA2.out).kp (Kp.of_below HK4.out)) hb).mono ?_
  rintro e w5 ⟨v5, rfl, ho5, hb5⟩
  have HV5 := hid ho5
  have HK5 := hid (below_step HK4.out hb5)
  have HB5 := hid (below_step HB4.out hb5)
  have HL5 : Hid (∀ j, v5.ownBlock = some j → j < w5.heap.size) := fun j hj => own_blk_lt ho5.2 hj
  have HC5 := hid hb5
  clear ho5 hb5 HB4
  go_wp2_with fail
  refine (refVars_any v t w5 (HI.out.kp (Kp.of_below HB5.out)) hb).mono ?_
  rintro e w6 ⟨v6, rfl, ho6, hb6⟩
  have HV6 := hid (HV5.out.later hb6)
  have HW6 := hid ho6
  have HK6 := hid (below_step HK5.out hb6)
  have HB6 := hid (below_step HB5.out hb6)
  have hvl := vars_len t
  have HC6 := hid (below_step HC5.out hb6)
  clear ho6 hb6 HB5 HV5 HK5
  go_wp2_with fail
  refine (same3_any v5 v6 _ _ w6 HV6.out.is HW6.out.is).mono ?_
  rintro e w7 ⟨rfl, n7, hw7⟩
  rw [decide_eq_true rfl]
  have hb7 := drawn_below hw7
  have HV7 := hid (HV6.out.later hb7)
  have HW7 := hid (HW6.out.later hb7)
  have HK7 := hid (below_step HK6.out hb7)
  have HB7 := hid (below_step HB6.out hb7)
  have HC7 := hid (below_step HC6.out hb7)
  clear hw7 hb7 HV6 HW6 HK6 HB6 HC6
  go_wp2_with fail
  refine (kept_any g _ v t w7 (HA2.out.later HK7.out) (HI.out.kp (Kp.of_below HB7.out)) hb).mono ?_
  rintro e w8 ⟨rfl, n8, hw8⟩
  have hb8 := drawn_below hw8
  have HV8 := hid (HV7.out.later hb8)
  have HW8 := hid (HW7.out.later hb8)
  have HK8 := hid (below_step HK7.out hb8)
  have HB8 := hid (below_step HB7.out hb8)
  have HC8 := hid (below_step HC7.out hb8)
  clear hw8 hb8 HV7 HW7 HK7 HB7 HC7
  have HSp := hid (spoil_any v5 (varsL t) _ w8 HV8.out HC8.out.size (by omega))
  go_wp2_with fail
  refine HSp.out.mono ?_
  rintro e w9 ⟨rfl, hg9⟩
  have hA8 := HA2.out.later HK8.out
  have HA9 : Hid (OwI w9 w1.heap.size (.slice (some ⟨g, 0, none⟩) (t.length + 3) (t.length + 3)) (marked t)) := hA8.kept hg9 (apart_keep hA8 (fun j hj => by cases hj; exact Nat.lt_of_lt_of_le HG.out HK4.out.size) HV8.out)
  have HW9 := hid (HW8.out.kept hg9 (apart_keep2 HV8.out HL5.out HW8.out))
  have HB9 : Hid (Below w.heap.size w w9) := HB8.out.grown hg9 HB8.out.size (fun j hj => Nat.le_trans (Nat.le_trans HB2.out.size HK4.out.size) (own_blk HV8.out.2 hj))
  clear hg9 HSp HV8 HW8 HK8 HB8 HC8 hA8
  go_wp2_with fail
  refine (vars_any _ t w9 (cutI HA9.out) hb).mono ?_
  rintro e w10 ⟨v10, rfl, ho10, hb10⟩
  have HV10 := hid ho10
  have HW10 := hid (HW9.out.later hb10)
  have HB10 := hid (below_step HB9.out hb10)
  clear ho10 hb10 HW9 HB9
  go_wp2_with fail
  refine (same3_any v10 v6 _ _ w10 HV10.out.is HW10.out.is).mono ?_
  rintro e w11 ⟨rfl, n11, hw11⟩
  rw [decide_eq_true rfl]
  have HB11 := hid (below_step HB10.out (drawn_below hw11))
  clear hw11 HB10
  generalize termE sig t = E
  have hEE : (E == E) = true := by simp
  go_wp2
  go_ret
  exact ⟨rfl, HB11.out⟩

end Go.Proofs.YtjcgngfidnechaaDoor
