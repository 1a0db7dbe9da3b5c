/- placesAbove walked. -/
import Derived.Test.YtjcgngfidnechaaDoorTAboveP
import Derived.Deep.LoopGhost
namespace Go.Proofs.YtjcgngfidnechaaDoor
open Go.RowKit Go.Maps

theorem abv_here (T : Tr) (p : Nat) : abv T p p = [] := by
  cases T with
  | var => simp [abv]
  | app ts => unfold abv; rw [if_pos rfl]

theorem sizes_drop {ts : List Tr} {j : Nat} {t : Tr} (h : ts[j]? = some t) : sizes (ts.drop j) = t.size + sizes (ts.drop (j + 1)) := by
  rw [drop_get h]
  simp only [sizes]

theorem sizes_pos {ts : List Tr} {j : Nat} (h : 0 < sizes (ts.drop j)) : j < ts.length := by
  by_cases hj : j < ts.length
  · exact hj
  · rw [List.drop_of_length_le (by omega)] at h
    simp [sizes] at h

theorem abvs_next {ts : List Tr} {j p q : Nat} {t : Tr} (h : ts[j]? = some t) : abvs (ts.drop j) p q = if p + t.size ≤ q then abvs (ts.drop (j + 1)) (p + t.size) q else abv t p q := by
  rw [drop_get h]
  rfl

set_option maxRecDepth 100000 in
set_option maxHeartbeats 3200000 in
theorem placesAbove_any (u : Value) (T : Tr) (A : Nat → Prop) (q : Nat) (w : World) (ht : TV w A u T) (hA : ∀ b, A b → b < w.heap.size) (hq : q < T.size) (hl : T.size * 8 ≤ 140737488355328) :
    Calls Tryd.prog 40 #[u, .int .i64 q] w fun e w' => ∃ v', e = .returned v' ∧ OwI w' w.heap.size v' (abv T 0 q) ∧ Below w.heap.size w w' := by
  have HA := hid hA
  have HT := hid ht
  clear hA ht
  go_enter Tryd.func40, Tryd.ntmps40
  go_wp2
  go_loopg [5, 6, 7] q (fun k x nv pv wr => ∃ (p : Nat) (S : Tr) (ab : List Int), pv = .int .i64 p ∧ p ≤ q ∧ q < p + S.size ∧ p + S.size ≤ T.size ∧ q - p ≤ k ∧ TV w A nv S ∧ abv T 0 q = ab ++ abv S p q ∧ ab.length ≤ p ∧ OwI wr w.heap.size x ab ∧ Below w.heap.size w wr)
  case atStart => exact ⟨0, T, [], rfl, Nat.zero_le _, by omega, by omega, by omega, HT.out, rfl, Nat.le_refl _, nilI _ _, Below.refl _ _⟩
  case round =>
    obtain ⟨p, S, ab, rfl, hpq, hqs, hst, hgk, htv, hab, hal, how, hbl⟩ := hrel
    have HOw := hid how
    have HB := hid hbl
    have HAb := hid hab
    clear how hbl hab HT
    by_cases hpe : p = q
    · subst hpe
      have HF : Hid (abv T 0 p = ab) := by show _ = _; rw [HAb.out, abv_here, List.append_nil]
      have hne : ((p : Int) != (p : Int)) = false := by simp
      go_wp2
      go_ret
      exact ⟨_, rfl, by rw [HF.out]; exact HOw.out, HB.out⟩
    · cases S with
      | var => simp only [Tr.size] at hqs; omega
      | app ts =>
        unfold TV at htv
        obtain ⟨b, a, cp, rfl, hb, h3, h4, h5, h6, h7⟩ := htv
        simp only [Tr.size] at hqs hst
        unfold maxLen at h6
        have hlt0 : 0 < ts.length := sizes_pos (j := 0) (by rw [List.drop_zero]; omega)
        have hne : ((p : Int) != (q : Int)) = true := by rw [bne_iff_ne]; omega
        have h3r := (HB.out.cell (p := ⟨b, 0, none⟩) (HA.out b hb)).trans h3
        obtain ⟨g, off, rfl, hAg, htvs⟩ : ∃ g off, a = some ⟨g, off, none⟩ ∧ A g ∧ TVs w A g off ts := by
          rcases h7 with h | h
          · rw [h] at hlt0; simp at hlt0
          · exact h
        have HTs := hid htvs
        have HAg := hid hAg
        have hwp : IntKind.i64.wrap ((p : Int) + 1) = ((p + 1 : Nat) : Int) := by rw [IntWalk.i64_in _ ⟨by omega, by omega⟩]; omega
        have HAp : Hid (abv T 0 q = (ab ++ [(p : Int)]) ++ abvs ts (p + 1) q) := by
          show _ = _
          rw [HAb.out, abv, if_neg hpe, List.append_assoc]
          rfl
        obtain ⟨v6, w6, hr6, ho6, hg6, _⟩ := join_one 27 (c := (p : Int)) HOw.out (by omega) (by omega) HB.out.size (by omega)
        have hb6 := (below_step HB.out (below_alloc _)).grown hg6 (Nat.le_trans HB.out.size (below_alloc _).size) (fun j hj => own_blk HOw.out.2 hj)
        have HR6 := hid hr6
        have HO6 := hid ho6
        have HB6 := hid hb6
        have hc6 := (HB6.out.cell (p := ⟨b, 0, none⟩) (HA.out b hb)).trans h3
        have has := as_app (.pointer (some ⟨b, 0, none⟩)) 54 false
        simp only [Bool.false_eq_true, if_false] at has
        clear h7 htvs hAg h3r h4 hr6 ho6 hg6 hb6 HAb HOw HB h3
        go_wp2_with (first
          | (at_builtin; refine wpList_append_run rfl _ _ _ rfl _ _ rfl rfl HR6.out ?_))
        clear has hwp hc6 HR6 hne
        go_loopg [7, 8] ts.length (fun k pv av wr => ∃ (j p2 : Nat), j < ts.length ∧ pv = .int .i64 p2 ∧ av = .slice (some ⟨g, off + j, none⟩) (ts.length - j) (cp - j) ∧ p + 1 ≤ p2 ∧ p2 ≤ q ∧ q < p2 + sizes (ts.drop j) ∧ p2 + sizes (ts.drop j) ≤ T.size ∧ ts.length - j ≤ k ∧ abvs ts (p + 1) q = abvs (ts.drop j) p2 q ∧ Below w6.heap.size w6 wr)
        case atStart => exact ⟨0, p + 1, hlt0, rfl, rfl, Nat.le_refl _, by omega, by rw [List.drop_zero]; omega, by rw [List.drop_zero]; omega, by omega, rfl, Below.refl _ _⟩
        case round =>
          obtain ⟨j, p2, hj, rfl, rfl, hp2, hp2q, hq2, hst2, hgk2, hab2, hbl2⟩ := hrel
          have HB2 := hid hbl2
          have HA2 := hid hab2
          obtain ⟨t, htk⟩ : ∃ t, ts[j]? = some t := ⟨_, List.getElem?_eq_getElem hj⟩
          obtain ⟨uv, hcu, htv⟩ := HTs.out.get htk
          have hcell : wr.cell? ⟨g, off + j, none⟩ = some uv := (HB2.out.cell (p := ⟨g, off + j, none⟩) (Nat.lt_of_lt_of_le (HA.out g HAg.out) HB6.out.size)).trans ((HB6.out.cell (p := ⟨g, off + j, none⟩) (HA.out g HAg.out)).trans hcu)
          have hsd := sizes_drop htk
          have hnx : abvs ts (p + 1) q = if p2 + t.size ≤ q then abvs (ts.drop (j + 1)) (p2 + t.size) q else abv t p2 q := by rw [HA2.out, abvs_next htk]
          have HNx := hid hnx
          have hlj : 0 < ts.length - j := by omega
          clear hab2 hbl2 hcu htk hnx HA2
          by_cases hfar : p2 + t.size ≤ q
          · have HNf : Hid (abvs ts (p + 1) q = abvs (ts.drop (j + 1)) (p2 + t.size) q) := by show _ = _; rw [HNx.out, if_pos hfar]
            have hj2 : j + 1 < ts.length := sizes_pos (by omega)
            have hcj : ¬ cp - j = 1 := by omega
            have hcj1 : 1 ≤ cp - j := by omega
            have hlj1 : 1 ≤ ts.length - j := by omega
            have HCp : Hid (cp - j - 1 = cp - (j + 1)) := by show _ = _; omega
            have HLn : Hid (ts.length - j - 1 = ts.length - (j + 1)) := by show _ = _; omega
            have hts := t.pos
            clear HNx
            cases t with
            | var =>
              unfold TV at htv
              subst htv
              simp only [Tr.size] at hfar hsd hts HNf
              have hw1 : IntKind.i64.wrap ((p2 : Int) + 1) = ((p2 + 1 : Nat) : Int) := by rw [IntWalk.i64_in _ ⟨by omega, by omega⟩]; omega
              have hge : ((p2 + 1 : Nat) : Int) ≤ (q : Int) := by omega
              go_wp2_with fail
              refine (varNodes_any _).mono ?_
              rintro e w2 ⟨rfl, hb2⟩
              have HB3 := hid (below_step HB2.out hb2)
              have hcell2 := (Kp.of_below hb2).cell _ _ hcell
              clear hb2 hcell
              go_wp2_with fail
              refine (varNodes_any _).mono ?_
              rintro e w3 ⟨rfl, hb3⟩
              have HB4 := hid (below_step HB3.out hb3)
              clear hb3 hcell2
              go_wp2
              go_roundg (ts.length - (j + 1))
              case measure => omega
              case rel => exact ⟨j + 1, p2 + 1, hj2, by go_num, by rw [← HCp.out, ← HLn.out]; rfl, by omega, by omega, by omega, by omega, Nat.le_refl _, HNf.out, HB4.out⟩
            | app rs =>
              unfold TV at htv
              obtain ⟨b2, a2, cp2, rfl, hb2, _, h4, _, _, _⟩ := htv
              have h4r : wr.cell? ⟨b2, 1, none⟩ = _ := (HB2.out.cell (p := ⟨b2, 1, none⟩) (Nat.lt_of_lt_of_le (HA.out b2 hb2) HB6.out.size)).trans ((HB6.out.cell (p := ⟨b2, 1, none⟩) (HA.out b2 hb2)).trans h4)
              simp only [Tr.size] at hfar hsd hts HNf
              obtain ⟨Z, hZ⟩ : ∃ Z, Z = 1 + sizes rs := ⟨_, rfl⟩
              rw [← hZ] at hfar hsd hts HNf h4r
              have hw1 : IntKind.i64.wrap ((p2 : Int) + (Z : Int)) = ((p2 + Z : Nat) : Int) := by rw [IntWalk.i64_in _ ⟨by omega, by omega⟩]; omega
              have hge : ((p2 + Z : Nat) : Int) ≤ (q : Int) := by omega
              clear h4 hZ
              go_wp2_with fail
              refine (appNodes_any b2 _ _ h4r).mono ?_
              rintro e w2 ⟨rfl, hw2⟩
              have hw8 := hw2.symm
              subst hw8
              clear hw2
              go_wp2_with fail
              refine (appNodes_any b2 _ _ h4r).mono ?_
              rintro e w3 ⟨rfl, hw3⟩
              have hw8 := hw3.symm
              subst hw8
              clear hw3 h4r hcell
              go_wp2
              go_roundg (ts.length - (j + 1))
              case measure => omega
              case rel => exact ⟨j + 1, p2 + Z, hj2, by go_num, by rw [← HCp.out, ← HLn.out]; rfl, by omega, by omega, by omega, by omega, Nat.le_refl _, HNf.out, HB2.out⟩
          · have HNf : Hid (abv T 0 q = (ab ++ [(p : Int)]) ++ abv t p2 q) := by show _ = _; rw [HAp.out, HNx.out, if_neg hfar]
            have HTv := hid htv
            have hts := t.pos
            clear HNx
            cases t with
            | var =>
              unfold TV at htv
              subst htv
              simp only [Tr.size] at hfar hsd hts
              have hw1 : IntKind.i64.wrap ((p2 : Int) + 1) = ((p2 + 1 : Nat) : Int) := by rw [IntWalk.i64_in _ ⟨by omega, by omega⟩]; omega
              have hge : ¬ ((p2 + 1 : Nat) : Int) ≤ (q : Int) := by omega
              go_wp2_with fail
              refine (varNodes_any _).mono ?_
              rintro e w2 ⟨rfl, hb2⟩
              have HB3 := hid (below_step HB6.out (below_step HB2.out hb2))
              have HO3 := hid (HO6.out.later (below_step HB2.out hb2))
              have hcell2 := (Kp.of_below hb2).cell _ _ hcell
              clear hb2 hcell
              go_wp2
              go_roundg (q - p2)
              case measure => omega
              case rel => exact ⟨p2, .var, ab ++ [(p : Int)], rfl, hp2q, by simp only [Tr.size]; omega, by simp only [Tr.size]; omega, Nat.le_refl _, HTv.out, HNf.out, by rw [List.length_append, List.length_singleton]; omega, HO3.out, HB3.out⟩
            | app rs =>
              unfold TV at htv
              obtain ⟨b2, a2, cp2, rfl, hb2, _, h4, _, _, _⟩ := htv
              have h4r : wr.cell? ⟨b2, 1, none⟩ = _ := (HB2.out.cell (p := ⟨b2, 1, none⟩) (Nat.lt_of_lt_of_le (HA.out b2 hb2) HB6.out.size)).trans ((HB6.out.cell (p := ⟨b2, 1, none⟩) (HA.out b2 hb2)).trans h4)
              simp only [Tr.size] at hfar hsd hts
              obtain ⟨Z, hZ⟩ : ∃ Z, Z = 1 + sizes rs := ⟨_, rfl⟩
              rw [← hZ] at hfar hsd hts h4r
              have HZ := hid hZ
              have hw1 : IntKind.i64.wrap ((p2 : Int) + (Z : Int)) = ((p2 + Z : Nat) : Int) := by rw [IntWalk.i64_in _ ⟨by omega, by omega⟩]; omega
              have hge : ¬ ((p2 + Z : Nat) : Int) ≤ (q : Int) := by omega
              have HB3 := hid (below_step HB6.out HB2.out)
              have HO3 := hid (HO6.out.later HB2.out)
              clear h4 hZ
              go_wp2_with fail
              refine (appNodes_any b2 _ _ h4r).mono ?_
              rintro e w2 ⟨rfl, hw2⟩
              have hw8 := hw2.symm
              subst hw8
              clear hw2 h4r
              go_wp2
              go_roundg (q - p2)
              case measure => omega
              case rel => exact ⟨p2, .app rs, ab ++ [(p : Int)], rfl, hp2q, by simp only [Tr.size]; rw [← HZ.out]; omega, by simp only [Tr.size]; rw [← HZ.out]; omega, Nat.le_refl _, HTv.out, HNf.out, by rw [List.length_append, List.length_singleton]; omega, HO3.out, HB3.out⟩

end Go.Proofs.YtjcgngfidnechaaDoor
