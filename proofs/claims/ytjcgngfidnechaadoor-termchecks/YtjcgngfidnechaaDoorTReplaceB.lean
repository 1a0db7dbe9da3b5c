/- Replace and Above walked. -/
import Derived.Test.YtjcgngfidnechaaDoorTReplace
namespace Go.Proofs.YtjcgngfidnechaaDoor
open Go.RowKit Go.Maps Go.BigFrame

set_option maxRecDepth 100000 in
set_option maxHeartbeats 800000 in
theorem above_any (sv v : Value) (sig : List Sy) (t : List Int) (p : Int) (w : World) (hs : Sg w sv sig) (h : Is w v t) (hT : Tabs w) (hb : t.length * 16 ≤ 140737488351232) (hp1 : -9223372036854775808 ≤ p) (hp2 : p ≤ 9223372036854775807) :
    Calls Tryd.prog 22 #[sv, v, .int .i64 p] w fun e w' => ∃ v', e = .returned (.tuple #[v', .int .i64 (placeE sig t p)]) ∧ OwI w' w.heap.size v' (aboveL sig t p) ∧ Below w.heap.size w w' := by
  have HS := hid hs
  have HI := hid h
  have HT := hid hT
  have HP := hid (And.intro hp1 hp2)
  clear hs h hT hp1 hp2
  go_enter Tryd.func22, Tryd.ntmps22
  go_wp2_with fail
  refine (check_any sv v sig t w HS.out HI.out HT.out (by omega)).mono ?_
  rintro e w1 ⟨rfl, hb1⟩
  have HB1 := hid hb1
  clear hb1
  by_cases hte : termE sig t = 0
  · have HTe := hid hte
    have HPl : Hid (placeE sig t p = (endP sig t p).2) := by show _ = _; unfold placeE; rw [if_pos hte]
    have ha := sigE_ok (term_parts hte).1
    have HA := hid ha
    rw [hte]
    clear hte ha
    go_wp2_with fail
    refine (endOf_any sv v sig t p w1 (HS.out.kp (Kp.of_below HB1.out)) (HI.out.kp (Kp.of_below HB1.out)) HA.out (by omega) HP.out.1 HP.out.2).mono ?_
    rintro e w2 ⟨rfl, hw2⟩
    have hw8 := hw2.symm
    subst hw8
    clear hw2
    by_cases he : (endP sig t p).2 = 0
    · have hpl := HPl.out.trans he
      obtain ⟨_, hrt, k, _, hk, hkl, _⟩ := placeE_ok hpl
      subst hk
      have HE := hid hpl
      have HAb : Hid (aboveL sig t k = (abD sig t k).map fun i : Nat => (i : Int)) := by show _ = _; unfold aboveL; rw [if_pos hpl, Int.toNat_natCast]
      have HGr := hid (grow_any sv _ sig _ _ (HS.out.kp (Kp.of_below HB1.out)) (HI.out.kp (Kp.of_below HB1.out)) HA.out hrt hb)
      have HRt := hid hrt
      generalize (endP sig t k).1 = E1
      rw [he]
      clear hpl he hrt
      go_wp2_with fail
      refine HGr.out.mono ?_
      rintro e w2 ⟨u, T, A, rfl, hgr, htv, hA, hb2⟩
      have hsz : T.size = t.length := by
        have h1 := growR_sizes sig t
        rw [hgr] at h1
        simp only [sizes] at h1
        omega
      have hav := abv_eq HA.out t.length t (Nat.le_refl _) HRt.out T 0 k hgr hkl
      rw [Nat.zero_add] at hav
      have HAv : Hid (aboveL sig t k = abv T 0 k) := by
        show _ = _
        rw [HAb.out, hav]
        refine List.map_congr_left fun i _ => ?_
        rw [Nat.zero_add]
      have HPa := hid (placesAbove_any u T A k w2 htv (fun b hb => (hA b hb).2) (by omega) (by omega))
      have HB2 := hid (below_step HB1.out hb2)
      clear hgr htv hA hb2 hsz HGr hav HAb
      go_wp2_with fail
      refine HPa.out.mono ?_
      rintro e w3 ⟨v', rfl, ho, hb3⟩
      have HO := hid (ho.mono HB2.out.size)
      have HB3 := hid (below_step HB2.out hb3)
      clear ho hb3 HPa
      go_wp2
      go_ret2
      exact ⟨_, by rw [HE.out]; rfl, by rw [HAv.out]; exact HO.out, HB3.out⟩
    · have HK : Hid (aboveL sig t p = []) := by show _ = _; unfold aboveL; rw [if_neg (fun h => he (HPl.out.symm.trans h))]
      generalize (endP sig t p).2 = E at he HPl ⊢
      generalize (endP sig t p).1 = E1
      have heb : (E != 0) = true := by simpa using he
      go_wp2
      go_ret2
      exact ⟨_, by rw [HPl.out]; rfl, by rw [HK.out]; exact nilI _ _, HB1.out⟩
  · have HPl : Hid (placeE sig t p = termE sig t) := by show _ = _; unfold placeE; rw [if_neg hte]
    have HK : Hid (aboveL sig t p = []) := by show _ = _; unfold aboveL; rw [if_neg (fun h => hte (HPl.out.symm.trans h))]
    generalize termE sig t = E at hte HPl ⊢
    have heb : (E != 0) = true := by simpa using hte
    go_wp2
    go_ret2
    exact ⟨_, by rw [HPl.out]; rfl, by rw [HK.out]; exact nilI _ _, HB1.out⟩

/-- What is wrong with what Replace is asked. -/
def replE (sig : List Sy) (t : List Int) (p : Int) (u : List Int) : Int :=
  if termE sig t = 0 then (if rowE sig u = 0 then (if placeE sig t p = 0 then (if 512 < p.toNat + u.length + (t.length - (p.toNat + nodes sig t p.toNat)) then 2 else 0) else placeE sig t p) else rowE sig u) else termE sig t

def replL (sig : List Sy) (t : List Int) (p : Int) (u : List Int) : List Int := if replE sig t p u = 0 then t.take p.toNat ++ (u ++ t.drop (p.toNat + nodes sig t p.toNat)) else []

theorem repl_none {sig : List Sy} {t u : List Int} {p : Int} (h : replE sig t p u ≠ 0) : replL sig t p u = [] := by
  unfold replL
  rw [if_neg h]

theorem repl_ok {sig : List Sy} {t u : List Int} {k : Nat} (ht : termE sig t = 0) (hu : rowE sig u = 0) (hk : k < t.length) :
    replE sig t k u = (if 512 < k + u.length + (t.length - (k + nodes sig t k)) then 2 else 0) ∧ replL sig t k u = (if 512 < k + u.length + (t.length - (k + nodes sig t k)) then [] else t.take k ++ (u ++ t.drop (k + nodes sig t k))) := by
  have h1 : replE sig t k u = if 512 < k + u.length + (t.length - (k + nodes sig t k)) then 2 else 0 := by
    unfold replE
    rw [if_pos ht, if_pos hu, if_pos (place_in ht hk), Int.toNat_natCast]
  refine ⟨h1, ?_⟩
  unfold replL
  rw [h1, Int.toNat_natCast]
  by_cases h2 : 512 < k + u.length + (t.length - (k + nodes sig t k))
  · rw [if_pos h2, if_pos h2, if_neg (by omega)]
  · rw [if_neg h2, if_neg h2, if_pos rfl]

/-- The end of a row. -/
theorem Is.tail {w : World} {b off cap k : Nat} {t : List Int} (h : Is w (.slice (some ⟨b, off, none⟩) t.length cap) t) (hk : k ≤ t.length) : Is w (.slice (some ⟨b, if cap = k then off else off + k, none⟩) (t.length - k) (cap - k)) (t.drop k) := by
  by_cases he : k = t.length
  · subst he
    rw [List.drop_length, Nat.sub_self]
    obtain ⟨ao, cap', e, h1, h2, h3⟩ := h
    simp only [Value.slice.injEq, true_and] at e
    obtain ⟨_, rfl⟩ := e
    exact Row.nil (by omega)
  · have h1 : t.length ≤ cap := by
      obtain ⟨ao, cap', e, h1, _⟩ := h
      simp only [Value.slice.injEq, true_and] at e
      obtain ⟨_, rfl⟩ := e
      exact h1
    have h2 := h.mid (k := k) (m := t.length - k) (by omega) (by omega)
    rw [List.take_of_length_le (by rw [List.length_drop]; exact Nat.le_refl _)] at h2
    rw [if_neg (by omega)]
    exact h2

/-- The beginning of a row. -/
theorem Is.head {w : World} {b off cap k : Nat} {t : List Int} (h : Is w (.slice (some ⟨b, off, none⟩) t.length cap) t) (hk : k ≤ t.length) : Is w (.slice (some ⟨b, off, none⟩) k cap) (t.take k) := by
  obtain ⟨ao, cap', e, h1, h2, h3⟩ := h
  simp only [Value.slice.injEq, true_and] at e
  obtain ⟨rfl, rfl⟩ := e
  have hl : (t.take k).length = k := by rw [List.length_take]; omega
  refine ⟨some ⟨b, off, none⟩, cap, by rw [hl], by omega, h2, fun h0 => ?_⟩
  rw [hl] at h0
  obtain ⟨g, o, e, hg, hE⟩ := h3 (by omega)
  simp only [Option.some.injEq, Addr.mk.injEq, and_true] at e
  obtain ⟨rfl, rfl⟩ := e
  refine ⟨b, off, rfl, hg, fun j x hj => hE j x ?_⟩
  have := (List.getElem?_eq_some_iff.1 hj).1
  rw [List.getElem?_take_of_lt (by omega)] at hj
  exact hj

set_option maxRecDepth 100000 in
set_option maxHeartbeats 1600000 in
theorem replace_any (sv v uv : Value) (sig : List Sy) (t u : List Int) (p : Int) (w : World) (hs : Sg w sv sig) (h : Is w v t) (hu : Is w uv u) (hT : Tabs w) (hb : t.length * 8 ≤ 140737488351232) (hbu : u.length * 8 ≤ 140737488351232) (hp1 : -9223372036854775808 ≤ p) (hp2 : p ≤ 9223372036854775807) :
    Calls Tryd.prog 26 #[sv, v, .int .i64 p, uv] w fun e w' => ∃ v', e = .returned (.tuple #[v', .int .i64 (replE sig t p u)]) ∧ OwI w' w.heap.size v' (replL sig t p u) ∧ Below w.heap.size w w' := by
  obtain ⟨ao, cap, rfl, hao, hca, _⟩ := Row.flat h
  obtain ⟨uo, uc, rfl, huo, hcu, _⟩ := Row.flat hu
  unfold maxLen at hca hcu
  have HS := hid hs
  have HI := hid h
  have HU := hid hu
  have HT := hid hT
  have HP := hid (And.intro hp1 hp2)
  clear hs h hT hp1 hp2 hu
  go_enter Tryd.func26, Tryd.ntmps26
  go_wp2_with fail
  refine (check_any sv _ sig t w HS.out HI.out HT.out (by omega)).mono ?_
  rintro e w1 ⟨rfl, hb1⟩
  have HB1 := hid hb1
  clear hb1
  by_cases hte : termE sig t = 0
  · have HTe := hid hte
    have HPl : Hid (placeE sig t p = (endP sig t p).2) := by show _ = _; unfold placeE; rw [if_pos hte]
    have ha := sigE_ok (term_parts hte).1
    have HA := hid ha
    rw [hte]
    clear hte ha
    go_wp2_with fail
    refine (checkRow_any sv _ sig u w1 (HS.out.kp (Kp.of_below HB1.out)) (HU.out.kp (Kp.of_below HB1.out)) HA.out hbu).mono ?_
    rintro e w2 ⟨rfl, hw2⟩
    have hw8 := hw2.symm
    subst hw8
    clear hw2
    by_cases hue : rowE sig u = 0
    · have HUe := hid hue
      rw [hue]
      clear hue
      go_wp2_with fail
      refine (endOf_any sv _ sig t p w1 (HS.out.kp (Kp.of_below HB1.out)) (HI.out.kp (Kp.of_below HB1.out)) HA.out (by omega) HP.out.1 HP.out.2).mono ?_
      rintro e w2 ⟨rfl, hw2⟩
      have hw8 := hw2.symm
      subst hw8
      clear hw2
      by_cases he : (endP sig t p).2 = 0
      · have hpl := HPl.out.trans he
        obtain ⟨_, hrt, k, _, hk, hkl, _⟩ := placeE_ok hpl
        subst hk
        obtain ⟨n1, n2, n3, _⟩ := at_place HA.out hrt hkl
        obtain ⟨r1, r2⟩ := repl_ok HTe.out HUe.out hkl
        have HR1 := hid r1
        have HR2 := hid r2
        rw [place_end HTe.out hkl]
        obtain ⟨n, hn⟩ : ∃ n, n = nodes sig t k := ⟨_, rfl⟩
        rw [← hn] at n1 n2 HR1 HR2 ⊢
        obtain ⟨b, off, c0, rfl, _⟩ := HI.out.at (k := 0) (by omega)
        have hw1 : IntKind.i64.wrap ((k : Int) + (u.length : Int)) = (k : Int) + (u.length : Int) := IntWalk.i64_in _ ⟨by omega, by omega⟩
        have hw2 : IntKind.i64.wrap ((k : Int) + (u.length : Int) + (t.length : Int)) = (k : Int) + (u.length : Int) + (t.length : Int) := IntWalk.i64_in _ ⟨by omega, by omega⟩
        have hw3 : IntKind.i64.wrap ((k : Int) + (u.length : Int) + (t.length : Int) - ((k : Int) + (n : Int))) = ((k + u.length + (t.length - (k + n)) : Nat) : Int) := by rw [IntWalk.i64_in _ ⟨by omega, by omega⟩]; omega
        clear hpl he hrt n3 r1 r2 hn
        by_cases hbig : 512 < k + u.length + (t.length - (k + n))
        · rw [if_pos hbig] at HR1 HR2
          have hbg : (512 : Int) < ((k + u.length + (t.length - (k + n)) : Nat) : Int) := by omega
          go_wp2
          go_ret2
          exact ⟨_, by rw [HR1.out]; rfl, by rw [HR2.out]; exact nilI _ _, HB1.out⟩
        · rw [if_neg hbig] at HR1 HR2
          have hbg : ¬ (512 : Int) < ((k + u.length + (t.length - (k + n)) : Nat) : Int) := by omega
          have hkc : k ≤ cap := by omega
          have hknc : k + n ≤ cap := by omega
          have HCon : Hid (∀ x3 : Value, Is w1 x3 (t.drop (k + n)) → Calls Tryd.prog 43 #[.slice (some ⟨w1.heap.size, 0, none⟩) 3 3] (w1.alloc (.cells #[.slice (some ⟨b, off, none⟩) k cap, .slice uo u.length uc, x3] 27)).drew
              fun e w' => ∃ v', e = .returned v' ∧ OwI w' w1.heap.size v' (t.take k ++ (u ++ t.drop (k + n))) ∧ Below w1.heap.size w1 w') := by
            intro x3 h3
            have hbl : Below w1.heap.size w1 (w1.alloc (.cells #[.slice (some ⟨b, off, none⟩) k cap, .slice uo u.length uc, x3] 27)).drew := below_step (below_alloc _) (drawn_below1 _)
            have hkp := Kp.of_below hbl
            have i1 := ((HI.out.kp (Kp.of_below HB1.out)).head (k := k) (by omega)).kp hkp
            have i2 := (HU.out.kp (Kp.of_below HB1.out)).kp hkp
            have i3 := h3.kp hkp
            have hc : ∀ (j : Nat) (x : Value), #[Value.slice (some ⟨b, off, none⟩) k cap, .slice uo u.length uc, x3][j]? = some x → (w1.alloc (.cells #[.slice (some ⟨b, off, none⟩) k cap, .slice uo u.length uc, x3] 27)).drew.cell? ⟨w1.heap.size, j, none⟩ = some x := fun j x hj => cell_new hj
            have hl1 : (t.take k).length * 8 ≤ 140737488351232 := by rw [List.length_take]; omega
            have hl3 : (t.drop (k + n)).length * 8 ≤ 140737488351232 := by rw [List.length_drop]; omega
            have hrs : Rs (w1.alloc (.cells #[.slice (some ⟨b, off, none⟩) k cap, .slice uo u.length uc, x3] 27)).drew (.slice (some ⟨w1.heap.size, 0, none⟩) 3 3) [t.take k, u, t.drop (k + n)] :=
              rs_lit (p := [t.take k, u, t.drop (k + n)]) (by show w1.heap.size < (w1.alloc _).heap.size; simp) (by simp) ⟨⟨hl1, _, hc 0 _ rfl, i1⟩, ⟨hbu, _, hc 1 _ rfl, i2⟩, ⟨hl3, _, hc 2 _ rfl, i3⟩, trivial⟩
            refine (concat_any _ _ _ hrs (by simp only [List.map_cons, List.map_nil, List.sum_cons, List.sum_nil, List.length_take, List.length_drop]; omega)).mono ?_
            rintro e w9 ⟨v9, rfl, ho9, hb9⟩
            refine ⟨v9, rfl, ?_, below_step hbl hb9⟩
            have := ho9.mono hbl.size
            simpa using this
          have hI3 := (HI.out.kp (Kp.of_below HB1.out)).tail (k := k + n) n2
          have HC3 := hid (HCon.out _ hI3)
          clear hI3 HCon
          by_cases hcn : cap = k + n
          · subst hcn
            rw [if_pos rfl, Nat.sub_self, show t.length - (k + n) = 0 by omega] at HC3
            go_wp2_with fail
            clear hw1 hw2 hw3 hbg hbig
            go_region_with (first
              | (refine HC3.out.mono ?_; rintro e w9 ⟨v9, rfl, ho9, hb9⟩; have HO9 := hid (ho9.mono HB1.out.size); have HB9 := hid (below_step HB1.out hb9); clear ho9 hb9))
            all_goals (go_wp2; go_ret2; exact ⟨_, by rw [HR1.out]; rfl, by rw [HR2.out]; exact HO9.out, HB9.out⟩)
          · rw [if_neg hcn] at HC3
            go_wp2_with fail
            clear hw1 hw2 hw3 hbg hbig
            go_region_with (first
              | (refine HC3.out.mono ?_; rintro e w9 ⟨v9, rfl, ho9, hb9⟩; have HO9 := hid (ho9.mono HB1.out.size); have HB9 := hid (below_step HB1.out hb9); clear ho9 hb9))
            all_goals (go_wp2; go_ret2; exact ⟨_, by rw [HR1.out]; rfl, by rw [HR2.out]; exact HO9.out, HB9.out⟩)
      · have HR1 : Hid (replE sig t p u = (endP sig t p).2) := by show _ = _; unfold replE; rw [if_pos HTe.out, if_pos HUe.out, if_neg (fun h => he (HPl.out.symm.trans h)), HPl.out]
        have HR2 := hid (repl_none (fun h => he (HR1.out.symm.trans h)))
        generalize (endP sig t p).2 = E at he HPl HR1 ⊢
        generalize (endP sig t p).1 = E1
        have heb : (E != 0) = true := by simpa using he
        go_wp2
        go_ret2
        exact ⟨_, by rw [HR1.out]; rfl, by rw [HR2.out]; exact nilI _ _, HB1.out⟩
    · have HR1 : Hid (replE sig t p u = rowE sig u) := by show _ = _; unfold replE; rw [if_pos HTe.out, if_neg hue]
      have HR2 := hid (repl_none (fun h => hue (HR1.out.symm.trans h)))
      generalize rowE sig u = E at hue HR1 ⊢
      have heb : (E != 0) = true := by simpa using hue
      go_wp2
      go_ret2
      exact ⟨_, by rw [HR1.out]; rfl, by rw [HR2.out]; exact nilI _ _, HB1.out⟩
  · have HR1 : Hid (replE sig t p u = termE sig t) := by show _ = _; unfold replE; rw [if_neg hte]
    have HR2 := hid (repl_none (fun h => hte (HR1.out.symm.trans h)))
    generalize termE sig t = E at hte HR1 ⊢
    have heb : (E != 0) = true := by simpa using hte
    go_wp2
    go_ret2
    exact ⟨_, by rw [HR1.out]; rfl, by rw [HR2.out]; exact nilI _ _, HB1.out⟩

end Go.Proofs.YtjcgngfidnechaaDoor
