/- Texts of the proof, one behind the other. -/
import Derived.Test.YtjcgngfidnechabDoorOwn8
import Derived.Test.YtjcgngfidnechabDoorOwn4
import Derived.Test.YtjcgngfidnechabDoorOwn7
/- Replace and Above walked. -/
namespace Go.Proofs.YtjcgngfidnechabDoor
open Go.RowKit Go.Maps Go.BigFrame

set_option maxRecDepth 100000 in
set_option maxHeartbeats 800000 in
theorem above_any (sv v : Value) (sig : List Sy) (t : List Int) (p : Int) (w : World) (hs : Sg w sv sig) (h : Is w v t) (hT : Tabs w) (hb : t.length * 16 ≤ 140737488351232) (hp1 : -9223372036854775808 ≤ p) (hp2 : p ≤ 9223372036854775807) :
    Calls Tryd.prog 31 #[sv, v, .int .i64 p] w fun e w' => ∃ v', e = .returned (.tuple #[v', .int .i64 (placeE sig t p)]) ∧ OwI w' w.heap.size v' (aboveL sig t p) ∧ Below w.heap.size w w' := by
  have HS := hid hs
  have HI := hid h
  have HT := hid hT
  have HP := hid (And.intro hp1 hp2)
  clear hs h hT hp1 hp2
  go_enter Tryd.func31, Tryd.ntmps31
  go_wp2_with fail
  refine (check_any sv v sig t w HS.out HI.out HT.out (by omega)).mono ?_
  rintro e w1 ⟨rfl, hb1⟩
  have HB1 := hid hb1
  clear hb1
  by_cases hte : termE sig t = 0
  · have HTe := hid hte
    have HPl : Hid (placeE sig t p = (endP sig t p).2) := by show _ = _; unfold placeE; rw [if_pos hte]
    have ha := sigE_ok (term_parts hte).1
    have HA := hid ha
    rw [hte]
    clear hte ha
    go_wp2_with fail
    refine (endOf_any sv v sig t p w1 (HS.out.kp (Kp.of_below HB1.out)) (HI.out.kp (Kp.of_below HB1.out)) HA.out (by omega) HP.out.1 HP.out.2).mono ?_
    rintro e w2 ⟨rfl, hw2⟩
    have hw8 := hw2.symm
    subst hw8
    clear hw2
    by_cases he : (endP sig t p).2 = 0
    · have hpl := HPl.out.trans he
      obtain ⟨_, hrt, k, _, hk, hkl, _⟩ := placeE_ok hpl
      subst hk
      have HE := hid hpl
      have HAb : Hid (aboveL sig t k = (abD sig t k).map fun i : Nat => (i : Int)) := by show _ = _; unfold aboveL; rw [if_pos hpl, Int.toNat_natCast]
      have HGr := hid (grow_any sv _ sig _ _ (HS.out.kp (Kp.of_below HB1.out)) (HI.out.kp (Kp.of_below HB1.out)) HA.out hrt hb)
      have HRt := hid hrt
      generalize (endP sig t k).1 = E1
      rw [he]
      clear hpl he hrt
      go_wp2_with fail
      refine HGr.out.mono ?_
      rintro e w2 ⟨u, T, A, rfl, hgr, htv, hA, hb2⟩
      have hsz : T.size = t.length := by
        have h1 := growR_sizes sig t
        rw [hgr] at h1
        simp only [sizes] at h1
        omega
      have hav := abv_eq HA.out t.length t (Nat.le_refl _) HRt.out T 0 k hgr hkl
      rw [Nat.zero_add] at hav
      have HAv : Hid (aboveL sig t k = abv T 0 k) := by
        show _ = _
        rw [HAb.out, hav]
        refine List.map_congr_left fun i _ => ?_
        rw [Nat.zero_add]
      have HPa := hid (placesAbove_any u T A k w2 htv (fun b hb => (hA b hb).2) (by omega) (by omega))
      have HB2 := hid (below_step HB1.out hb2)
      clear hgr htv hA hb2 hsz HGr hav HAb
      go_wp2_with fail
      refine HPa.out.mono ?_
      rintro e w3 ⟨v', rfl, ho, hb3⟩
      have HO := hid (ho.mono HB2.out.size)
      have HB3 := hid (below_step HB2.out hb3)
      clear ho hb3 HPa
      go_wp2
      go_ret2
      exact ⟨_, by rw [HE.out]; rfl, by rw [HAv.out]; exact HO.out, HB3.out⟩
    · have HK : Hid (aboveL sig t p = []) := by show _ = _; unfold aboveL; rw [if_neg (fun h => he (HPl.out.symm.trans h))]
      generalize (endP sig t p).2 = E at he HPl ⊢
      generalize (endP sig t p).1 = E1
      have heb : (E != 0) = true := by simpa using he
      go_wp2
      go_ret2
      exact ⟨_, by rw [HPl.out]; rfl, by rw [HK.out]; exact nilI _ _, HB1.out⟩
  · have HPl : Hid (placeE sig t p = termE sig t) := by show _ = _; unfold placeE; rw [if_neg hte]
    have HK : Hid (aboveL sig t p = []) := by show _ = _; unfold aboveL; rw [if_neg (fun h => hte (HPl.out.symm.trans h))]
    generalize termE sig t = E at hte HPl ⊢
    have heb : (E != 0) = true := by simpa using hte
    go_wp2
    go_ret2
    exact ⟨_, by rw [HPl.out]; rfl, by rw [HK.out]; exact nilI _ _, HB1.out⟩

/-- What is wrong with what Replace is asked. -/
def replE (sig : List Sy) (t : List Int) (p : Int) (u : List Int) : Int :=
  if termE sig t = 0 then (if rowE sig u = 0 then (if placeE sig t p = 0 then (if 512 < p.toNat + u.length + (t.length - (p.toNat + nodes sig t p.toNat)) then 2 else 0) else placeE sig t p) else rowE sig u) else termE sig t

def replL (sig : List Sy) (t : List Int) (p : Int) (u : List Int) : List Int := if replE sig t p u = 0 then t.take p.toNat ++ (u ++ t.drop (p.toNat + nodes sig t p.toNat)) else []

theorem repl_none {sig : List Sy} {t u : List Int} {p : Int} (h : replE sig t p u ≠ 0) : replL sig t p u = [] := by
  unfold replL
  rw [if_neg h]

theorem repl_ok {sig : List Sy} {t u : List Int} {k : Nat} (ht : termE sig t = 0) (hu : rowE sig u = 0) (hk : k < t.length) :
    replE sig t k u = (if 512 < k + u.length + (t.length - (k + nodes sig t k)) then 2 else 0) ∧ replL sig t k u = (if 512 < k + u.length + (t.length - (k + nodes sig t k)) then [] else t.take k ++ (u ++ t.drop (k + nodes sig t k))) := by
  have h1 : replE sig t k u = if 512 < k + u.length + (t.length - (k + nodes sig t k)) then 2 else 0 := by
    unfold replE
    rw [if_pos ht, if_pos hu, if_pos (place_in ht hk), Int.toNat_natCast]
  refine ⟨h1, ?_⟩
  unfold replL
  rw [h1, Int.toNat_natCast]
  by_cases h2 : 512 < k + u.length + (t.length - (k + nodes sig t k))
  · rw [if_pos h2, if_pos h2, if_neg (by omega)]
  · rw [if_neg h2, if_neg h2, if_pos rfl]

/-- The end of a row. -/
theorem Is.tail {w : World} {b off cap k : Nat} {t : List Int} (h : Is w (.slice (some ⟨b, off, none⟩) t.length cap) t) (hk : k ≤ t.length) : Is w (.slice (some ⟨b, if cap = k then off else off + k, none⟩) (t.length - k) (cap - k)) (t.drop k) := by
  by_cases he : k = t.length
  · subst he
    rw [List.drop_length, Nat.sub_self]
    obtain ⟨ao, cap', e, h1, h2, h3⟩ := h
    simp only [Value.slice.injEq, true_and] at e
    obtain ⟨_, rfl⟩ := e
    exact Row.nil (by omega)
  · have h1 : t.length ≤ cap := by
      obtain ⟨ao, cap', e, h1, _⟩ := h
      simp only [Value.slice.injEq, true_and] at e
      obtain ⟨_, rfl⟩ := e
      exact h1
    have h2 := h.mid (k := k) (m := t.length - k) (by omega) (by omega)
    rw [List.take_of_length_le (by rw [List.length_drop]; exact Nat.le_refl _)] at h2
    rw [if_neg (by omega)]
    exact h2

/-- The beginning of a row. -/
theorem Is.head {w : World} {b off cap k : Nat} {t : List Int} (h : Is w (.slice (some ⟨b, off, none⟩) t.length cap) t) (hk : k ≤ t.length) : Is w (.slice (some ⟨b, off, none⟩) k cap) (t.take k) := by
  obtain ⟨ao, cap', e, h1, h2, h3⟩ := h
  simp only [Value.slice.injEq, true_and] at e
  obtain ⟨rfl, rfl⟩ := e
  have hl : (t.take k).length = k := by rw [List.length_take]; omega
  refine ⟨some ⟨b, off, none⟩, cap, by rw [hl], by omega, h2, fun h0 => ?_⟩
  rw [hl] at h0
  obtain ⟨g, o, e, hg, hE⟩ := h3 (by omega)
  simp only [Option.some.injEq, Addr.mk.injEq, and_true] at e
  obtain ⟨rfl, rfl⟩ := e
  refine ⟨b, off, rfl, hg, fun j x hj => hE j x ?_⟩
  have := (List.getElem?_eq_some_iff.1 hj).1
  rw [List.getElem?_take_of_lt (by omega)] at hj
  exact hj

set_option maxRecDepth 100000 in
set_option maxHeartbeats 1600000 in
theorem replace_any (sv v uv : Value) (sig : List Sy) (t u : List Int) (p : Int) (w : World) (hs : Sg w sv sig) (h : Is w v t) (hu : Is w uv u) (hT : Tabs w) (hb : t.length * 8 ≤ 140737488351232) (hbu : u.length * 8 ≤ 140737488351232) (hp1 : -9223372036854775808 ≤ p) (hp2 : p ≤ 9223372036854775807) :
    Calls Tryd.prog 14 #[sv, v, .int .i64 p, uv] w fun e w' => ∃ v', e = .returned (.tuple #[v', .int .i64 (replE sig t p u)]) ∧ OwI w' w.heap.size v' (replL sig t p u) ∧ Below w.heap.size w w' := by
  obtain ⟨ao, cap, rfl, hao, hca, _⟩ := Row.flat h
  obtain ⟨uo, uc, rfl, huo, hcu, _⟩ := Row.flat hu
  unfold maxLen at hca hcu
  have HS := hid hs
  have HI := hid h
  have HU := hid hu
  have HT := hid hT
  have HP := hid (And.intro hp1 hp2)
  clear hs h hT hp1 hp2 hu
  go_enter Tryd.func14, Tryd.ntmps14
  go_wp2_with fail
  refine (check_any sv _ sig t w HS.out HI.out HT.out (by omega)).mono ?_
  rintro e w1 ⟨rfl, hb1⟩
  have HB1 := hid hb1
  clear hb1
  by_cases hte : termE sig t = 0
  · have HTe := hid hte
    have HPl : Hid (placeE sig t p = (endP sig t p).2) := by show _ = _; unfold placeE; rw [if_pos hte]
    have ha := sigE_ok (term_parts hte).1
    have HA := hid ha
    rw [hte]
    clear hte ha
    go_wp2_with fail
    refine (checkRow_any sv _ sig u w1 (HS.out.kp (Kp.of_below HB1.out)) (HU.out.kp (Kp.of_below HB1.out)) HA.out hbu).mono ?_
    rintro e w2 ⟨rfl, hw2⟩
    have hw8 := hw2.symm
    subst hw8
    clear hw2
    by_cases hue : rowE sig u = 0
    · have HUe := hid hue
      rw [hue]
      clear hue
      go_wp2_with fail
      refine (endOf_any sv _ sig t p w1 (HS.out.kp (Kp.of_below HB1.out)) (HI.out.kp (Kp.of_below HB1.out)) HA.out (by omega) HP.out.1 HP.out.2).mono ?_
      rintro e w2 ⟨rfl, hw2⟩
      have hw8 := hw2.symm
      subst hw8
      clear hw2
      by_cases he : (endP sig t p).2 = 0
      · have hpl := HPl.out.trans he
        obtain ⟨_, hrt, k, _, hk, hkl, _⟩ := placeE_ok hpl
        subst hk
        obtain ⟨n1, n2, n3, _⟩ := at_place HA.out hrt hkl
        obtain ⟨r1, r2⟩ := repl_ok HTe.out HUe.out hkl
        have HR1 := hid r1
        have HR2 := hid r2
        rw [place_end HTe.out hkl]
        obtain ⟨n, hn⟩ : ∃ n, n = nodes sig t k := ⟨_, rfl⟩
        rw [← hn] at n1 n2 HR1 HR2 ⊢
        obtain ⟨b, off, c0, rfl, _⟩ := HI.out.at (k := 0) (by omega)
        have hw1 : IntKind.i64.wrap ((k : Int) + (u.length : Int)) = (k : Int) + (u.length : Int) := IntWalk.i64_in _ ⟨by omega, by omega⟩
        have hw2 : IntKind.i64.wrap ((k : Int) + (u.length : Int) + (t.length : Int)) = (k : Int) + (u.length : Int) + (t.length : Int) := IntWalk.i64_in _ ⟨by omega, by omega⟩
        have hw3 : IntKind.i64.wrap ((k : Int) + (u.length : Int) + (t.length : Int) - ((k : Int) + (n : Int))) = ((k + u.length + (t.length - (k + n)) : Nat) : Int) := by rw [IntWalk.i64_in _ ⟨by omega, by omega⟩]; omega
        clear hpl he hrt n3 r1 r2 hn
        by_cases hbig : 512 < k + u.length + (t.length - (k + n))
        · rw [if_pos hbig] at HR1 HR2
          have hbg : (512 : Int) < ((k + u.length + (t.length - (k + n)) : Nat) : Int) := by omega
          go_wp2
          go_ret2
          exact ⟨_, by rw [HR1.out]; rfl, by rw [HR2.out]; exact nilI _ _, HB1.out⟩
        · rw [if_neg hbig] at HR1 HR2
          have hbg : ¬ (512 : Int) < ((k + u.length + (t.length - (k + n)) : Nat) : Int) := by omega
          have hkc : k ≤ cap := by omega
          have hknc : k + n ≤ cap := by omega
          have HCon : Hid (∀ x3 : Value, Is w1 x3 (t.drop (k + n)) → Calls Tryd.prog 39 #[.slice (some ⟨w1.heap.size, 0, none⟩) 3 3] (w1.alloc (.cells #[.slice (some ⟨b, off, none⟩) k cap, .slice uo u.length uc, x3] 23)).drew
              fun e w' => ∃ v', e = .returned v' ∧ OwI w' w1.heap.size v' (t.take k ++ (u ++ t.drop (k + n))) ∧ Below w1.heap.size w1 w') := by
            intro x3 h3
            have hbl : Below w1.heap.size w1 (w1.alloc (.cells #[.slice (some ⟨b, off, none⟩) k cap, .slice uo u.length uc, x3] 23)).drew := below_step (below_alloc _) (drawn_below1 _)
            have hkp := Kp.of_below hbl
            have i1 := ((HI.out.kp (Kp.of_below HB1.out)).head (k := k) (by omega)).kp hkp
            have i2 := (HU.out.kp (Kp.of_below HB1.out)).kp hkp
            have i3 := h3.kp hkp
            have hc : ∀ (j : Nat) (x : Value), #[Value.slice (some ⟨b, off, none⟩) k cap, .slice uo u.length uc, x3][j]? = some x → (w1.alloc (.cells #[.slice (some ⟨b, off, none⟩) k cap, .slice uo u.length uc, x3] 23)).drew.cell? ⟨w1.heap.size, j, none⟩ = some x := fun j x hj => cell_new hj
            have hl1 : (t.take k).length * 8 ≤ 140737488351232 := by rw [List.length_take]; omega
            have hl3 : (t.drop (k + n)).length * 8 ≤ 140737488351232 := by rw [List.length_drop]; omega
            have hrs : Rs (w1.alloc (.cells #[.slice (some ⟨b, off, none⟩) k cap, .slice uo u.length uc, x3] 23)).drew (.slice (some ⟨w1.heap.size, 0, none⟩) 3 3) [t.take k, u, t.drop (k + n)] :=
              rs_lit (p := [t.take k, u, t.drop (k + n)]) (by show w1.heap.size < (w1.alloc _).heap.size; simp) (by simp) ⟨⟨hl1, _, hc 0 _ rfl, i1⟩, ⟨hbu, _, hc 1 _ rfl, i2⟩, ⟨hl3, _, hc 2 _ rfl, i3⟩, trivial⟩
            refine (concat_any _ _ _ hrs (by simp only [List.map_cons, List.map_nil, List.sum_cons, List.sum_nil, List.length_take, List.length_drop]; omega)).mono ?_
            rintro e w9 ⟨v9, rfl, ho9, hb9⟩
            refine ⟨v9, rfl, ?_, below_step hbl hb9⟩
            have := ho9.mono hbl.size
            simpa using this
          have hI3 := (HI.out.kp (Kp.of_below HB1.out)).tail (k := k + n) n2
          have HC3 := hid (HCon.out _ hI3)
          clear hI3 HCon
          by_cases hcn : cap = k + n
          · subst hcn
            rw [if_pos rfl, Nat.sub_self, show t.length - (k + n) = 0 by omega] at HC3
            go_wp2_with fail
            clear hw1 hw2 hw3 hbg hbig
            go_region_with (first
              | (refine HC3.out.mono ?_; rintro e w9 ⟨v9, rfl, ho9, hb9⟩; have HO9 := hid (ho9.mono HB1.out.size); have HB9 := hid (below_step HB1.out hb9); clear ho9 hb9))
            all_goals (go_wp2; go_ret2; exact ⟨_, by rw [HR1.out]; rfl, by rw [HR2.out]; exact HO9.out, HB9.out⟩)
          · rw [if_neg hcn] at HC3
            go_wp2_with fail
            clear hw1 hw2 hw3 hbg hbig
            go_region_with (first
              | (refine HC3.out.mono ?_; rintro e w9 ⟨v9, rfl, ho9, hb9⟩; have HO9 := hid (ho9.mono HB1.out.size); have HB9 := hid (below_step HB1.out hb9); clear ho9 hb9))
            all_goals (go_wp2; go_ret2; exact ⟨_, by rw [HR1.out]; rfl, by rw [HR2.out]; exact HO9.out, HB9.out⟩)
      · have HR1 : Hid (replE sig t p u = (endP sig t p).2) := by show _ = _; unfold replE; rw [if_pos HTe.out, if_pos HUe.out, if_neg (fun h => he (HPl.out.symm.trans h)), HPl.out]
        have HR2 := hid (repl_none (fun h => he (HR1.out.symm.trans h)))
        generalize (endP sig t p).2 = E at he HPl HR1 ⊢
        generalize (endP sig t p).1 = E1
        have heb : (E != 0) = true := by simpa using he
        go_wp2
        go_ret2
        exact ⟨_, by rw [HR1.out]; rfl, by rw [HR2.out]; exact nilI _ _, HB1.out⟩
    · have HR1 : Hid (replE sig t p u = rowE sig u) := by show _ = _; unfold replE; rw [if_pos HTe.out, if_neg hue]
      have HR2 := hid (repl_none (fun h => hue (HR1.out.symm.trans h)))
      generalize rowE sig u = E at hue HR1 ⊢
      have heb : (E != 0) = true := by simpa using hue
      go_wp2
      go_ret2
      exact ⟨_, by rw [HR1.out]; rfl, by rw [HR2.out]; exact nilI _ _, HB1.out⟩
  · have HR1 : Hid (replE sig t p u = termE sig t) := by show _ = _; unfold replE; rw [if_neg hte]
    have HR2 := hid (repl_none (fun h => hte (HR1.out.symm.trans h)))
    generalize termE sig t = E at hte HR1 ⊢
    have heb : (E != 0) = true := by simpa using hte
    go_wp2
    go_ret2
    exact ⟨_, by rw [HR1.out]; rfl, by rw [HR2.out]; exact nilI _ _, HB1.out⟩

end Go.Proofs.YtjcgngfidnechabDoor

/- Terms with a part replaced, plainly. -/
namespace Go.Proofs.YtjcgngfidnechabDoor
open Go.RowKit Go.Maps Go.BigFrame

/-- What stands ahead of a place only counts what is missing there. -/
theorem first_pre {sig : List Sy} (ha : ArOk sig) (s : List Int) : ∀ (p : List Int) (m : Int) (j : Nat), 1 ≤ m → s ≠ [] → firstT sig m j (p ++ s) = ((j : Int) + (p ++ s).length, 0) → ∃ m' : Int, 1 ≤ m' ∧ ∀ r : List Int, firstT sig m j (p ++ r) = firstT sig m' (j + p.length) r
  | [], m, j, hm, _, _ => ⟨m, hm, fun r => rfl⟩
  | c :: p, m, j, hm, hs, h => by
    rw [List.cons_append, firstT_cons] at h
    cases hc : codeD sig c with
    | none => rw [hc] at h; simp at h
    | some e =>
      have he := codeD_ge ha hc
      rw [hc] at h
      simp only at h
      by_cases h0 : m + e = 0
      · rw [if_pos h0] at h
        have h1 := congrArg Prod.fst h
        have h2 : 0 < s.length := by
          cases s with
          | nil => exact absurd rfl hs
          | cons a s => simp
        simp only [List.length_cons, List.length_append] at h1
        omega
      · rw [if_neg h0] at h
        obtain ⟨m', h1, h2⟩ := first_pre ha s p (m + e) (j + 1) (by omega) hs (by rw [h]; simp only [List.length_cons, Prod.mk.injEq, and_true]; omega)
        refine ⟨m', h1, fun r => ?_⟩
        rw [List.cons_append, firstT_cons, hc]
        simp only
        rw [if_neg h0, h2 r, List.length_cons]
        congr 1
        omega

theorem first_move {sig : List Sy} : ∀ (r : List Int) (m : Int) (i j : Nat) (n : Nat), firstT sig m i r = ((i : Int) + n, 0) → firstT sig m j r = ((j : Int) + n, 0)
  | [], m, i, j, n, h => by simp [firstT] at h
  | c :: r, m, i, j, n, h => by
    rw [firstT_cons] at h ⊢
    cases hc : codeD sig c with
    | none => rw [hc] at h; simp at h
    | some e =>
      rw [hc] at h
      simp only at h ⊢
      by_cases h0 : m + e = 0
      · rw [if_pos h0] at h ⊢
        have := congrArg Prod.fst h
        simp only at this
        simp only [Prod.mk.injEq, and_true]
        omega
      · rw [if_neg h0] at h ⊢
        cases n with
        | zero =>
          exfalso
          obtain ⟨k, h1, h2, _⟩ := first_take r (m + e) (i + 1) _ h
          omega
        | succ n =>
          have := first_move r (m + e) (i + 1) (j + 1) n (by rw [h]; simp only [Prod.mk.injEq, and_true]; omega)
          rw [this]
          simp only [Prod.mk.injEq, and_true]
          omega

theorem right_len {sig : List Sy} {u : List Int} (h : rowE sig u = 0) : 0 < u.length := by
  cases u with
  | nil => simp [rowE, firstT] at h
  | cons c u => simp

/-- A right term with a right part replaced by a right term is one. -/
theorem right_mid {sig : List Sy} (ha : ArOk sig) {p v u q : List Int} (h : rowE sig (p ++ (v ++ q)) = 0) (hv : rowE sig v = 0) (hu : rowE sig u = 0) : rowE sig (p ++ (u ++ q)) = 0 := by
  have hvl := right_len hv
  have hvn : v ++ q ≠ [] := by
    intro e
    have := congrArg List.length e
    simp at this
    simp [this.1] at hvl
  have h1 := row_first.1 h
  obtain ⟨m', hm, hp⟩ := first_pre ha (v ++ q) p 1 0 (by omega) hvn (by rw [h1]; simp)
  rw [hp, first_app ha v 1 0 (by omega) (by rw [row_first.1 hv]; simp) m' _ q hm] at h1
  rw [row_first, hp, first_app ha u 1 0 (by omega) (by rw [row_first.1 hu]; simp) m' _ q hm]
  by_cases h0 : m' = 1
  · rw [if_pos h0] at h1 ⊢
    have h2 := congrArg Prod.fst h1
    simp only [List.length_append] at h2 ⊢
    simp only [Prod.mk.injEq, and_true]
    omega
  · rw [if_neg h0] at h1 ⊢
    rw [first_move q (m' - 1) (0 + p.length + v.length) (0 + p.length + u.length) q.length (by rw [h1]; simp only [List.length_append, Prod.mk.injEq, and_true]; omega)]
    simp only [List.length_append, Prod.mk.injEq, and_true]
    omega

theorem term_of {sig : List Sy} {t u : List Int} (h : termE sig t = 0) (hu : rowE sig u = 0) : termE sig u = 0 := by
  unfold termE
  rw [if_pos (term_parts h).1]
  exact hu

theorem nodes_mid {sig : List Sy} {p v q : List Int} (hv : rowE sig v = 0) : nodes sig (p ++ (v ++ q)) p.length = v.length := by
  have := nodes_behind (sig := sig) p (v ++ q) 0
  rw [Nat.add_zero] at this
  rw [this]
  unfold nodes
  rw [List.drop_zero, first_right hv]
  simp

/-- Replace, of a term that is taken apart. -/
theorem repl_mid {sig : List Sy} {p v u q : List Int} (h : termE sig (p ++ (v ++ q)) = 0) (hv : rowE sig v = 0) (hu : rowE sig u = 0) :
    replE sig (p ++ (v ++ q)) p.length u = (if 512 < p.length + u.length + q.length then 2 else 0) ∧ replL sig (p ++ (v ++ q)) p.length u = (if 512 < p.length + u.length + q.length then [] else p ++ (u ++ q)) := by
  have hvl := right_len hv
  have h1 := repl_ok h hu (k := p.length) (by simp only [List.length_append]; omega)
  rw [nodes_mid hv] at h1
  have h2 : (p ++ (v ++ q)).length - (p.length + v.length) = q.length := by simp only [List.length_append]; omega
  have h3 : (p ++ (v ++ q)).drop (p.length + v.length) = q := by rw [← List.append_assoc, ← List.length_append, List.drop_left]
  rw [h2, h3, List.take_left] at h1
  exact h1

/-- A right term taken apart at a place. -/
theorem split_place {sig : List Sy} {t : List Int} (h : termE sig t = 0) {k : Nat} (hk : k < t.length) : ∃ p v q, t = p ++ (v ++ q) ∧ p.length = k ∧ v.length = nodes sig t k ∧ rowE sig v = 0 := by
  obtain ⟨hs, hr⟩ := term_parts h
  obtain ⟨h1, h2, h3, h4⟩ := at_place (sigE_ok hs) hr hk
  refine ⟨t.take k, (t.drop k).take (nodes sig t k), (t.drop k).drop (nodes sig t k), ?_, ?_, ?_, h4⟩
  · rw [List.take_append_drop, List.take_append_drop]
  · rw [List.length_take]; omega
  · rw [List.length_take, List.length_drop]; omega

/-- A second place, behind the first one and not below it. -/
theorem split_second {sig : List Sy} {p v r : List Int} (h : termE sig (p ++ (v ++ r)) = 0) {k : Nat} (hk : k < (p ++ (v ++ r)).length) (hv : p.length + v.length ≤ k) :
    ∃ m x q, r = m ++ (x ++ q) ∧ p.length + v.length + m.length = k ∧ rowE sig x = 0 := by
  obtain ⟨p2, x, q, h1, h2, _, h4⟩ := split_place h hk
  have h5 : p2 = p ++ v ++ r.take (k - (p.length + v.length)) := by
    have := congrArg (List.take k) h1
    rw [← h2, List.take_left, h2] at this
    rw [← this, ← List.append_assoc, List.take_append, List.length_append, List.take_of_length_le (by rw [List.length_append]; omega)]
  refine ⟨r.take (k - (p.length + v.length)), x, q, ?_, ?_, h4⟩
  · rw [h5, List.append_assoc, List.append_assoc] at h1
    exact List.append_cancel_left (List.append_cancel_left h1)
  · have h6 := congrArg List.length h5
    rw [List.length_append, List.length_append, h2] at h6
    exact h6.symm

end Go.Proofs.YtjcgngfidnechabDoor

/- The document's Vars walked. -/
namespace Go.Proofs.YtjcgngfidnechabDoor
open Go.RowKit Go.Maps Go.BigFrame

theorem mem_take_next {m : List Int} {k : Nat} {x c : Int} (h : m[k]? = some x) : decide (c ∈ m.take (k + 1)) = (decide (c ∈ m.take k) || decide (x = c)) := by
  rw [take_get h]
  by_cases h1 : c ∈ m.take k
  · simp [h1]
  · by_cases h2 : x = c
    · simp [h2]
    · have h3 : ¬ c = x := fun e => h2 e.symm
      simp [h1, h2, h3]

set_option maxRecDepth 100000 in
set_option maxHeartbeats 1600000 in
theorem refVars_any (v : Value) (t : List Int) (w : World) (h : Is w v t) (hb : t.length * 8 ≤ 140737488355328) :
    Calls Tryd.prog 16 #[v] w fun e w' => ∃ v', e = .returned v' ∧ OwI w' w.heap.size v' (varsL t) ∧ Below w.heap.size w w' := by
  obtain ⟨ao, cap, rfl, hao, hca, q0⟩ := Row.flat h
  unfold maxLen at hca
  have HT := hid h
  clear h q0
  go_enter Tryd.func16, Tryd.ntmps16
  go_wp2
  go_loopw [3, 4] (fun x iv wr => ∃ (i : Nat) (m : List Int), i ≤ t.length ∧ iv = .int .i64 i ∧ metA [] t = metA m (t.drop i) ∧ m.length ≤ i ∧ ZI m ∧ OwI wr w.heap.size x (m.map fun c => -1 - c) ∧ Below w.heap.size w wr) (fun _ iv _ => t.length - (intOf iv).toNat)
  case atStart => exact ⟨0, [], Nat.zero_le _, rfl, rfl, Nat.le_refl _, fun k x hk => (by simp at hk), nilI _ _, Below.refl _ _⟩
  case round =>
    obtain ⟨i, m, hi, rfl, hme, hml, hzm, how, hbl⟩ := hrel
    obtain ⟨bo, bc, hxv, hbc1, hbc2⟩ := how.shape
    rw [List.length_map] at hxv hbc1
    subst hxv
    unfold maxLen at hbc2
    have HMe := hid hme
    have HOw := hid how
    have HB := hid hbl
    have HZ := hid hzm
    clear hme how hzm
    by_cases hlt : i < t.length
    · obtain ⟨g, off, c, rfl, hx1, hx2, hx3, hx4⟩ := (HT.out.kp (Kp.of_below hbl)).at hlt
      have HD := hid (drop_get hx1)
      clear hx1 hbl
      go_wp2
      go_loopw [5, 6] (fun bv kv ws => ∃ (k : Nat) (B : Bool), k ≤ m.length ∧ kv = .int .i64 k ∧ bv = .bool B ∧ B = (decide (0 ≤ c) || decide (c ∈ m.take k)) ∧ ∃ n, ws = wr.drewN n) (fun _ kv _ => m.length - (intOf kv).toNat)
      case atStart => exact ⟨0, decide (0 ≤ c), Nat.zero_le _, rfl, rfl, by simp, 0, rfl⟩
      case round =>
        obtain ⟨k, B, hk, rfl, rfl, hB, n, rfl⟩ := hrel
        have HBb := hid hB
        clear hB
        by_cases hkl : k < m.length
        · obtain ⟨x, hx⟩ : ∃ x, m[k]? = some x := ⟨_, List.getElem?_eq_getElem hkl⟩
          have hxz := HZ.out k x hx
          obtain ⟨g2, off2, y, rfl, hy1, hy2, hy3, hy4⟩ := HOw.out.is.at (k := k) (by rw [List.length_map]; exact hkl)
          rw [List.getElem?_map, hx] at hy1
          simp only [Option.map_some, Option.some.injEq] at hy1
          have HN := hid (mem_take_next (c := c) hx)
          clear hx
          cases B with
          | true =>
            have HB2 : Hid (true = (decide (0 ≤ c) || decide (c ∈ m.take (k + 1)))) := by
              show _ = _
              rw [HN.out, ← Bool.or_assoc, ← HBb.out]
              rfl
            clear hy1 hy2
            go_wp2
            go_quiet (fail)
            go_wp2
            go_roundw
            case rel => exact ⟨k + 1, true, by omega, by go_num, rfl, HB2.out, _, rfl⟩
            case measure => simp [intOf]; omega
          | false =>
            have hwc : IntKind.i64.wrap (-1 - c) = -1 - c := IntWalk.i64_in _ ⟨by omega, by omega⟩
            by_cases hxc : x = c
            · have HB2 : Hid (true = (decide (0 ≤ c) || decide (c ∈ m.take (k + 1)))) := by
                show _ = _
                rw [HN.out, ← Bool.or_assoc, ← HBb.out, decide_eq_true hxc]
                rfl
              have hyc : (y == -1 - c) = true := by rw [beq_iff_eq]; omega
              clear hy1 hxc
              go_wp2
              go_quiet (fail)
              go_wp2
              go_roundw
              case rel => exact ⟨k + 1, true, by omega, by go_num, rfl, HB2.out, _, rfl⟩
              case measure => simp [intOf]; omega
            · have HB2 : Hid (false = (decide (0 ≤ c) || decide (c ∈ m.take (k + 1)))) := by
                show _ = _
                rw [HN.out, ← Bool.or_assoc, ← HBb.out, decide_eq_false hxc]
                rfl
              have hyc : (y == -1 - c) = false := by rw [beq_eq_false_iff_ne]; omega
              clear hy1 hxc
              go_wp2
              go_quiet (fail)
              go_wp2
              go_roundw
              case rel => exact ⟨k + 1, false, by omega, by go_num, rfl, HB2.out, _, rfl⟩
              case measure => simp [intOf]; omega
        · have hke : k = m.length := by omega
          have HBf : Hid (B = (decide (0 ≤ c) || decide (c ∈ m))) := by show _ = _; rw [HBb.out, hke, List.take_length]
          have HBn := hid (below_drewN HB.out n)
          have HOn := hid (HOw.out.later (below_drewN (Below.refl _ _) n))
          clear HBb
          cases B with
          | true =>
            have HN : Hid (metA [] t = metA m (t.drop (i + 1))) := by
              show _ = _
              rw [HMe.out, HD.out, metA, if_pos]
              have := HBf.out
              simp only [Bool.true_eq, Bool.or_eq_true, decide_eq_true_eq] at this
              exact this
            go_wp2
            go_roundw
            case rel => exact ⟨i + 1, m, by omega, by go_num, HN.out, by omega, HZ.out, HOn.out, HBn.out⟩
            case measure => simp [intOf]; omega
          | false =>
            have hno : ¬ (0 ≤ c ∨ c ∈ m) := by
              have := HBf.out
              intro h9
              rw [eq_comm, Bool.or_eq_false_iff, decide_eq_false_iff_not, decide_eq_false_iff_not] at this
              rcases h9 with h9 | h9
              · exact this.1 h9
              · exact this.2 h9
            have HN : Hid (metA [] t = metA (m ++ [c]) (t.drop (i + 1))) := by
              show _ = _
              rw [HMe.out, HD.out, metA, if_neg hno]
            have hwc : IntKind.i64.wrap (-1 - c) = -1 - c := IntWalk.i64_in _ ⟨by omega, by omega⟩
            obtain ⟨v6, w6, hr6, ho6, hg6, _⟩ := join_one 23 (c := -1 - c) HOn.out (by omega) (by omega) HBn.out.size (by rw [List.length_map]; omega)
            have hb6 := (below_step HBn.out (below_alloc _)).grown hg6 (below_step HBn.out (below_alloc _)).size (fun j hj => own_blk HOn.out.2 hj)
            have HR6 := hid hr6
            have HO6 : Hid (OwI w6 w.heap.size v6 ((m ++ [c]).map fun c => -1 - c)) := by
              rw [List.map_append]
              exact ho6
            have HB6 := hid hb6
            have HZ2 : Hid (ZI (m ++ [c])) := fun k y hk => by
              by_cases hkl : k < m.length
              · rw [List.getElem?_append_left hkl] at hk
                exact HZ.out k y hk
              · rw [List.getElem?_append_right (by omega)] at hk
                have : y = c := by
                  have h9 := List.mem_of_getElem? hk
                  simpa using h9
                omega
            clear hr6 ho6 hg6 hb6 hno
            go_wp2_with (first
              | (at_builtin; refine wpList_append_run rfl _ _ _ rfl _ _ rfl rfl HR6.out ?_))
            go_roundw
            case rel => exact ⟨i + 1, m ++ [c], by omega, by go_num, HN.out, by rw [List.length_append, List.length_singleton]; omega, HZ2.out, HO6.out, HB6.out⟩
            case measure => simp [intOf]; omega
    · have HF : Hid (varsL t = m.map fun c => -1 - c) := by show _ = _; unfold varsL; rw [HMe.out, List.drop_of_length_le (by omega)]; rfl
      go_wp2
      go_ret
      exact ⟨_, rfl, by rw [HF.out]; exact HOw.out, HB.out⟩

end Go.Proofs.YtjcgngfidnechabDoor

/- The examples of layer 3 come out true. -/
namespace Go.Proofs.YtjcgngfidnechabDoor
open Go.RowKit Go.Maps Go.BigFrame

theorem sh_p0 : placeE sumS [2, 1, -1, -2] 0 = 0 := by kernel_rfl
theorem sh_p1 : placeE sumS [2, 1, -1, -2] 1 = 0 := by kernel_rfl
theorem sh_p2 : placeE sumS [2, 1, -1, -2] 2 = 0 := by kernel_rfl
theorem sh_kids : kidsL sumS [2, 1, -1, -2] 0 = [1, 3] := by kernel_rfl
theorem sh_sub : subL sumS [2, 1, -1, -2] 1 = [1, -1] := by kernel_rfl
theorem sh_replE : replE sumS [2, 1, -1, -2] 1 [0] = 0 := by kernel_rfl
theorem sh_replL : replL sumS [2, 1, -1, -2] 1 [0] = [2, 0, -2] := by kernel_rfl
theorem sh_above : aboveL sumS [2, 1, -1, -2] 2 = [0, 1] := by kernel_rfl
theorem sh_vars : varsL [2, -5, 2, -1, -5] = [4, 0] := by kernel_rfl
theorem sh_none : termE sumS [2, 0] = 31 := by kernel_rfl
theorem sh_all : termE sumS [2, 1, -1, -2] = 0 := by kernel_rfl
theorem sh_none2 : sigE [(⟨#[49, 102]⟩, 0)] = 34 := by kernel_rfl

theorem small_ints (xs : List Int) (h : (xs.all fun x => decide (-100 ≤ x ∧ x ≤ 100)) = true) : ∀ x ∈ xs, -9223372036854775808 ≤ x ∧ x ≤ 9223372036854775807 := fun x hx => by
  have := List.all_eq_true.1 h x hx
  simp at this
  omega

theorem call_same3 (w : World) (v : Value) (xs : List Int) (h : Is w v xs) (hz : (xs.all fun x => decide (-100 ≤ x ∧ x ≤ 100)) = true) (hl : xs.length ≤ 1000) :
    Calls Tryd.prog 32 #[v, .slice (some ⟨w.heap.size, 0, none⟩) xs.length xs.length] (w.alloc (.cells (xs.map I64).toArray 3)) fun e w' => e = .returned (.bool true) ∧ Below w.heap.size w w' := by
  refine (same3_any v _ xs xs _ (h.kp (Kp.of_below (below_alloc _))) (is_new w xs _ (small_ints xs hz) hl)).mono ?_
  rintro e w' ⟨rfl, n, hw⟩
  rw [decide_eq_true rfl]
  exact ⟨rfl, below_step (below_alloc _) (drawn_below hw)⟩

theorem call_vars3 (w : World) : Calls Tryd.prog 15 #[.slice (some ⟨w.heap.size, 0, none⟩) 5 5] (w.alloc (Obj.cells #[Value.int IntKind.i64 2, Value.int IntKind.i64 (-5), Value.int IntKind.i64 2, Value.int IntKind.i64 (-1), Value.int IntKind.i64 (-5)] 3))
    fun e w' => ∃ v', e = .returned v' ∧ Is w' v' [4, 0] ∧ Below w.heap.size w w' := by
  refine (vars_any _ [2, -5, 2, -1, -5] _ (is_new w [2, -5, 2, -1, -5] _ (small_ints _ (by decide)) (by decide)) (by decide)).mono ?_
  rintro e w' ⟨v', rfl, ho, hb⟩
  rw [sh_vars] at ho
  exact ⟨v', rfl, ho.is, below_step (below_alloc _) hb⟩

theorem call_none (w : World) (sv : Value) (hs : Sg w sv sumS) (hT : Tabs w) : Calls Tryd.prog 13 #[sv, .slice (some ⟨w.heap.size, 0, none⟩) 2 2] (w.alloc (Obj.cells #[Value.int IntKind.i64 2, Value.int IntKind.i64 0] 3))
    fun e w' => e = .returned (.int .i64 31) ∧ Below w.heap.size w w' := by
  refine (check_any sv _ sumS [2, 0] _ (hs.kp (Kp.of_below (below_alloc _))) (is_new w [2, 0] _ (small_ints _ (by decide)) (by decide)) (hT.below (below_alloc _)) (by decide)).mono ?_
  rintro e w' ⟨rfl, hb⟩
  rw [sh_none]
  exact ⟨rfl, below_step (below_alloc _) hb⟩

theorem call_sig (w : World) (hT : Tabs w) : Calls Tryd.prog 33 #[.slice (some ⟨w.heap.size, 0, none⟩) 1 1] (w.alloc (Obj.cells #[Value.string ⟨#[49, 102]⟩, Value.int IntKind.i64 0] 55))
    fun e w' => e = .returned (.int .i64 34) ∧ Below w.heap.size w w' := by
  refine (checkSig_any _ [(⟨#[49, 102]⟩, 0)] _ (sg_lit (p := [(⟨#[49, 102]⟩, 0)]) (by simp) (by decide) ⟨⟨by decide, by decide, by decide, cell_new rfl, cell_new rfl⟩, trivial⟩) (hT.below (below_alloc _))).mono ?_
  rintro e w' ⟨rfl, hb⟩
  rw [sh_none2]
  exact ⟨rfl, below_step (below_alloc _) hb⟩

theorem call_repl (w : World) (sv v : Value) (hs : Sg w sv sumS) (h : Is w v [2, 1, -1, -2]) (hT : Tabs w) : Calls Tryd.prog 14 #[sv, v, .int .i64 1, .slice (some ⟨w.heap.size, 0, none⟩) 1 1] (w.alloc (Obj.cells #[Value.int IntKind.i64 0] 3))
    fun e w' => ∃ v', e = .returned (.tuple #[v', .int .i64 0]) ∧ Is w' v' [2, 0, -2] ∧ Below w.heap.size w w' := by
  refine (replace_any sv v _ sumS [2, 1, -1, -2] [0] 1 _ (hs.kp (Kp.of_below (below_alloc _))) (h.kp (Kp.of_below (below_alloc _))) (is_new w [0] _ (small_ints _ (by decide)) (by decide)) (hT.below (below_alloc _)) (by decide) (by decide) (by decide) (by decide)).mono ?_
  rintro e w' ⟨v', rfl, ho, hb⟩
  rw [sh_replE]
  rw [sh_replL] at ho
  exact ⟨v', rfl, ho.is, below_step (below_alloc _) hb⟩

set_option maxRecDepth 100000 in
set_option maxHeartbeats 2000000 in
theorem shown3_any (w : World) (hT : Tabs w) : Calls Tryd.prog 9 #[] w fun e w' => e = .returned (.bool true) ∧ Below w.heap.size w w' := by
  have HT := hid hT
  clear hT
  go_enter Tryd.func9, Tryd.ntmps9
  go_wp2_with fail
  refine (three_any w).mono ?_
  rintro e w1 ⟨v1, rfl, hs1, hb1⟩
  obtain ⟨so, sc, rfl, _, hsc, _⟩ := Row.flat hs1
  have HS1 := hid (hs1.kp (Kp.of_below (below_alloc (.cells #[.int .i64 2, .int .i64 1, .int .i64 (-1), .int .i64 (-2)] 3))))
  have HI1 := hid (is_new w1 [2, 1, -1, -2] 3 (small_ints _ (by decide)) (by decide))
  have HB1 := hid (below_step hb1 (below_alloc (.cells #[.int .i64 2, .int .i64 1, .int .i64 (-1), .int .i64 (-2)] 3)))
  have HK := hid (kids_any _ _ sumS [2, 1, -1, -2] 0 _ HS1.out HI1.out (HT.out.below HB1.out) (by decide) (by decide) (by decide))
  clear hs1 hb1
  go_wp2_with fail
  refine HK.out.mono ?_
  rintro e w2 ⟨vk, rfl, ho2, hb2⟩
  rw [sh_p0]
  rw [sh_kids] at ho2
  have HRk := hid ho2.is
  have HS2 := hid (HS1.out.kp (Kp.of_below hb2))
  have HI2 := hid (HI1.out.kp (Kp.of_below hb2))
  have HB2 := hid (below_step HB1.out hb2)
  clear ho2 hb2 HK HS1 HI1 HB1
  have HK := hid (sub_any _ _ sumS [2, 1, -1, -2] 1 _ HS2.out HI2.out (HT.out.below HB2.out) (by decide) (by decide) (by decide))
  go_wp2_with fail
  refine HK.out.mono ?_
  rintro e w3 ⟨vu, rfl, ho3, hb3⟩
  rw [sh_p1]
  rw [sh_sub] at ho3
  have HRk3 := hid (HRk.out.kp (Kp.of_below hb3))
  have HRu := hid ho3.is
  have HS3 := hid (HS2.out.kp (Kp.of_below hb3))
  have HI3 := hid (HI2.out.kp (Kp.of_below hb3))
  have HB3 := hid (below_step HB2.out hb3)
  clear ho3 hb3 HK HS2 HI2 HB2 HRk
  go_wp2_with fail
  refine (call_repl w3 _ _ HS3.out HI3.out (HT.out.below HB3.out)).mono ?_
  rintro e w4 ⟨vv, rfl, ho4, hb4⟩
  have HRk4 := hid (HRk3.out.kp (Kp.of_below hb4))
  have HRu4 := hid (HRu.out.kp (Kp.of_below hb4))
  have HRv := hid ho4
  have HS4 := hid (HS3.out.kp (Kp.of_below hb4))
  have HI4 := hid (HI3.out.kp (Kp.of_below hb4))
  have HB4 := hid (below_step HB3.out hb4)
  clear ho4 hb4 HS3 HI3 HB3 HRk3 HRu
  have HK := hid (above_any _ _ sumS [2, 1, -1, -2] 2 _ HS4.out HI4.out (HT.out.below HB4.out) (by decide) (by decide) (by decide))
  go_wp2_with fail
  refine HK.out.mono ?_
  rintro e w5 ⟨va, rfl, ho5, hb5⟩
  rw [sh_p2]
  rw [sh_above] at ho5
  have HRk5 := hid (HRk4.out.kp (Kp.of_below hb5))
  have HRu5 := hid (HRu4.out.kp (Kp.of_below hb5))
  have HRv5 := hid (HRv.out.kp (Kp.of_below hb5))
  have HRa := hid ho5.is
  have HS5 := hid (HS4.out.kp (Kp.of_below hb5))
  have HI5 := hid (HI4.out.kp (Kp.of_below hb5))
  have HB5 := hid (below_step HB4.out hb5)
  clear ho5 hb5 HK HS4 HI4 HB4 HRk4 HRu4 HRv
  go_wp2_with fail
  refine (call_vars3 w5).mono ?_
  rintro e w6 ⟨vl, rfl, ho6, hb6⟩
  have HRk6 := hid (HRk5.out.kp (Kp.of_below hb6))
  have HRu6 := hid (HRu5.out.kp (Kp.of_below hb6))
  have HRv6 := hid (HRv5.out.kp (Kp.of_below hb6))
  have HRa6 := hid (HRa.out.kp (Kp.of_below hb6))
  have HRl := hid ho6
  have HS6 := hid (HS5.out.kp (Kp.of_below hb6))
  have HI6 := hid (HI5.out.kp (Kp.of_below hb6))
  have HB6 := hid (below_step HB5.out hb6)
  clear ho6 hb6 HS5 HI5 HB5 HRk5 HRu5 HRv5 HRa
  go_wp2_with fail
  refine (call_same3 w6 vk [1, 3] HRk6.out (by decide) (by decide)).mono ?_
  rintro e w7 ⟨rfl, hb7⟩
  have HRu7 := hid (HRu6.out.kp (Kp.of_below hb7))
  have HRv7 := hid (HRv6.out.kp (Kp.of_below hb7))
  have HRa7 := hid (HRa6.out.kp (Kp.of_below hb7))
  have HRl7 := hid (HRl.out.kp (Kp.of_below hb7))
  have HB7 := hid hb7
  clear hb7 HRk6 HRu6 HRv6 HRa6 HRl
  go_wp2_with fail
  refine (call_same3 w7 vu [1, -1] HRu7.out (by decide) (by decide)).mono ?_
  rintro e w8 ⟨rfl, hb8⟩
  have HRv8 := hid (HRv7.out.kp (Kp.of_below hb8))
  have HRa8 := hid (HRa7.out.kp (Kp.of_below hb8))
  have HRl8 := hid (HRl7.out.kp (Kp.of_below hb8))
  have HB8 := hid (below_step HB7.out hb8)
  clear hb8 HRu7 HRv7 HRa7 HRl7 HB7
  go_wp2_with fail
  refine (call_same3 w8 vv [2, 0, -2] HRv8.out (by decide) (by decide)).mono ?_
  rintro e w9 ⟨rfl, hb9⟩
  have HRa9 := hid (HRa8.out.kp (Kp.of_below hb9))
  have HRl9 := hid (HRl8.out.kp (Kp.of_below hb9))
  have HB9 := hid (below_step HB8.out hb9)
  clear hb9 HRv8 HRa8 HRl8 HB8
  go_wp2_with fail
  refine (call_same3 w9 va [0, 1] HRa9.out (by decide) (by decide)).mono ?_
  rintro e w10 ⟨rfl, hb10⟩
  have HRl10 := hid (HRl9.out.kp (Kp.of_below hb10))
  have HB10 := hid (below_step HB9.out hb10)
  clear hb10 HRa9 HRl9 HB9
  go_wp2_with fail
  refine (call_same3 w10 vl [4, 0] HRl10.out (by decide) (by decide)).mono ?_
  rintro e w11 ⟨rfl, hb11⟩
  have HB11 := hid (below_step HB10.out hb11)
  have HS11 := hid (HS6.out.kp (Kp.of_below HB11.out))
  have HI11 := hid (HI6.out.kp (Kp.of_below HB11.out))
  have HW11 := hid (below_step HB6.out HB11.out)
  clear hb11 HRl10 HB10 HB11 HS6 HI6 HB6
  go_wp2_with fail
  refine (call_none w11 _ HS11.out (HT.out.below HW11.out)).mono ?_
  rintro e w12 ⟨rfl, hb12⟩
  have HS12 := hid (HS11.out.kp (Kp.of_below hb12))
  have HI12 := hid (HI11.out.kp (Kp.of_below hb12))
  have HW12 := hid (below_step HW11.out hb12)
  clear hb12 HS11 HI11 HW11
  go_wp2_with fail
  refine (call_sig w12 (HT.out.below HW12.out)).mono ?_
  rintro e w13 ⟨rfl, hb13⟩
  have HS13 := hid (HS12.out.kp (Kp.of_below hb13))
  have HI13 := hid (HI12.out.kp (Kp.of_below hb13))
  have HW13 := hid (below_step HW12.out hb13)
  clear hb13 HS12 HI12 HW12
  have HK := hid (check_any _ _ sumS [2, 1, -1, -2] _ HS13.out HI13.out (HT.out.below HW13.out) (by decide))
  go_wp2_with fail
  refine HK.out.mono ?_
  rintro e w14 ⟨rfl, hb14⟩
  rw [sh_all]
  have HW14 := hid (below_step HW13.out hb14)
  clear hb14 HS13 HI13 HW13 HK
  go_wp2
  go_ret
  exact ⟨rfl, HW14.out⟩

end Go.Proofs.YtjcgngfidnechabDoor
