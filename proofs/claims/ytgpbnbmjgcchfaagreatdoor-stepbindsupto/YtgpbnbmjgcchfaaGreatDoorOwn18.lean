/- Texts of the proof, one behind the other. -/
import Derived.Test.YtgpbnbmjgcchfaaGreatDoorOwn17
import Derived.Test.YtgpbnbmjgcchfaaGreatDoorOwn14
import Derived.Test.YtgpbnbmjgcchfaaGreatDoorOwn3
import Derived.Test.YtgpbnbmjgcchfaaGreatDoorOwn4
/- Replace and Above walked. -/
namespace Go.Proofs.YtgpbnbmjgcchfaaGreatDoor
open Go.RowKit Go.Maps Go.BigFrame

/-- What is wrong with what Replace is asked. -/
def replE (sig : List Sy) (t : List Int) (p : Int) (u : List Int) : Int :=
  if termE sig t = 0 then (if rowE sig u = 0 then (if placeE sig t p = 0 then (if 512 < p.toNat + u.length + (t.length - (p.toNat + nodes sig t p.toNat)) then 2 else 0) else placeE sig t p) else rowE sig u) else termE sig t

def replL (sig : List Sy) (t : List Int) (p : Int) (u : List Int) : List Int := if replE sig t p u = 0 then t.take p.toNat ++ (u ++ t.drop (p.toNat + nodes sig t p.toNat)) else []

theorem repl_none {sig : List Sy} {t u : List Int} {p : Int} (h : replE sig t p u ≠ 0) : replL sig t p u = [] := by
  unfold replL
  rw [if_neg h]

theorem repl_ok {sig : List Sy} {t u : List Int} {k : Nat} (ht : termE sig t = 0) (hu : rowE sig u = 0) (hk : k < t.length) :
    replE sig t k u = (if 512 < k + u.length + (t.length - (k + nodes sig t k)) then 2 else 0) ∧ replL sig t k u = (if 512 < k + u.length + (t.length - (k + nodes sig t k)) then [] else t.take k ++ (u ++ t.drop (k + nodes sig t k))) := by
  have h1 : replE sig t k u = if 512 < k + u.length + (t.length - (k + nodes sig t k)) then 2 else 0 := by
    unfold replE
    rw [if_pos ht, if_pos hu, if_pos (place_in ht hk), Int.toNat_natCast]
  refine ⟨h1, ?_⟩
  unfold replL
  rw [h1, Int.toNat_natCast]
  by_cases h2 : 512 < k + u.length + (t.length - (k + nodes sig t k))
  · rw [if_pos h2, if_pos h2, if_neg (by omega)]
  · rw [if_neg h2, if_neg h2, if_pos rfl]

/-- The end of a row. -/
theorem Is.tail {w : World} {b off cap k : Nat} {t : List Int} (h : Is w (.slice (some ⟨b, off, none⟩) t.length cap) t) (hk : k ≤ t.length) : Is w (.slice (some ⟨b, if cap = k then off else off + k, none⟩) (t.length - k) (cap - k)) (t.drop k) := by
  by_cases he : k = t.length
  · subst he
    rw [List.drop_length, Nat.sub_self]
    obtain ⟨ao, cap', e, h1, h2, h3⟩ := h
    simp only [Value.slice.injEq, true_and] at e
    obtain ⟨_, rfl⟩ := e
    exact Row.nil (by omega)
  · have h1 : t.length ≤ cap := by
      obtain ⟨ao, cap', e, h1, _⟩ := h
      simp only [Value.slice.injEq, true_and] at e
      obtain ⟨_, rfl⟩ := e
      exact h1
    have h2 := h.mid (k := k) (m := t.length - k) (by omega) (by omega)
    rw [List.take_of_length_le (by rw [List.length_drop]; exact Nat.le_refl _)] at h2
    rw [if_neg (by omega)]
    exact h2

/-- The beginning of a row. -/
theorem Is.head {w : World} {b off cap k : Nat} {t : List Int} (h : Is w (.slice (some ⟨b, off, none⟩) t.length cap) t) (hk : k ≤ t.length) : Is w (.slice (some ⟨b, off, none⟩) k cap) (t.take k) := by
  obtain ⟨ao, cap', e, h1, h2, h3⟩ := h
  simp only [Value.slice.injEq, true_and] at e
  obtain ⟨rfl, rfl⟩ := e
  have hl : (t.take k).length = k := by rw [List.length_take]; omega
  refine ⟨some ⟨b, off, none⟩, cap, by rw [hl], by omega, h2, fun h0 => ?_⟩
  rw [hl] at h0
  obtain ⟨g, o, e, hg, hE⟩ := h3 (by omega)
  simp only [Option.some.injEq, Addr.mk.injEq, and_true] at e
  obtain ⟨rfl, rfl⟩ := e
  refine ⟨b, off, rfl, hg, fun j x hj => hE j x ?_⟩
  have := (List.getElem?_eq_some_iff.1 hj).1
  rw [List.getElem?_take_of_lt (by omega)] at hj
  exact hj

set_option maxRecDepth 100000 in
set_option maxHeartbeats 1600000 in
theorem replace_any (sv v uv : Value) (sig : List Sy) (t u : List Int) (p : Int) (w : World) (hs : Sg w sv sig) (h : Is w v t) (hu : Is w uv u) (hT : Tabs w) (hb : t.length * 8 ≤ 140737488351232) (hbu : u.length * 8 ≤ 140737488351232) (hp1 : -9223372036854775808 ≤ p) (hp2 : p ≤ 9223372036854775807) :
    Calls Tryz.prog 13 #[sv, v, .int .i64 p, uv] w fun e w' => ∃ v', e = .returned (.tuple #[v', .int .i64 (replE sig t p u)]) ∧ OwI w' w.heap.size v' (replL sig t p u) ∧ Below w.heap.size w w' := by
  obtain ⟨ao, cap, rfl, hao, hca, _⟩ := Row.flat h
  obtain ⟨uo, uc, rfl, huo, hcu, _⟩ := Row.flat hu
  unfold maxLen at hca hcu
  have HS := hid hs
  have HI := hid h
  have HU := hid hu
  have HT := hid hT
  have HP := hid (And.intro hp1 hp2)
  clear hs h hT hp1 hp2 hu
  go_enter Tryz.func13, Tryz.ntmps13
  go_wp2_with fail
  refine (check_any sv _ sig t w HS.out HI.out HT.out (by omega)).mono ?_
  rintro e w1 ⟨rfl, hb1⟩
  have HB1 := hid hb1
  clear hb1
  by_cases hte : termE sig t = 0
  · have HTe := hid hte
    have HPl : Hid (placeE sig t p = (endP sig t p).2) := by show _ = _; unfold placeE; rw [if_pos hte]
    have ha := sigE_ok (term_parts hte).1
    have HA := hid ha
    rw [hte]
    clear hte ha
    go_wp2_with fail
    refine (checkRow_any sv _ sig u w1 (HS.out.kp (Kp.of_below HB1.out)) (HU.out.kp (Kp.of_below HB1.out)) HA.out hbu).mono ?_
    rintro e w2 ⟨rfl, hw2⟩
    have hw8 := hw2.symm
    subst hw8
    clear hw2
    by_cases hue : rowE sig u = 0
    · have HUe := hid hue
      rw [hue]
      clear hue
      go_wp2_with fail
      refine (endOf_any sv _ sig t p w1 (HS.out.kp (Kp.of_below HB1.out)) (HI.out.kp (Kp.of_below HB1.out)) HA.out (by omega) HP.out.1 HP.out.2).mono ?_
      rintro e w2 ⟨rfl, hw2⟩
      have hw8 := hw2.symm
      subst hw8
      clear hw2
      by_cases he : (endP sig t p).2 = 0
      · have hpl := HPl.out.trans he
        obtain ⟨_, hrt, k, _, hk, hkl, _⟩ := placeE_ok hpl
        subst hk
        obtain ⟨n1, n2, n3, _⟩ := at_place HA.out hrt hkl
        obtain ⟨r1, r2⟩ := repl_ok HTe.out HUe.out hkl
        have HR1 := hid r1
        have HR2 := hid r2
        rw [place_end HTe.out hkl]
        obtain ⟨n, hn⟩ : ∃ n, n = nodes sig t k := ⟨_, rfl⟩
        rw [← hn] at n1 n2 HR1 HR2 ⊢
        obtain ⟨b, off, c0, rfl, _⟩ := HI.out.at (k := 0) (by omega)
        have hw1 : IntKind.i64.wrap ((k : Int) + (u.length : Int)) = (k : Int) + (u.length : Int) := IntWalk.i64_in _ ⟨by omega, by omega⟩
        have hw2 : IntKind.i64.wrap ((k : Int) + (u.length : Int) + (t.length : Int)) = (k : Int) + (u.length : Int) + (t.length : Int) := IntWalk.i64_in _ ⟨by omega, by omega⟩
        have hw3 : IntKind.i64.wrap ((k : Int) + (u.length : Int) + (t.length : Int) - ((k : Int) + (n : Int))) = ((k + u.length + (t.length - (k + n)) : Nat) : Int) := by rw [IntWalk.i64_in _ ⟨by omega, by omega⟩]; omega
        clear hpl he hrt n3 r1 r2 hn
        by_cases hbig : 512 < k + u.length + (t.length - (k + n))
        · rw [if_pos hbig] at HR1 HR2
          have hbg : (512 : Int) < ((k + u.length + (t.length - (k + n)) : Nat) : Int) := by omega
          go_wp2
          go_ret2
          exact ⟨_, by rw [HR1.out]; rfl, by rw [HR2.out]; exact nilI _ _, HB1.out⟩
        · rw [if_neg hbig] at HR1 HR2
          have hbg : ¬ (512 : Int) < ((k + u.length + (t.length - (k + n)) : Nat) : Int) := by omega
          have hkc : k ≤ cap := by omega
          have hknc : k + n ≤ cap := by omega
          have HCon : Hid (∀ x3 : Value, Is w1 x3 (t.drop (k + n)) → Calls Tryz.prog 42 #[.slice (some ⟨w1.heap.size, 0, none⟩) 3 3] (w1.alloc (.cells #[.slice (some ⟨b, off, none⟩) k cap, .slice uo u.length uc, x3] 26)).drew
              fun e w' => ∃ v', e = .returned v' ∧ OwI w' w1.heap.size v' (t.take k ++ (u ++ t.drop (k + n))) ∧ Below w1.heap.size w1 w') := by
            intro x3 h3
            have hbl : Below w1.heap.size w1 (w1.alloc (.cells #[.slice (some ⟨b, off, none⟩) k cap, .slice uo u.length uc, x3] 26)).drew := below_step (below_alloc _) (drawn_below1 _)
            have hkp := Kp.of_below hbl
            have i1 := ((HI.out.kp (Kp.of_below HB1.out)).head (k := k) (by omega)).kp hkp
            have i2 := (HU.out.kp (Kp.of_below HB1.out)).kp hkp
            have i3 := h3.kp hkp
            have hc : ∀ (j : Nat) (x : Value), #[Value.slice (some ⟨b, off, none⟩) k cap, .slice uo u.length uc, x3][j]? = some x → (w1.alloc (.cells #[.slice (some ⟨b, off, none⟩) k cap, .slice uo u.length uc, x3] 26)).drew.cell? ⟨w1.heap.size, j, none⟩ = some x := fun j x hj => cell_new hj
            have hl1 : (t.take k).length * 8 ≤ 140737488351232 := by rw [List.length_take]; omega
            have hl3 : (t.drop (k + n)).length * 8 ≤ 140737488351232 := by rw [List.length_drop]; omega
            have hrs : Rs (w1.alloc (.cells #[.slice (some ⟨b, off, none⟩) k cap, .slice uo u.length uc, x3] 26)).drew (.slice (some ⟨w1.heap.size, 0, none⟩) 3 3) [t.take k, u, t.drop (k + n)] :=
              rs_lit (p := [t.take k, u, t.drop (k + n)]) (by show w1.heap.size < (w1.alloc _).heap.size; simp) (by simp) ⟨⟨hl1, _, hc 0 _ rfl, i1⟩, ⟨hbu, _, hc 1 _ rfl, i2⟩, ⟨hl3, _, hc 2 _ rfl, i3⟩, trivial⟩
            refine (concat_any _ _ _ hrs (by simp only [List.map_cons, List.map_nil, List.sum_cons, List.sum_nil, List.length_take, List.length_drop]; omega)).mono ?_
            rintro e w9 ⟨v9, rfl, ho9, hb9⟩
            refine ⟨v9, rfl, ?_, below_step hbl hb9⟩
            have := ho9.mono hbl.size
            simpa using this
          have hI3 := (HI.out.kp (Kp.of_below HB1.out)).tail (k := k + n) n2
          have HC3 := hid (HCon.out _ hI3)
          clear hI3 HCon
          by_cases hcn : cap = k + n
          · subst hcn
            rw [if_pos rfl, Nat.sub_self, show t.length - (k + n) = 0 by omega] at HC3
            go_wp2_with fail
            clear hw1 hw2 hw3 hbg hbig
            go_region_with (first
              | (refine HC3.out.mono ?_; rintro e w9 ⟨v9, rfl, ho9, hb9⟩; have HO9 := hid (ho9.mono HB1.out.size); have HB9 := hid (below_step HB1.out hb9); clear ho9 hb9))
            all_goals (go_wp2; go_ret2; exact ⟨_, by rw [HR1.out]; rfl, by rw [HR2.out]; exact HO9.out, HB9.out⟩)
          · rw [if_neg hcn] at HC3
            go_wp2_with fail
            clear hw1 hw2 hw3 hbg hbig
            go_region_with (first
              | (refine HC3.out.mono ?_; rintro e w9 ⟨v9, rfl, ho9, hb9⟩; have HO9 := hid (ho9.mono HB1.out.size); have HB9 := hid (below_step HB1.out hb9); clear ho9 hb9))
            all_goals (go_wp2; go_ret2; exact ⟨_, by rw [HR1.out]; rfl, by rw [HR2.out]; exact HO9.out, HB9.out⟩)
      · have HR1 : Hid (replE sig t p u = (endP sig t p).2) := by show _ = _; unfold replE; rw [if_pos HTe.out, if_pos HUe.out, if_neg (fun h => he (HPl.out.symm.trans h)), HPl.out]
        have HR2 := hid (repl_none (fun h => he (HR1.out.symm.trans h)))
        generalize (endP sig t p).2 = E at he HPl HR1 ⊢
        generalize (endP sig t p).1 = E1
        have heb : (E != 0) = true := by simpa using he
        go_wp2
        go_ret2
        exact ⟨_, by rw [HR1.out]; rfl, by rw [HR2.out]; exact nilI _ _, HB1.out⟩
    · have HR1 : Hid (replE sig t p u = rowE sig u) := by show _ = _; unfold replE; rw [if_pos HTe.out, if_neg hue]
      have HR2 := hid (repl_none (fun h => hue (HR1.out.symm.trans h)))
      generalize rowE sig u = E at hue HR1 ⊢
      have heb : (E != 0) = true := by simpa using hue
      go_wp2
      go_ret2
      exact ⟨_, by rw [HR1.out]; rfl, by rw [HR2.out]; exact nilI _ _, HB1.out⟩
  · have HR1 : Hid (replE sig t p u = termE sig t) := by show _ = _; unfold replE; rw [if_neg hte]
    have HR2 := hid (repl_none (fun h => hte (HR1.out.symm.trans h)))
    generalize termE sig t = E at hte HR1 ⊢
    have heb : (E != 0) = true := by simpa using hte
    go_wp2
    go_ret2
    exact ⟨_, by rw [HR1.out]; rfl, by rw [HR2.out]; exact nilI _ _, HB1.out⟩

end Go.Proofs.YtgpbnbmjgcchfaaGreatDoor

/- What makes a pattern a term is one. -/
namespace Go.Proofs.YtgpbnbmjgcchfaaGreatDoor
open Go.RowKit Go.Maps

theorem laid_unique {sig : List Sy} {f g : Int → Option (List Int)} (hf : Rt sig f) (hg : Rt sig g) : ∀ p : List Int, (∀ c ∈ p, c < 0 → f (-1 - c) ≠ none) → (∀ c ∈ p, c < 0 → g (-1 - c) ≠ none) → laidL f p = laidL g p → ∀ c ∈ p, c < 0 → f (-1 - c) = g (-1 - c)
  | [], _, _, _, c, hc, _ => by simp at hc
  | d :: p, h1, h2, h, c, hc, h0 => by
    rw [laidL_cons, laidL_cons] at h
    by_cases hd : d < 0
    · obtain ⟨u, hu⟩ := Option.ne_none_iff_exists'.1 (h1 d (by simp) hd)
      obtain ⟨v, hv⟩ := Option.ne_none_iff_exists'.1 (h2 d (by simp) hd)
      have e1 : piece f d = u := by unfold piece; rw [if_pos hd, hu]; rfl
      have e2 : piece g d = v := by unfold piece; rw [if_pos hd, hv]; rfl
      rw [e1, e2] at h
      have k1 := first_right (hf _ _ hu) (laidL f p)
      rw [h, first_right (hg _ _ hv)] at k1
      have k2 : u.length = v.length := by
        have := congrArg Prod.fst k1
        simp only at this
        omega
      obtain ⟨k3, k4⟩ := List.append_inj h k2
      rcases List.mem_cons.1 hc with rfl | hc
      · rw [hu, hv, k3]
      · exact laid_unique hf hg p (fun x hx => h1 x (by simp [hx])) (fun x hx => h2 x (by simp [hx])) k4 c hc h0
    · have e1 : piece f d = [d] := by unfold piece; rw [if_neg hd]
      have e2 : piece g d = [d] := by unfold piece; rw [if_neg hd]
      rw [e1, e2] at h
      have k4 : laidL f p = laidL g p := by simpa using h
      rcases List.mem_cons.1 hc with rfl | hc
      · exact absurd h0 hd
      · exact laid_unique hf hg p (fun x hx => h1 x (by simp [hx])) (fun x hx => h2 x (by simp [hx])) k4 c hc h0

theorem sm_unique {sig : List Sy} {f g : Int → Option (List Int)} {p t : List Int} (hf : Rt sig f) (hg : Rt sig g) (h1 : Sm f p t) (h2 : Sm g p t) : ∀ c ∈ p, c < 0 → f (-1 - c) = g (-1 - c) := laid_unique hf hg p h1.1 h2.1 (by rw [h1.2, h2.2])

theorem binds_unique {sig : List Sy} {f g : Int → Option (List Int)} {p t : List Int} (hf : Rt sig f) (hg : Rt sig g) (h1 : Sm f p t) (h2 : Sm g p t) : bindsL f p = bindsL g p := by
  unfold bindsL
  refine List.map_congr_left fun n hn => ?_
  obtain ⟨c, hc, h0, rfl⟩ := mem_varsL.1 ((sortI_mem _ _).1 hn)
  rw [sm_unique hf hg h1 h2 c hc h0]

end Go.Proofs.YtgpbnbmjgcchfaaGreatDoor

/- Do of package step walked. -/
namespace Go.Proofs.YtgpbnbmjgcchfaaGreatDoor
open Go.RowKit Go.Maps Go.BigFrame

/-- The binds by which a left side matches. -/
noncomputable def hitBd (sig : List Sy) (l t : List Int) : List Bd := @dite _ (Hit sig l t) (Classical.propDecidable _) (fun h => bindsL (Classical.choose h) l) (fun _ => [])

theorem hitBd_eq {sig : List Sy} {l t : List Int} {f : Int → Option (List Int)} (hf : Rt sig f) (hs : Sm f l t) : hitBd sig l t = bindsL f l := by
  unfold hitBd
  have h : Hit sig l t := ⟨f, hf, hs⟩
  rw [dif_pos h]
  have h9 := Classical.choose_spec h
  exact binds_unique h9.1 hf h9.2 hs

/-- What Do answers with a rule that is there. -/
noncomputable def doK (sig : List Sy) (t : List Int) (p : Int) (r : Rl) : List Int × Int :=
  if hitB sig r.1 (subL sig t p) = true then (if applyE sig (hitBd sig r.1 (subL sig t p)) r.2 = 0 then (replL sig t p (applyL sig (hitBd sig r.1 (subL sig t p)) r.2), replE sig t p (applyL sig (hitBd sig r.1 (subL sig t p)) r.2)) else ([], applyE sig (hitBd sig r.1 (subL sig t p)) r.2)) else ([], 80)

/-- What Do answers. -/
noncomputable def doR (sig : List Sy) (rs : List Rl) (t : List Int) (p k : Int) : List Int × Int :=
  if stepE sig rs t = 0 then (if placeE sig t p = 0 then (if k < 0 then ([], 1) else match rs[k.toNat]? with | none => ([], 1) | some r => doK sig t p r) else ([], placeE sig t p)) else ([], stepE sig rs t)

theorem apply_few (sig : List Sy) (S : List Bd) (r : List Int) : (applyL sig S r).length ≤ 512 := by
  unfold applyL
  split
  · split
    · rw [(lay_eq (bnd S) r).2]
      split
      · simp
      · omega
    · simp
  · simp

theorem sub_term {sig : List Sy} {t : List Int} {p : Int} (h : placeE sig t p = 0) : termE sig (subL sig t p) = 0 := by
  have ht := place_term h
  obtain ⟨_, _, k, m, rfl, _, _, _, _, h5, h6⟩ := placeE_ok h
  rw [h5]
  unfold termE
  rw [if_pos (term_parts ht).1]
  exact h6

theorem nil_own (w : World) (base : Nat) : OwI w base (.slice none 0 0) [] := ⟨fun k x hk => (by simp at hk), World.ownsRow_nil _ _ _ _⟩

theorem do_ret {a b : Int} {L M : List Int} (h : (M, b) = (L, a)) {w : World} {base : Nat} {v : Value} (ho : OwI w base v L) : Ending.returned (.tuple #[v, .int .i64 a]) = .returned (.tuple #[v, .int .i64 (M, b).2]) ∧ OwI w base v (M, b).1 := by
  cases h
  exact ⟨rfl, ho⟩

set_option maxRecDepth 100000 in
set_option maxHeartbeats 3200000 in
theorem do_any (sv rv tv : Value) (sig : List Sy) (rs : List Rl) (t : List Int) (p k : Int) (w : World) (hs : Sg w sv sig) (hr : RU w rv rs) (ht : Is w tv t) (hT : Tabs w) (htl : t.length ≤ 1048576) (hp1 : -9223372036854775808 ≤ p) (hp2 : p ≤ 9223372036854775807) (hk1 : -9223372036854775808 ≤ k) (hk2 : k ≤ 9223372036854775807) :
    Calls Tryz.prog 12 #[.agg #[sv, rv], tv, .agg #[.int .i64 p, .int .i64 k]] w fun e w' => ∃ v', e = .returned (.tuple #[v', .int .i64 (doR sig rs t p k).2]) ∧ OwI w' w.heap.size v' (doR sig rs t p k).1 ∧ Below w.heap.size w w' := by
  obtain ⟨so, sc, rfl, hso, hsc, _⟩ := Row.flat hs
  obtain ⟨ro, rc, rfl, hro, hrc, _⟩ := Row.flat hr
  unfold maxLen at hrc
  have HS := hid hs
  have HR := hid hr
  have HTt := hid ht
  have HT := hid hT
  clear hs hr ht hT
  obtain ⟨w0, hw0⟩ : ∃ X, X = (w.alloc (.cells #[.slice so sig.length sc, .slice ro rs.length rc] 25)).alloc (.cells #[.int .i64 p, .int .i64 k] 32) := ⟨_, rfl⟩
  have C0 : Hid (Below w.heap.size w w0) := by rw [hw0]; exact below_step (below_alloc _) (below_alloc _)
  have HC : Hid (∀ W, Below w0.heap.size w0 W → (W.cell? ⟨w.heap.size, 0, none⟩ = some (.slice so sig.length sc) ∧ W.cell? ⟨w.heap.size, 1, none⟩ = some (.slice ro rs.length rc)) ∧ W.cell? ⟨w.heap.size + 1, 0, none⟩ = some (.int .i64 p) ∧ W.cell? ⟨w.heap.size + 1, 1, none⟩ = some (.int .i64 k)) := fun W hW => by
    have hk := Kp.of_below hW
    rw [hw0] at hk
    have e9 : w.heap.size + 1 = (w.alloc (.cells #[.slice so sig.length sc, .slice ro rs.length rc] 25)).heap.size := (World.size_alloc _ _).symm
    rw [e9]
    exact ⟨⟨hk.cell _ _ (cell_old (cell_new rfl)), hk.cell _ _ (cell_old (cell_new rfl))⟩, hk.cell _ _ (cell_new rfl), hk.cell _ _ (cell_new rfl)⟩
  obtain ⟨R, hR⟩ : ∃ R, R = doR sig rs t p k := ⟨_, rfl⟩
  rw [← hR]
  have HD := hid hR
  clear hR
  obtain ⟨RM, RB⟩ := R
  unfold doR at HD
  go_enter Tryz.func12, Tryz.ntmps12
  go_wp2_with fail
  rw [← hw0]
  clear hw0
  refine (stepCheck_any _ _ _ sig rs t w0 (HS.out.kp (Kp.of_below C0.out)) (HR.out.kp (Kp.of_below C0.out)) (HTt.out.kp (Kp.of_below C0.out)) (HT.out.below C0.out) (by omega)).mono ?_
  rintro e w1 ⟨rfl, hb1⟩
  have C1 := hid (below_step C0.out hb1)
  have D1 := hid hb1
  clear hb1
  by_cases he : stepE sig rs t = 0
  · obtain ⟨hok, hte⟩ := stepE_zero he
    rw [he]
    rw [if_pos he] at HD
    have HOk := hid (sys_right hok).2
    have HTe := hid hte
    clear he hok hte
    obtain ⟨⟨x0, x1⟩, y0, y1⟩ := HC.out w1 D1.out
    go_wp2_with fail
    refine (sub_any _ _ sig t p w1 (HS.out.kp (Kp.of_below C1.out)) (HTt.out.kp (Kp.of_below C1.out)) (HT.out.below C1.out) (by omega) hp1 hp2).mono ?_
    rintro e w2 ⟨v2, rfl, ho2, hb2⟩
    have C2 := hid (below_step C1.out hb2)
    have D2 := hid (below_step D1.out hb2)
    have HO2 := hid ho2
    clear ho2 hb2 x0 x1 y0 y1
    by_cases hpl : placeE sig t p = 0
    · rw [hpl]
      rw [if_pos hpl] at HD
      have HPl := hid hpl
      clear hpl
      obtain ⟨⟨x0, x1⟩, y0, y1⟩ := HC.out w2 D2.out
      by_cases hk0 : k < 0
      · have hd0 : decide (k < 0) = true := by simpa using hk0
        rw [if_pos hk0] at HD
        go_wp2
        go_ret2
        obtain ⟨q1, q2⟩ := do_ret HD.out (nil_own _ _)
        exact ⟨_, q1, q2, C2.out⟩
      · have hd0 : decide (k < 0) = false := by simpa using hk0
        rw [if_neg hk0] at HD
        obtain ⟨K, rfl⟩ : ∃ K : Nat, k = (K : Int) := ⟨k.toNat, by omega⟩
        rw [Int.toNat_natCast] at HD
        by_cases hkl : K < rs.length
        · have hd1 : decide ((K : Int) ≥ (rs.length : Int)) = false := by simpa using (show ¬ (K : Int) ≥ (rs.length : Int) by omega)
          obtain ⟨g, off, l, r, a1, c1, a2, c2, rfl, hm, e0, e1, hi1, hi2, hl1, hl2⟩ := (HR.out.kp (Kp.of_below C2.out)).at hkl
          rw [hm] at HD
          simp only at HD
          unfold doK at HD
          have hrp := rule_parts (HOk.out _ (List.mem_of_getElem? hm))
          have HRp := hid hrp
          have HI1 := hid hi1
          have HI2 := hid hi2
          obtain ⟨W3, hW3⟩ : ∃ X, X = w2.alloc (.cells #[.slice a1 l.length c1, .slice a2 r.length c2] 64) := ⟨_, rfl⟩
          have b3 : Hid (Below w2.heap.size w2 W3) := by rw [hW3]; exact below_alloc _
          have C3 := hid (below_step C2.out b3.out)
          have D3 := hid (below_step D2.out b3.out)
          have HF : Hid (∀ W, Below W3.heap.size W3 W → W.cell? ⟨w2.heap.size, 0, none⟩ = some (.slice a1 l.length c1) ∧ W.cell? ⟨w2.heap.size, 1, none⟩ = some (.slice a2 r.length c2)) := fun W hW => by
            have hk := Kp.of_below hW
            rw [hW3] at hk
            exact ⟨hk.cell _ _ (cell_new rfl), hk.cell _ _ (cell_new rfl)⟩
          have hsl : (subL sig t p).length ≤ t.length := by
            unfold subL
            split
            · rw [List.length_take, List.length_drop]; omega
            · simp
          have z0 := (Kp.of_below b3.out).cell _ _ x0
          rw [hW3] at z0
          clear hm hi1 hi2 hrp
          go_wp2_with fail
          rw [← hW3]
          clear hW3 z0 x0 x1 y0 y1 e0 e1
          refine (match_any _ _ _ sig l (subL sig t p) W3 (HS.out.kp (Kp.of_below C3.out)) (HI1.out.kp (Kp.of_below b3.out)) (HO2.out.is.kp (Kp.of_below b3.out)) (HT.out.below C3.out) (by have := HRp.out.2.2.1; omega) (by omega)).mono ?_
          rintro e w4 ⟨hb4, hres⟩
          have C4 := hid (below_step C3.out hb4)
          have D4 := hid (below_step D3.out hb4)
          have E4 := hid hb4
          have HSt : Hid (termE sig (subL sig t p) = 0) := sub_term HPl.out
          clear hb4
          rcases hres with ⟨rfl, hno⟩ | ⟨v4, f, rfl, _, _, hf, hsm, hob⟩
          · have hh : hitB sig l (subL sig t p) = false := hitB_false fun ⟨f, hf, h⟩ => by
              rcases hno with h9 | h9 | h9
              · exact h9 HRp.out.1
              · exact h9 HSt.out
              · exact h9 f hf h
            rw [hh, if_neg (by simp)] at HD
            clear hno hh
            go_wp2
            go_ret2
            obtain ⟨q1, q2⟩ := do_ret HD.out (nil_own _ _)
            exact ⟨_, q1, q2, C4.out⟩
          · rw [hitB_true ⟨f, hf, hsm⟩, if_pos rfl, hitBd_eq hf hsm] at HD
            have HOb := hid hob.bs
            clear hf hsm hob
            generalize bindsL f l = S at HD HOb
            obtain ⟨⟨x0, x1⟩, y0, y1⟩ := HC.out w4 D4.out
            obtain ⟨f0, f1⟩ := HF.out w4 E4.out
            go_wp2_with fail
            refine (apply_any _ _ _ sig S r w4 (HS.out.kp (Kp.of_below C4.out)) HOb.out (HI2.out.kp (Kp.of_below (below_step b3.out E4.out))) (HT.out.below C4.out) hl2).mono ?_
            rintro e w5 ⟨v5, rfl, ho5, hb5⟩
            have C5 := hid (below_step C4.out hb5)
            have D5 := hid (below_step D4.out hb5)
            have HO5 := hid ho5
            clear ho5 hb5 x0 x1 y0 y1 f0 f1
            by_cases hae : applyE sig S r = 0
            · rw [hae]
              rw [if_pos hae] at HD
              have HLl : Hid ((applyL sig S r).length * 8 ≤ 140737488351232) := by
                have h9 := apply_few sig S r
                show _ ≤ _
                omega
              clear hae
              generalize applyL sig S r = Q at HD HO5 HLl
              obtain ⟨⟨x0, x1⟩, y0, y1⟩ := HC.out w5 D5.out
              go_wp2_with fail
              refine (replace_any _ _ _ sig t Q p w5 (HS.out.kp (Kp.of_below C5.out)) (HTt.out.kp (Kp.of_below C5.out)) HO5.out.is (HT.out.below C5.out) (by omega) HLl.out hp1 hp2).mono ?_
              rintro e w6 ⟨v6, rfl, ho6, hb6⟩
              have C6 := hid (below_step C5.out hb6)
              have HO6 := hid (ho6.mono C5.out.size)
              clear ho6 hb6 x0 x1 y0 y1
              generalize replE sig t p Q = Z at HD ⊢
              generalize replL sig t p Q = ZL at HD HO6
              go_wp2
              go_ret2
              obtain ⟨q1, q2⟩ := do_ret HD.out HO6.out
              exact ⟨_, q1, q2, C6.out⟩
            · rw [if_neg hae] at HD
              generalize applyE sig S r = Z at hae HD ⊢
              have hne : (Z != 0) = true := by rw [bne_iff_ne]; exact hae
              clear hae
              go_wp2
              go_ret2
              obtain ⟨q1, q2⟩ := do_ret HD.out (nil_own _ _)
              exact ⟨_, q1, q2, C5.out⟩
        · have hd1 : decide ((K : Int) ≥ (rs.length : Int)) = true := by simpa using (show (K : Int) ≥ (rs.length : Int) by omega)
          rw [List.getElem?_eq_none (by omega)] at HD
          simp only at HD
          go_wp2
          go_ret2
          obtain ⟨q1, q2⟩ := do_ret HD.out (nil_own _ _)
          exact ⟨_, q1, q2, C2.out⟩
    · rw [if_neg hpl] at HD
      generalize placeE sig t p = Z at hpl HD ⊢
      have hne : (Z != 0) = true := by rw [bne_iff_ne]; exact hpl
      clear hpl
      go_wp2
      go_ret2
      obtain ⟨q1, q2⟩ := do_ret HD.out (nil_own _ _)
      exact ⟨_, q1, q2, C2.out⟩
  · rw [if_neg he] at HD
    generalize stepE sig rs t = Z at he HD ⊢
    have hne : (Z != 0) = true := by rw [bne_iff_ne]; exact he
    clear he
    go_wp2
    go_ret2
    obtain ⟨q1, q2⟩ := do_ret HD.out (nil_own _ _)
    exact ⟨_, q1, q2, C1.out⟩

end Go.Proofs.YtgpbnbmjgcchfaaGreatDoor

/- The examples of layer 8: the system, and what comes out, plainly. -/
namespace Go.Proofs.YtgpbnbmjgcchfaaGreatDoor
open Go.RowKit Go.Maps Go.BigFrame

def sumR0 : Rl := ([2, 0, -1], [-1])
def sumR1 : Rl := ([2, 1, -1, -2], [1, 2, -1, -2])

theorem heap_newg8 {w : World} {o : Obj} {g : Nat} (h : g = w.heap.size) : (w.alloc o).heap[g]? = some o := by
  subst h
  exact heap_alloc_new _ _

/-- Two rules in a block. -/
theorem ru_lit8 {W : World} {g : Nat} {a0 a1 a2 a3 : Option Addr} {n0 n1 n2 n3 c0 c1 c2 c3 : Nat} {p q r s : List Int} (h0 : W.cell? ⟨g, 0, none⟩ = some (.slice a0 n0 c0)) (h1 : W.cell? ⟨g, 1, none⟩ = some (.slice a1 n1 c1)) (h2 : W.cell? ⟨g, 2, none⟩ = some (.slice a2 n2 c2)) (h3 : W.cell? ⟨g, 3, none⟩ = some (.slice a3 n3 c3))
    (i0 : Is W (.slice a0 n0 c0) p) (i1 : Is W (.slice a1 n1 c1) q) (i2 : Is W (.slice a2 n2 c2) r) (i3 : Is W (.slice a3 n3 c3) s) (l0 : p.length ≤ 99) (l1 : q.length ≤ 99) (l2 : r.length ≤ 99) (l3 : s.length ≤ 99) : RU W (.slice (some ⟨g, 0, none⟩) 2 2) [(p, q), (r, s)] := by
  refine ⟨some ⟨g, 0, none⟩, 2, rfl, Nat.le_refl _, by unfold maxLen; omega, fun _ => ⟨g, 0, rfl, World.block_lt_of_cell? _ _ h0, fun k x hk => ?_⟩⟩
  match k, hk with
  | 0, hk =>
    cases hk
    exact ⟨by simp only; omega, by simp only; omega, _, _, h0, h1, i0, i1⟩
  | 1, hk =>
    cases hk
    exact ⟨by simp only; omega, by simp only; omega, _, _, h2, h3, i2, i3⟩
  | k + 2, hk => simp at hk

theorem results_one8 {P : Program} {fn : Func} {w : World} {tmps : Array Value} {t : Tmp} {ty : TypeId} {ad : Addr} {v : Value} (h : fn.results = #[.cell t ty]) (ht : tmps.getD t undef = .pointer (some ad)) (hl : (loadVar ty ad).run P w = .ok v w) : (results fn tmps).run P w = .ok v w := by
  have ht2 : tmps[t]?.getD undef = .pointer (some ad) := by simpa using ht
  simp [results, h, ht2, hl, asAddr]

set_option maxRecDepth 100000 in
set_option maxHeartbeats 1600000 in
theorem sums_any (w : World) :
    Calls Tryz.prog 25 #[] w fun e w' => ∃ sv rv, e = .returned (.agg #[sv, rv]) ∧ Sg w' sv sumS ∧ RU w' rv [sumR0, sumR1] ∧ Below w.heap.size w w' := by
  go_enter Tryz.func25, Tryz.ntmps25
  go_wp2
  generalize hW : World.alloc _ _ = W
  have hsz : W.heap.size = w.heap.size + 7 := by rw [← hW]; simp
  have hb : Below w.heap.size w W := by
    rw [← hW]
    exact below_step (below_step (below_step (below_step (below_step (below_step (below_alloc _) (below_alloc _)) (below_alloc _)) (below_alloc _)) (below_alloc _)) (below_alloc _)) (below_alloc _)
  have k0 : W.cell? ⟨w.heap.size, 0, none⟩ = some (.slice (some ⟨w.heap.size + 1, 0, none⟩) 3 3) := by rw [← hW]; repeat (first | (refine cell_newg ?_ rfl; simp; done) | refine cell_old ?_)
  have k1 : W.cell? ⟨w.heap.size, 1, none⟩ = some (.slice (some ⟨w.heap.size + 6, 0, none⟩) 2 2) := by rw [← hW]; repeat (first | (refine cell_newg ?_ rfl; simp; done) | refine cell_old ?_)
  have hS : Sg W (.slice (some ⟨w.heap.size + 1, 0, none⟩) 3 3) sumS := by
    refine sg_lit (p := sumS) (by omega) (by decide) ⟨⟨by decide, by decide, by decide, ?_, ?_⟩, ⟨by decide, by decide, by decide, ?_, ?_⟩, ⟨by decide, by decide, by decide, ?_, ?_⟩, trivial⟩ <;> (rw [← hW]; repeat (first | (refine cell_newg ?_ rfl; simp; done) | refine cell_old ?_))
  have i0 : Is W (.slice (some ⟨w.heap.size + 2, 0, none⟩) 3 3) [2, 0, -1] := by
    refine is_lit (p := [2, 0, -1]) (by omega) (by decide) ⟨ei (by omega) (by omega) ?_, ei (by omega) (by omega) ?_, ei (by omega) (by omega) ?_, trivial⟩ <;> (rw [← hW]; repeat (first | (refine cell_newg ?_ rfl; simp; done) | refine cell_old ?_))
  have i1 : Is W (.slice (some ⟨w.heap.size + 3, 0, none⟩) 1 1) [-1] := by
    refine is_lit (p := [-1]) (by omega) (by decide) ⟨ei (by omega) (by omega) ?_, trivial⟩ <;> (rw [← hW]; repeat (first | (refine cell_newg ?_ rfl; simp; done) | refine cell_old ?_))
  have i2 : Is W (.slice (some ⟨w.heap.size + 4, 0, none⟩) 4 4) [2, 1, -1, -2] := by
    refine is_lit (p := [2, 1, -1, -2]) (by omega) (by decide) ⟨ei (by omega) (by omega) ?_, ei (by omega) (by omega) ?_, ei (by omega) (by omega) ?_, ei (by omega) (by omega) ?_, trivial⟩ <;> (rw [← hW]; repeat (first | (refine cell_newg ?_ rfl; simp; done) | refine cell_old ?_))
  have i3 : Is W (.slice (some ⟨w.heap.size + 5, 0, none⟩) 4 4) [1, 2, -1, -2] := by
    refine is_lit (p := [1, 2, -1, -2]) (by omega) (by decide) ⟨ei (by omega) (by omega) ?_, ei (by omega) (by omega) ?_, ei (by omega) (by omega) ?_, ei (by omega) (by omega) ?_, trivial⟩ <;> (rw [← hW]; repeat (first | (refine cell_newg ?_ rfl; simp; done) | refine cell_old ?_))
  have hR : W.heap[w.heap.size + 6]? = some (.cells #[.slice (some ⟨w.heap.size + 2, 0, none⟩) 3 3, .slice (some ⟨w.heap.size + 3, 0, none⟩) 1 1, .slice (some ⟨w.heap.size + 4, 0, none⟩) 4 4, .slice (some ⟨w.heap.size + 5, 0, none⟩) 4 4] 64) := by
    rw [← hW]
    exact heap_newg8 (by simp)
  have hRU : RU W (.slice (some ⟨w.heap.size + 6, 0, none⟩) 2 2) [sumR0, sumR1] := ru_lit8 (cell_of_row _ _ _ _ _ _ hR) (cell_of_row _ _ _ _ _ _ hR) (cell_of_row _ _ _ _ _ _ hR) (cell_of_row _ _ _ _ _ _ hR) i0 i1 i2 i3 (by decide) (by decide) (by decide) (by decide)
  clear hW
  refine bodyPost_ret (results_one8 rfl rfl ?_) rfl ⟨_, _, rfl, hS, hRU, hb⟩
  go_simp

theorem no_hit {sig : List Sy} {l t : List Int} (h : begB l t = false) : hitB sig l t = false := hitB_false fun h9 => by rw [hit_beg l t h9] at h; cases h

theorem hit0 : Hit sumS [2, 0, -1] [2, 0, 0] := by
  refine ⟨fun n => if n = 0 then some [0] else none, fun n u h => ?_, fun c hc h0 => ?_, by decide⟩
  · simp only at h
    split at h
    · cases h
      kernel_rfl
    · cases h
  · simp only [List.mem_cons, List.not_mem_nil, or_false] at hc
    rcases hc with rfl | rfl | rfl
    · omega
    · omega
    · decide

theorem rt1 : Rt sumS (fun n => if n = 0 ∨ n = 1 then some [0] else none) := fun n u h => by
  simp only at h
  split at h
  · cases h
    kernel_rfl
  · cases h

theorem sm1 : Sm (fun n => if n = 0 ∨ n = 1 then some [0] else none) [2, 1, -1, -2] [2, 1, 0, 0] := by
  refine ⟨fun c hc h0 => ?_, by decide⟩
  simp only [List.mem_cons, List.not_mem_nil, or_false] at hc
  rcases hc with rfl | rfl | rfl | rfl
  · omega
  · omega
  · decide
  · decide

theorem sh8_step1 : stepE sumS [sumR0, sumR1] [2, 2, 0, 0, 2, 0, 0] = 0 := by kernel_rfl
theorem sh8_step2 : stepE sumS [sumR0, sumR1] [2, 0, 2, 1, 0, 0] = 0 := by kernel_rfl
theorem sh8_step3 : stepE sumS [sumR0, sumR1] [1, 0] = 0 := by kernel_rfl
theorem sh8_step4 : stepE sumS [sumR0, sumR1] [2, 1, 0, 0] = 0 := by kernel_rfl

theorem red_none {part : List Int} {x k : Nat} (h0 : begB [2, 0, -1] part = false) (h1 : begB [2, 1, -1, -2] part = false) : redL sumS part x k [sumR0, sumR1] = [] := by
  unfold redL redL redL sumR0 sumR1
  simp only
  rw [no_hit h0, no_hit h1]
  rfl

theorem red_zero {x : Nat} : redL sumS [2, 0, 0] x 0 [sumR0, sumR1] = [((x : Int), 0)] := by
  unfold redL redL redL sumR0 sumR1
  simp only
  rw [hitB_true hit0, no_hit (show begB [2, 1, -1, -2] [2, 0, 0] = false by decide)]
  rfl

theorem sh8_all : allR sumS [sumR0, sumR1] [2, 2, 0, 0, 2, 0, 0] = [(1, 0), (4, 0)] := by
  unfold allR
  rw [if_pos sh8_step1]
  unfold allL
  have e0 : subL sumS [2, 2, 0, 0, 2, 0, 0] ((0 : Nat) : Int) = [2, 2, 0, 0, 2, 0, 0] := by kernel_rfl
  have e1 : subL sumS [2, 2, 0, 0, 2, 0, 0] ((1 : Nat) : Int) = [2, 0, 0] := by kernel_rfl
  have e2 : subL sumS [2, 2, 0, 0, 2, 0, 0] ((2 : Nat) : Int) = [0] := by kernel_rfl
  have e3 : subL sumS [2, 2, 0, 0, 2, 0, 0] ((3 : Nat) : Int) = [0] := by kernel_rfl
  have e4 : subL sumS [2, 2, 0, 0, 2, 0, 0] ((4 : Nat) : Int) = [2, 0, 0] := by kernel_rfl
  have e5 : subL sumS [2, 2, 0, 0, 2, 0, 0] ((5 : Nat) : Int) = [0] := by kernel_rfl
  have e6 : subL sumS [2, 2, 0, 0, 2, 0, 0] ((6 : Nat) : Int) = [0] := by kernel_rfl
  show ([0, 1, 2, 3, 4, 5, 6] : List Nat).flatMap (fun (x : Nat) => redL sumS (subL sumS [2, 2, 0, 0, 2, 0, 0] (x : Int)) x 0 [sumR0, sumR1]) = _
  simp only [List.flatMap_cons, List.flatMap_nil]
  rw [e0, e1, e2, e3, e4, e5, e6, red_zero, red_zero, red_none (by decide) (by decide), red_none (by decide) (by decide), red_none (by decide) (by decide), red_none (by decide) (by decide), red_none (by decide) (by decide)]
  rfl

theorem pv_leaf (a : Nat) : Pv sumS [0] a [(a, a + 1)] := Pv.mk (sig := sumS) 0 [] a [] (by decide) (by kernel_rfl) rfl (by kernel_rfl) (fun i u v h => by simp at h)

theorem pv_s (a : Nat) : Pv sumS [1, 0] a [(a + 1, a + 2), (a, a + 2)] := Pv.mk (sig := sumS) 1 [[0]] a [[(a + 1, a + 2)]] (by decide) (by kernel_rfl) rfl (by kernel_rfl) (fun i u v hu hv => by
  match i, hu, hv with
  | 0, hu, hv =>
    cases hu
    cases hv
    exact pv_leaf (a + 1)
  | i + 1, hu, _ => simp at hu)

theorem pv_p (a : Nat) : Pv sumS [2, 1, 0, 0] a [(a + 2, a + 3), (a + 1, a + 3), (a + 3, a + 4), (a, a + 4)] := Pv.mk (sig := sumS) 2 [[1, 0], [0]] a [[(a + 2, a + 3), (a + 1, a + 3)], [(a + 3, a + 4)]] (by decide) (by kernel_rfl) rfl (by kernel_rfl) (fun i u v hu hv => by
  match i, hu, hv with
  | 0, hu, hv =>
    cases hu
    cases hv
    exact pv_s (a + 1)
  | 1, hu, hv =>
    cases hu
    cases hv
    exact pv_leaf (a + 3)
  | i + 2, hu, _ => simp at hu)

theorem pv_t : Pv sumS [2, 0, 2, 1, 0, 0] 0 [(1, 2), (4, 5), (3, 5), (5, 6), (2, 6), (0, 6)] := Pv.mk (sig := sumS) 2 [[0], [2, 1, 0, 0]] 0 [[(1, 2)], [(4, 5), (3, 5), (5, 6), (2, 6)]] (by decide) (by kernel_rfl) rfl (by kernel_rfl) (fun i u v hu hv => by
  match i, hu, hv with
  | 0, hu, hv =>
    cases hu
    cases hv
    exact pv_leaf 1
  | 1, hu, hv =>
    cases hu
    cases hv
    exact pv_p 2
  | i + 2, hu, _ => simp at hu)

theorem idx_none {part : List Int} {k : Nat} (h0 : begB [2, 0, -1] part = false) (h1 : begB [2, 1, -1, -2] part = false) : idxL sumS part k [sumR0, sumR1] = -1 := by
  unfold idxL idxL idxL sumR0 sumR1
  simp only
  rw [no_hit h0, no_hit h1]
  rfl

theorem idx_one : idxL sumS [2, 1, 0, 0] 0 [sumR0, sumR1] = 1 := by
  unfold idxL idxL idxL sumR0 sumR1
  simp only
  rw [no_hit (show begB [2, 0, -1] [2, 1, 0, 0] = false by decide), hitB_true ⟨_, rt1, sm1⟩]
  rfl

theorem stop_none {t : List Int} {v : Nat × Nat} (h0 : begB [2, 0, -1] (partV t v) = false) (h1 : begB [2, 1, -1, -2] (partV t v) = false) : stopF sumS [sumR0, sumR1] t v = false := by
  unfold stopF
  rw [idx_none h0 h1]
  rfl

theorem part_p : partV [2, 0, 2, 1, 0, 0] (2, 6) = [2, 1, 0, 0] := by kernel_rfl

theorem stop_p : stopF sumS [sumR0, sumR1] [2, 0, 2, 1, 0, 0] (2, 6) = true := by
  unfold stopF
  rw [part_p, idx_one]
  rfl

theorem sh8_first : fstV sumS [sumR0, sumR1] [2, 0, 2, 1, 0, 0] (upto (stopF sumS [sumR0, sumR1] [2, 0, 2, 1, 0, 0]) [(1, 2), (4, 5), (3, 5), (5, 6), (2, 6), (0, 6)]) = (2, 1) ∧ ([(1, 2), (4, 5), (3, 5), (5, 6), (2, 6), (0, 6)] : List (Nat × Nat)).any (stopF sumS [sumR0, sumR1] [2, 0, 2, 1, 0, 0]) = true := by
  have n1 : stopF sumS [sumR0, sumR1] [2, 0, 2, 1, 0, 0] (1, 2) = false := stop_none (by decide) (by decide)
  have n2 : stopF sumS [sumR0, sumR1] [2, 0, 2, 1, 0, 0] (4, 5) = false := stop_none (by decide) (by decide)
  have n3 : stopF sumS [sumR0, sumR1] [2, 0, 2, 1, 0, 0] (3, 5) = false := stop_none (by decide) (by decide)
  have n4 : stopF sumS [sumR0, sumR1] [2, 0, 2, 1, 0, 0] (5, 6) = false := stop_none (by decide) (by decide)
  constructor
  · simp only [upto, n1, n2, n3, n4, stop_p]
    show fstV _ _ _ ([(1, 2), (4, 5), (3, 5), (5, 6)] ++ [(2, 6)]) = _
    rw [fstV_snoc, part_p, idx_one]
    rfl
  · simp only [List.any_cons, n1, n2, n3, n4, stop_p, Bool.false_or, Bool.true_or]

theorem sh8_second : ([(1, 2), (0, 2)] : List (Nat × Nat)).any (stopF sumS [sumR0, sumR1] [1, 0]) = false := by
  have n1 : stopF sumS [sumR0, sumR1] [1, 0] (1, 2) = false := stop_none (by decide) (by decide)
  have n2 : stopF sumS [sumR0, sumR1] [1, 0] (0, 2) = false := stop_none (by decide) (by decide)
  simp only [List.any_cons, n1, n2, List.any_nil, Bool.false_or]

theorem binds1 : bindsL (fun n => if n = 0 ∨ n = 1 then some [0] else none) [2, 1, -1, -2] = [(0, [0]), (1, [0])] := by
  unfold bindsL
  have h2 : varsL [2, 1, -1, -2] = [0, 1] := by kernel_rfl
  have h3 : sortI [0, 1] = [0, 1] := by
    unfold sortI
    exact List.mergeSort_of_pairwise (by simp)
  rw [h2, h3]
  decide

theorem sh8_do1 : doR sumS [sumR0, sumR1] [2, 1, 0, 0] 0 1 = ([1, 2, 0, 0], 0) := by
  unfold doR
  have hp : placeE sumS [2, 1, 0, 0] 0 = 0 := by kernel_rfl
  have hs : subL sumS [2, 1, 0, 0] 0 = [2, 1, 0, 0] := by kernel_rfl
  rw [if_pos sh8_step4, if_pos hp, if_neg (by decide)]
  show doK sumS [2, 1, 0, 0] 0 sumR1 = _
  unfold doK sumR1
  simp only
  rw [hs, hitB_true ⟨_, rt1, sm1⟩, if_pos rfl, hitBd_eq rt1 sm1, binds1]
  have ha : applyE sumS [(0, [0]), (1, [0])] [1, 2, -1, -2] = 0 := by kernel_rfl
  have hl : applyL sumS [(0, [0]), (1, [0])] [1, 2, -1, -2] = [1, 2, 0, 0] := by kernel_rfl
  rw [if_pos ha, hl]
  have h1 : replL sumS [2, 1, 0, 0] 0 [1, 2, 0, 0] = [1, 2, 0, 0] := by kernel_rfl
  have h2 : replE sumS [2, 1, 0, 0] 0 [1, 2, 0, 0] = 0 := by kernel_rfl
  rw [h1, h2]

theorem sh8_do2 : doR sumS [sumR0, sumR1] [2, 1, 0, 0] 0 0 = ([], 80) := by
  unfold doR
  have hp : placeE sumS [2, 1, 0, 0] 0 = 0 := by kernel_rfl
  have hs : subL sumS [2, 1, 0, 0] 0 = [2, 1, 0, 0] := by kernel_rfl
  rw [if_pos sh8_step4, if_pos hp, if_neg (by decide)]
  show doK sumS [2, 1, 0, 0] 0 sumR0 = _
  unfold doK sumR0
  simp only
  rw [hs, no_hit (by decide), if_neg (by simp)]

theorem sh8_do3 : doR sumS [sumR0, sumR1] [2, 1, 0, 0] 4 1 = ([], 33) := by
  unfold doR
  have hp : placeE sumS [2, 1, 0, 0] 4 = 33 := by kernel_rfl
  rw [if_pos sh8_step4, hp, if_neg (by decide)]

theorem sh8_do4 : doR sumS [sumR0, sumR1] [2, 1, 0, 0] 0 2 = ([], 1) := by
  unfold doR
  have hp : placeE sumS [2, 1, 0, 0] 0 = 0 := by kernel_rfl
  rw [if_pos sh8_step4, if_pos hp, if_neg (by decide)]
  rfl

end Go.Proofs.YtgpbnbmjgcchfaaGreatDoor

/- What same and sameRow of layer 8's laws tell. -/
namespace Go.Proofs.YtgpbnbmjgcchfaaGreatDoor
open Go.RowKit Go.Maps Go.BigFrame

set_option maxHeartbeats 400000 in
theorem sameRow8_any (v u : Value) (xs ys : List Int) (w : World) (h : Is w v xs) (h' : Is w u ys) :
    Calls Tryz.prog 14 #[v, u] w fun e w' => e = .returned (.bool (decide (xs = ys))) ∧ ∃ n, w' = w.drewN n := by
  obtain ⟨ao, cap, rfl, hao, hca, hcl⟩ := h.flatI
  obtain ⟨bo, cap', rfl, hbo, hcb, hcl'⟩ := h'.flatI
  clear h h'
  by_cases hl : xs.length = ys.length
  · have hle : ((xs.length : Int) != ys.length) = false := by simp; omega
    go_enter Tryz.func14, Tryz.ntmps14
    go_wp2
    go_loopw [5] (fun i wr => ∃ k : Nat, k ≤ xs.length ∧ i = .int .i64 k ∧ xs.take k = ys.take k ∧ ∃ n, wr = w.drewN n) (fun i _ => xs.length - (intOf i).toNat)
    case atStart => exact ⟨0, Nat.zero_le _, rfl, rfl, 0, rfl⟩
    case round =>
      obtain ⟨k, hk, rfl, ht, n, rfl⟩ := hrel
      have HT : Hid (xs.take k = ys.take k) := ht
      clear ht
      by_cases hlt : k < xs.length
      · obtain ⟨g, off, x, rfl, hx1, hx3⟩ := hcl k hlt
        obtain ⟨g', off', y, rfl, hy1, hy3⟩ := hcl' k (by omega)
        have HX : Hid (xs[k]? = some x) := hx1
        have HY : Hid (ys[k]? = some y) := hy1
        have hlt' : k < ys.length := by omega
        clear hx1 hy1 hcl hcl'
        by_cases hxy : x = y
        · subst hxy
          have hxx : (x != x) = false := by simp
          go_wp2
          go_quiet (fail)
          go_wp2
          go_roundw
          case rel => exact ⟨k + 1, by omega, by go_num, by rw [take_get HX.out, take_get HY.out, HT.out], _, rfl⟩
          case measure => simp [intOf]; omega
        · have hne : (x != y) = true := by rw [bne_iff_ne]; exact hxy
          go_wp2
          go_quiet (fail)
          go_wp2
          go_ret
          exact ⟨ret1b (by rw [eq_comm, decide_eq_false_iff_not]; rintro rfl; have := HX.out.symm.trans HY.out; simp at this; exact hxy this), _, World.drewN_drewN _ _ _⟩
      · have hk' : k = xs.length := by omega
        go_wp2
        go_ret
        refine ⟨ret1b ?_, n, rfl⟩
        have := HT.out
        rw [List.take_of_length_le (by omega), List.take_of_length_le (by omega)] at this
        simp [this]
  · have hle : ((xs.length : Int) != ys.length) = true := by rw [bne_iff_ne]; omega
    go_enter Tryz.func14, Tryz.ntmps14
    go_wp2
    go_ret
    exact ⟨ret1b (by rw [eq_comm, decide_eq_false_iff_not]; rintro rfl; exact hl rfl), 0, rfl⟩

/-- A row of redexes that is read. -/
def EX (w : World) (g o : Nat) (x : Rx) : Prop := w.cell? ⟨g, o, none⟩ = some (.int .i64 x.1) ∧ w.cell? ⟨g, o + 1, none⟩ = some (.int .i64 x.2)

def Xs (w : World) (v : Value) (d : List Rx) : Prop := Row EX 2 w v d

theorem Xs.kp {w w' : World} {v : Value} {d : List Rx} (h : Xs w v d) (hk : Kp w w') : Xs w' v d := Row.imp h hk.size (fun _ _ _ hx => ⟨hk.cell _ _ hx.1, hk.cell _ _ hx.2⟩)

theorem OX.xs {w : World} {base : Nat} {v : Value} {d : List Rx} (h : OX w base v d) : Xs w v d := by
  rcases h.2.2 with ⟨rfl, hn⟩ | ⟨g, cap, cur, rfl, hb, hg, hc, hm, hs, ht⟩
  · obtain rfl := List.eq_nil_of_length_eq_zero hn
    exact Row.nil (by simp [maxLen])
  · refine ⟨_, cap, rfl, hc, hm, fun _ => ⟨g, 0, rfl, (Array.getElem?_eq_some_iff.1 hg).1, fun k x hk => ?_⟩⟩
    obtain ⟨h1, h2, _⟩ := h.at hk
    exact ⟨by rw [Nat.zero_add]; exact h1, by rw [Nat.zero_add]; exact h2⟩

set_option maxHeartbeats 400000 in
theorem sameX8_any (v u : Value) (xs ys : List Rx) (w : World) (h : Xs w v xs) (h' : Xs w u ys) :
    Calls Tryz.prog 26 #[v, u] w fun e w' => e = .returned (.bool (decide (xs = ys))) ∧ ∃ n, w' = w.drewN n := by
  obtain ⟨ao, cap, rfl, hao, hca, hcl⟩ := Row.flat h
  obtain ⟨bo, cap', rfl, hbo, hcb, hcl'⟩ := Row.flat h'
  unfold maxLen at hca hcb
  clear h h'
  by_cases hl : xs.length = ys.length
  · have hle : ((xs.length : Int) != ys.length) = false := by simp; omega
    go_enter Tryz.func26, Tryz.ntmps26
    go_wp2
    go_loopw [5] (fun i wr => ∃ k : Nat, k ≤ xs.length ∧ i = .int .i64 k ∧ xs.take k = ys.take k ∧ ∃ n, wr = w.drewN n) (fun i _ => xs.length - (intOf i).toNat)
    case atStart => exact ⟨0, Nat.zero_le _, rfl, rfl, 0, rfl⟩
    case round =>
      obtain ⟨k, hk, rfl, ht, n, rfl⟩ := hrel
      have HT : Hid (xs.take k = ys.take k) := ht
      clear ht
      by_cases hlt : k < xs.length
      · obtain ⟨g, off, ⟨x1, x2⟩, rfl, hx1, hx2, hx3⟩ := hcl k hlt
        obtain ⟨g', off', ⟨y1, y2⟩, rfl, hy1, hy2, hy3⟩ := hcl' k (by omega)
        have HX := hid hx1
        have HY := hid hy1
        have hlt' : k < ys.length := by omega
        simp only at hx2 hx3 hy2 hy3
        clear hx1 hy1 hcl hcl'
        by_cases hxy : x1 = y1 ∧ x2 = y2
        · obtain ⟨rfl, rfl⟩ := hxy
          have hxx : (x1 == x1) = true := by simp
          have hxx2 : (x2 == x2) = true := by simp
          go_wp2
          go_quiet (fail)
          go_wp2
          go_roundw
          case rel => exact ⟨k + 1, by omega, by go_num, by rw [take_get HX.out, take_get HY.out, HT.out], _, rfl⟩
          case measure => simp [intOf]; omega
        · have hne : ¬ (x1 = y1 ∧ x2 = y2) := hxy
          have HNe : Hid (decide (xs = ys) = false) := by
            show _ = _
            rw [decide_eq_false_iff_not]
            rintro rfl
            have h9 := HX.out.symm.trans HY.out
            simp only [Option.some.injEq, Prod.mk.injEq] at h9
            exact hxy h9
          by_cases h1 : x1 = y1
          · subst h1
            have h2 : ¬ x2 = y2 := fun h => hxy ⟨rfl, h⟩
            have e1 : (x1 == x1) = true := by simp
            have e2 : (x2 == y2) = false := by rw [beq_eq_false_iff_ne]; exact h2
            clear hxy hne
            go_wp2
            go_quiet (fail)
            go_wp2
            go_ret
            exact ⟨ret1b HNe.out.symm, _, World.drewN_drewN _ _ _⟩
          · have e1 : (x1 == y1) = false := by rw [beq_eq_false_iff_ne]; exact h1
            clear hxy hne
            go_wp2
            go_quiet (fail)
            go_wp2
            go_ret
            exact ⟨ret1b HNe.out.symm, _, World.drewN_drewN _ _ _⟩
      · have hk' : k = xs.length := by omega
        go_wp2
        go_ret
        refine ⟨ret1b ?_, n, rfl⟩
        have := HT.out
        rw [List.take_of_length_le (by omega), List.take_of_length_le (by omega)] at this
        simp [this]
  · have hle : ((xs.length : Int) != ys.length) = true := by rw [bne_iff_ne]; omega
    go_enter Tryz.func26, Tryz.ntmps26
    go_wp2
    go_ret
    exact ⟨ret1b (by rw [eq_comm, decide_eq_false_iff_not]; rintro rfl; exact hl rfl), 0, rfl⟩

end Go.Proofs.YtgpbnbmjgcchfaaGreatDoor

/- The examples of layer 8 come out true. -/
namespace Go.Proofs.YtgpbnbmjgcchfaaGreatDoor
open Go.RowKit Go.Maps Go.BigFrame

theorem xs_lit2 (w : World) (a b c d : Int) : Xs (w.alloc (.cells #[.int .i64 a, .int .i64 b, .int .i64 c, .int .i64 d] 32)) (.slice (some ⟨w.heap.size, 0, none⟩) 2 2) [(a, b), (c, d)] := by
  refine ⟨some ⟨w.heap.size, 0, none⟩, 2, rfl, Nat.le_refl _, by unfold maxLen; omega, fun _ => ⟨w.heap.size, 0, rfl, by simp, fun k x hk => ?_⟩⟩
  match k, hk with
  | 0, hk =>
    cases hk
    exact ⟨cell_new rfl, cell_new rfl⟩
  | 1, hk =>
    cases hk
    exact ⟨cell_new rfl, cell_new rfl⟩
  | k + 2, hk => simp at hk

set_option maxRecDepth 100000 in
set_option maxHeartbeats 6400000 in
theorem shown8_any (w : World) (hT : Tabs w) :
    Calls Tryz.prog 7 #[] w fun e w' => e = .returned (.bool true) ∧ Below w.heap.size w w' := by
  have HT := hid hT
  clear hT
  go_enter Tryz.func7, Tryz.ntmps7
  go_wp2_with fail
  refine (sums_any _).mono ?_
  rintro e w1 ⟨sv1, rv1, rfl, hs1, hr1, hb1⟩
  have C1 := hid (below_step (Below.refl _ _) hb1)
  have HS1 := hid hs1
  have HR1 := hid hr1
  have J1 := hid hb1
  clear hs1 hr1 hb1
  obtain ⟨w2, hw2⟩ : ∃ X, X = w1.alloc (.cells #[.int .i64 2, .int .i64 2, .int .i64 0, .int .i64 0, .int .i64 2, .int .i64 0, .int .i64 0] 3) := ⟨_, rfl⟩
  have b2 : Below w1.heap.size w1 w2 := by rw [hw2]; exact below_alloc _
  have HL2 : Hid (Is w2 (.slice (some ⟨w1.heap.size, 0, none⟩) 7 7) [2, 2, 0, 0, 2, 0, 0]) := by rw [hw2]; exact is_new w1 [2, 2, 0, 0, 2, 0, 0] 3 (by decide) (by decide)
  have B2 := hid b2
  have J2 := hid b2
  have C2 := hid (below_step C1.out b2)
  clear b2
  go_wp2_with fail
  rw [← hw2]
  clear hw2
  refine (all_any _ _ _ sumS [sumR0, sumR1] [2, 2, 0, 0, 2, 0, 0] w2 (HS1.out.kp (Kp.of_below B2.out)) (HR1.out.kp (Kp.of_below B2.out)) HL2.out (HT.out.below C2.out) (by decide)).mono ?_
  rintro e w3 ⟨va, rfl, oa, hb3⟩
  rw [sh8_all] at oa
  have C3 := hid (below_step C2.out hb3)
  have HXa := hid oa.xs
  have J3 := hid hb3
  clear oa hb3
  go_wp2_with fail
  refine (sums_any _).mono ?_
  rintro e w4 ⟨sv4, rv4, rfl, hs4, hr4, hb4⟩
  have C4 := hid (below_step C3.out hb4)
  have HS4 := hid hs4
  have HR4 := hid hr4
  have J4 := hid hb4
  clear hs4 hr4 hb4
  obtain ⟨w5, hw5⟩ : ∃ X, X = w4.alloc (.cells #[.int .i64 2, .int .i64 0, .int .i64 2, .int .i64 1, .int .i64 0, .int .i64 0] 3) := ⟨_, rfl⟩
  have b5 : Below w4.heap.size w4 w5 := by rw [hw5]; exact below_alloc _
  have HL5 : Hid (Is w5 (.slice (some ⟨w4.heap.size, 0, none⟩) 6 6) [2, 0, 2, 1, 0, 0]) := by rw [hw5]; exact is_new w4 [2, 0, 2, 1, 0, 0] 3 (by decide) (by decide)
  have B5 := hid b5
  have J5 := hid b5
  have C5 := hid (below_step C4.out b5)
  clear b5
  go_wp2_with fail
  rw [← hw5]
  clear hw5
  refine (first_any _ _ _ sumS [sumR0, sumR1] [2, 0, 2, 1, 0, 0] w5 (HS4.out.kp (Kp.of_below B5.out)) (HR4.out.kp (Kp.of_below B5.out)) HL5.out (HT.out.below C5.out) (by decide) sh8_step2 pv_t).mono ?_
  rintro e w6 ⟨rfl, hb6⟩
  rw [sh8_first.1, sh8_first.2]
  have C6 := hid (below_step C5.out hb6)
  have J6 := hid hb6
  clear hb6
  obtain ⟨w7, hw7⟩ : ∃ X, X = w6.alloc (.cells #[.int .i64 2, .int .i64 1] 32) := ⟨_, rfl⟩
  have b7 : Below w6.heap.size w6 w7 := by rw [hw7]; exact below_alloc _
  have C7 := hid (below_step C6.out b7)
  have HBx : Hid (w7.cell? ⟨w6.heap.size, 0, none⟩ = some (.int .i64 2) ∧ w7.cell? ⟨w6.heap.size, 1, none⟩ = some (.int .i64 1)) := by rw [hw7]; exact ⟨cell_new rfl, cell_new rfl⟩
  have J7 := hid b7
  clear b7
  go_wp2_with fail
  rw [← hw7]
  clear hw7
  refine (sums_any _).mono ?_
  rintro e w8 ⟨sv8, rv8, rfl, hs8, hr8, hb8⟩
  have C8 := hid (below_step C7.out hb8)
  have HS8 := hid hs8
  have HR8 := hid hr8
  have J8 := hid hb8
  clear hs8 hr8 hb8
  obtain ⟨w9, hw9⟩ : ∃ X, X = w8.alloc (.cells #[.int .i64 1, .int .i64 0] 3) := ⟨_, rfl⟩
  have b9 : Below w8.heap.size w8 w9 := by rw [hw9]; exact below_alloc _
  have HL9 : Hid (Is w9 (.slice (some ⟨w8.heap.size, 0, none⟩) 2 2) [1, 0]) := by rw [hw9]; exact is_new w8 [1, 0] 3 (by decide) (by decide)
  have B9 := hid b9
  have J9 := hid b9
  have C9 := hid (below_step C8.out b9)
  clear b9
  go_wp2_with fail
  rw [← hw9]
  clear hw9
  refine (first_any _ _ _ sumS [sumR0, sumR1] [1, 0] w9 (HS8.out.kp (Kp.of_below B9.out)) (HR8.out.kp (Kp.of_below B9.out)) HL9.out (HT.out.below C9.out) (by decide) sh8_step3 (vs := [(1, 2), (0, 2)]) (pv_s 0)).mono ?_
  rintro e w10 ⟨rfl, hb10⟩
  rw [sh8_second]
  have C10 := hid (below_step C9.out hb10)
  have J10 := hid hb10
  clear hb10
  generalize fstV sumS [sumR0, sumR1] [1, 0] (upto _ _) = r2
  obtain ⟨w11, hw11⟩ : ∃ X, X = w10.alloc (.cells #[.int .i64 r2.1, .int .i64 r2.2] 32) := ⟨_, rfl⟩
  have b11 : Below w10.heap.size w10 w11 := by rw [hw11]; exact below_alloc _
  have C11 := hid (below_step C10.out b11)
  have J11 := hid b11
  clear b11
  go_wp2_with fail
  rw [← hw11]
  clear hw11
  refine (sums_any _).mono ?_
  rintro e w12 ⟨sv12, rv12, rfl, hs12, hr12, hb12⟩
  have C12 := hid (below_step C11.out hb12)
  have HS12 := hid hs12
  have HR12 := hid hr12
  have J12 := hid hb12
  clear hs12 hr12 hb12
  obtain ⟨w13, hw13⟩ : ∃ X, X = w12.alloc (.cells #[.int .i64 2, .int .i64 1, .int .i64 0, .int .i64 0] 3) := ⟨_, rfl⟩
  have b13 : Below w12.heap.size w12 w13 := by rw [hw13]; exact below_alloc _
  have HL13 : Hid (Is w13 (.slice (some ⟨w12.heap.size, 0, none⟩) 4 4) [2, 1, 0, 0]) := by rw [hw13]; exact is_new w12 [2, 1, 0, 0] 3 (by decide) (by decide)
  have B13 := hid b13
  have J13 := hid b13
  have C13 := hid (below_step C12.out b13)
  clear b13
  go_wp2_with fail
  rw [← hw13]
  clear hw13
  refine (do_any _ _ _ sumS [sumR0, sumR1] [2, 1, 0, 0] 0 1 w13 (HS12.out.kp (Kp.of_below B13.out)) (HR12.out.kp (Kp.of_below B13.out)) HL13.out (HT.out.below C13.out) (by decide) (by decide) (by decide) (by decide) (by decide)).mono ?_
  rintro e w14 ⟨vd14, rfl, od14, hb14⟩
  rw [sh8_do1] at od14 ⊢
  have C14 := hid (below_step C13.out hb14)
  have HD14 := hid od14.is
  have J14 := hid hb14
  clear od14 hb14
  go_wp2_with fail
  refine (sums_any _).mono ?_
  rintro e w15 ⟨sv15, rv15, rfl, hs15, hr15, hb15⟩
  have C15 := hid (below_step C14.out hb15)
  have HS15 := hid hs15
  have HR15 := hid hr15
  have J15 := hid hb15
  clear hs15 hr15 hb15
  obtain ⟨w16, hw16⟩ : ∃ X, X = w15.alloc (.cells #[.int .i64 2, .int .i64 1, .int .i64 0, .int .i64 0] 3) := ⟨_, rfl⟩
  have b16 : Below w15.heap.size w15 w16 := by rw [hw16]; exact below_alloc _
  have HL16 : Hid (Is w16 (.slice (some ⟨w15.heap.size, 0, none⟩) 4 4) [2, 1, 0, 0]) := by rw [hw16]; exact is_new w15 [2, 1, 0, 0] 3 (by decide) (by decide)
  have B16 := hid b16
  have J16 := hid b16
  have C16 := hid (below_step C15.out b16)
  clear b16
  go_wp2_with fail
  rw [← hw16]
  clear hw16
  refine (do_any _ _ _ sumS [sumR0, sumR1] [2, 1, 0, 0] 0 0 w16 (HS15.out.kp (Kp.of_below B16.out)) (HR15.out.kp (Kp.of_below B16.out)) HL16.out (HT.out.below C16.out) (by decide) (by decide) (by decide) (by decide) (by decide)).mono ?_
  rintro e w17 ⟨vd17, rfl, od17, hb17⟩
  rw [sh8_do2] at od17 ⊢
  have C17 := hid (below_step C16.out hb17)
  have HD17 := hid od17.is
  have J17 := hid hb17
  clear od17 hb17
  go_wp2_with fail
  refine (sums_any _).mono ?_
  rintro e w18 ⟨sv18, rv18, rfl, hs18, hr18, hb18⟩
  have C18 := hid (below_step C17.out hb18)
  have HS18 := hid hs18
  have HR18 := hid hr18
  have J18 := hid hb18
  clear hs18 hr18 hb18
  obtain ⟨w19, hw19⟩ : ∃ X, X = w18.alloc (.cells #[.int .i64 2, .int .i64 1, .int .i64 0, .int .i64 0] 3) := ⟨_, rfl⟩
  have b19 : Below w18.heap.size w18 w19 := by rw [hw19]; exact below_alloc _
  have HL19 : Hid (Is w19 (.slice (some ⟨w18.heap.size, 0, none⟩) 4 4) [2, 1, 0, 0]) := by rw [hw19]; exact is_new w18 [2, 1, 0, 0] 3 (by decide) (by decide)
  have B19 := hid b19
  have J19 := hid b19
  have C19 := hid (below_step C18.out b19)
  clear b19
  go_wp2_with fail
  rw [← hw19]
  clear hw19
  refine (do_any _ _ _ sumS [sumR0, sumR1] [2, 1, 0, 0] 4 1 w19 (HS18.out.kp (Kp.of_below B19.out)) (HR18.out.kp (Kp.of_below B19.out)) HL19.out (HT.out.below C19.out) (by decide) (by decide) (by decide) (by decide) (by decide)).mono ?_
  rintro e w20 ⟨vd20, rfl, od20, hb20⟩
  rw [sh8_do3] at od20 ⊢
  have C20 := hid (below_step C19.out hb20)
  have HD20 := hid od20.is
  have J20 := hid hb20
  clear od20 hb20
  go_wp2_with fail
  refine (sums_any _).mono ?_
  rintro e w21 ⟨sv21, rv21, rfl, hs21, hr21, hb21⟩
  have C21 := hid (below_step C20.out hb21)
  have HS21 := hid hs21
  have HR21 := hid hr21
  have J21 := hid hb21
  clear hs21 hr21 hb21
  obtain ⟨w22, hw22⟩ : ∃ X, X = w21.alloc (.cells #[.int .i64 2, .int .i64 1, .int .i64 0, .int .i64 0] 3) := ⟨_, rfl⟩
  have b22 : Below w21.heap.size w21 w22 := by rw [hw22]; exact below_alloc _
  have HL22 : Hid (Is w22 (.slice (some ⟨w21.heap.size, 0, none⟩) 4 4) [2, 1, 0, 0]) := by rw [hw22]; exact is_new w21 [2, 1, 0, 0] 3 (by decide) (by decide)
  have B22 := hid b22
  have J22 := hid b22
  have C22 := hid (below_step C21.out b22)
  clear b22
  go_wp2_with fail
  rw [← hw22]
  clear hw22
  refine (do_any _ _ _ sumS [sumR0, sumR1] [2, 1, 0, 0] 0 2 w22 (HS21.out.kp (Kp.of_below B22.out)) (HR21.out.kp (Kp.of_below B22.out)) HL22.out (HT.out.below C22.out) (by decide) (by decide) (by decide) (by decide) (by decide)).mono ?_
  rintro e w23 ⟨vd23, rfl, od23, hb23⟩
  rw [sh8_do4] at od23 ⊢
  have C23 := hid (below_step C22.out hb23)
  have HD23 := hid od23.is
  have J23 := hid hb23
  clear od23 hb23
  obtain ⟨w24, hw24⟩ : ∃ X, X = w23.alloc (.cells #[.int .i64 1, .int .i64 0, .int .i64 4, .int .i64 0] 32) := ⟨_, rfl⟩
  have b24 : Below w23.heap.size w23 w24 := by rw [hw24]; exact below_alloc _
  have HXl : Hid (Xs w24 (.slice (some ⟨w23.heap.size, 0, none⟩) 2 2) [(1, 0), (4, 0)]) := by rw [hw24]; exact xs_lit2 _ _ _ _ _
  have J24 := hid b24
  clear b24
  have HXa2 := hid (HXa.out.kp (Kp.of_below (below_step (below_step (below_step (below_step (below_step (below_step (below_step (below_step (below_step (below_step (below_step (below_step (below_step (below_step (below_step (below_step (below_step (below_step (below_step (below_step J4.out J5.out) J6.out) J7.out) J8.out) J9.out) J10.out) J11.out) J12.out) J13.out) J14.out) J15.out) J16.out) J17.out) J18.out) J19.out) J20.out) J21.out) J22.out) J23.out) J24.out)))
  go_wp2_with fail
  rw [← hw24]
  clear hw24
  refine (sameX8_any _ _ _ _ w24 HXa2.out HXl.out).mono ?_
  rintro e w25 ⟨rfl, n25, hw25⟩
  have J25 := hid (drawn_below hw25)
  clear hw25
  rw [decide_eq_true rfl]
  obtain ⟨z0, z1⟩ := HBx.out
  have y0 := (Kp.of_below (below_step (below_step (below_step (below_step (below_step (below_step (below_step (below_step (below_step (below_step (below_step (below_step (below_step (below_step (below_step (below_step (below_step J8.out J9.out) J10.out) J11.out) J12.out) J13.out) J14.out) J15.out) J16.out) J17.out) J18.out) J19.out) J20.out) J21.out) J22.out) J23.out) J24.out) J25.out)).cell _ _ z0
  have y1 := (Kp.of_below (below_step (below_step (below_step (below_step (below_step (below_step (below_step (below_step (below_step (below_step (below_step (below_step (below_step (below_step (below_step (below_step (below_step J8.out J9.out) J10.out) J11.out) J12.out) J13.out) J14.out) J15.out) J16.out) J17.out) J18.out) J19.out) J20.out) J21.out) J22.out) J23.out) J24.out) J25.out)).cell _ _ z1
  clear z0 z1
  obtain ⟨w26, hw26⟩ : ∃ X, X = w25.alloc (.cells #[.int .i64 1, .int .i64 2, .int .i64 0, .int .i64 0] 3) := ⟨_, rfl⟩
  have b26 : Below w25.heap.size w25 w26 := by rw [hw26]; exact below_alloc _
  have HLq : Hid (Is w26 (.slice (some ⟨w25.heap.size, 0, none⟩) 4 4) [1, 2, 0, 0]) := by rw [hw26]; exact is_new w25 [1, 2, 0, 0] 3 (by decide) (by decide)
  have J26 := hid b26
  clear b26
  have HDt := hid (HD14.out.kp (Kp.of_below (below_step (below_step (below_step (below_step (below_step (below_step (below_step (below_step (below_step (below_step (below_step J15.out J16.out) J17.out) J18.out) J19.out) J20.out) J21.out) J22.out) J23.out) J24.out) J25.out) J26.out)))
  go_wp2_with fail
  rw [← hw26]
  clear hw26
  refine (sameRow8_any _ _ _ _ w26 HDt.out HLq.out).mono ?_
  rintro e w27 ⟨rfl, n27, hw27⟩
  have J27 := hid (drawn_below hw27)
  clear hw27
  rw [decide_eq_true rfl]
  have Cf := hid (below_step C23.out (below_step (below_step (below_step J24.out J25.out) J26.out) J27.out))
  clear y0 y1
  go_wp2
  go_ret
  exact ⟨rfl, Cf.out⟩

end Go.Proofs.YtgpbnbmjgcchfaaGreatDoor
