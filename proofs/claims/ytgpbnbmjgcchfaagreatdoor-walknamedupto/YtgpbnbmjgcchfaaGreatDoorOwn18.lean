/- Texts of the proof, one behind the other. -/
import Derived.Test.YtgpbnbmjgcchfaaGreatDoorOwn17
import Derived.Test.YtgpbnbmjgcchfaaGreatDoorOwn3
import Derived.Test.YtgpbnbmjgcchfaaGreatDoorOwn14
import Derived.Test.YtgpbnbmjgcchfaaGreatDoorOwn12
import Derived.Test.YtgpbnbmjgcchfaaGreatDoorOwn4
import Derived.Test.YtgpbnbmjgcchfaaGreatDoorOwn5
import Derived.Test.YtgpbnbmjgcchfaaGreatDoorOwn11
import Derived.Test.YtgpbnbmjgcchfaaGreatDoorOwn15
/- Do of package step walked. -/
namespace Go.Proofs.YtgpbnbmjgcchfaaGreatDoor
open Go.RowKit Go.Maps Go.BigFrame

/-- The binds by which a left side matches. -/
noncomputable def hitBd (sig : List Sy) (l t : List Int) : List Bd := @dite _ (Hit sig l t) (Classical.propDecidable _) (fun h => bindsL (Classical.choose h) l) (fun _ => [])

theorem hitBd_eq {sig : List Sy} {l t : List Int} {f : Int → Option (List Int)} (hf : Rt sig f) (hs : Sm f l t) : hitBd sig l t = bindsL f l := by
  unfold hitBd
  have h : Hit sig l t := ⟨f, hf, hs⟩
  rw [dif_pos h]
  have h9 := Classical.choose_spec h
  exact binds_unique h9.1 hf h9.2 hs

/-- What Do answers with a rule that is there. -/
noncomputable def doK (sig : List Sy) (t : List Int) (p : Int) (r : Rl) : List Int × Int :=
  if hitB sig r.1 (subL sig t p) = true then (if applyE sig (hitBd sig r.1 (subL sig t p)) r.2 = 0 then (replL sig t p (applyL sig (hitBd sig r.1 (subL sig t p)) r.2), replE sig t p (applyL sig (hitBd sig r.1 (subL sig t p)) r.2)) else ([], applyE sig (hitBd sig r.1 (subL sig t p)) r.2)) else ([], 80)

/-- What Do answers. -/
noncomputable def doR (sig : List Sy) (rs : List Rl) (t : List Int) (p k : Int) : List Int × Int :=
  if stepE sig rs t = 0 then (if placeE sig t p = 0 then (if k < 0 then ([], 1) else match rs[k.toNat]? with | none => ([], 1) | some r => doK sig t p r) else ([], placeE sig t p)) else ([], stepE sig rs t)

theorem apply_few (sig : List Sy) (S : List Bd) (r : List Int) : (applyL sig S r).length ≤ 512 := by
  unfold applyL
  split
  · split
    · rw [(lay_eq (bnd S) r).2]
      split
      · simp
      · omega
    · simp
  · simp

theorem sub_term {sig : List Sy} {t : List Int} {p : Int} (h : placeE sig t p = 0) : termE sig (subL sig t p) = 0 := by
  have ht := place_term h
  obtain ⟨_, _, k, m, rfl, _, _, _, _, h5, h6⟩ := placeE_ok h
  rw [h5]
  unfold termE
  rw [if_pos (term_parts ht).1]
  exact h6

theorem nil_own (w : World) (base : Nat) : OwI w base (.slice none 0 0) [] := ⟨fun k x hk => (by simp at hk), World.ownsRow_nil _ _ _ _⟩

theorem do_ret {a b : Int} {L M : List Int} (h : (M, b) = (L, a)) {w : World} {base : Nat} {v : Value} (ho : OwI w base v L) : Ending.returned (.tuple #[v, .int .i64 a]) = .returned (.tuple #[v, .int .i64 (M, b).2]) ∧ OwI w base v (M, b).1 := by
  cases h
  exact ⟨rfl, ho⟩

set_option maxRecDepth 100000 in
set_option maxHeartbeats 3200000 in
theorem do_any (sv rv tv : Value) (sig : List Sy) (rs : List Rl) (t : List Int) (p k : Int) (w : World) (hs : Sg w sv sig) (hr : RU w rv rs) (ht : Is w tv t) (hT : Tabs w) (htl : t.length ≤ 1048576) (hp1 : -9223372036854775808 ≤ p) (hp2 : p ≤ 9223372036854775807) (hk1 : -9223372036854775808 ≤ k) (hk2 : k ≤ 9223372036854775807) :
    Calls Tryz.prog 12 #[.agg #[sv, rv], tv, .agg #[.int .i64 p, .int .i64 k]] w fun e w' => ∃ v', e = .returned (.tuple #[v', .int .i64 (doR sig rs t p k).2]) ∧ OwI w' w.heap.size v' (doR sig rs t p k).1 ∧ Below w.heap.size w w' := by
  obtain ⟨so, sc, rfl, hso, hsc, _⟩ := Row.flat hs
  obtain ⟨ro, rc, rfl, hro, hrc, _⟩ := Row.flat hr
  unfold maxLen at hrc
  have HS := hid hs
  have HR := hid hr
  have HTt := hid ht
  have HT := hid hT
  clear hs hr ht hT
  obtain ⟨w0, hw0⟩ : ∃ X, X = (w.alloc (.cells #[.slice so sig.length sc, .slice ro rs.length rc] 25)).alloc (.cells #[.int .i64 p, .int .i64 k] 32) := ⟨_, rfl⟩
  have C0 : Hid (Below w.heap.size w w0) := by rw [hw0]; exact below_step (below_alloc _) (below_alloc _)
  have HC : Hid (∀ W, Below w0.heap.size w0 W → (W.cell? ⟨w.heap.size, 0, none⟩ = some (.slice so sig.length sc) ∧ W.cell? ⟨w.heap.size, 1, none⟩ = some (.slice ro rs.length rc)) ∧ W.cell? ⟨w.heap.size + 1, 0, none⟩ = some (.int .i64 p) ∧ W.cell? ⟨w.heap.size + 1, 1, none⟩ = some (.int .i64 k)) := fun W hW => by
    have hk := Kp.of_below hW
    rw [hw0] at hk
    have e9 : w.heap.size + 1 = (w.alloc (.cells #[.slice so sig.length sc, .slice ro rs.length rc] 25)).heap.size := (World.size_alloc _ _).symm
    rw [e9]
    exact ⟨⟨hk.cell _ _ (cell_old (cell_new rfl)), hk.cell _ _ (cell_old (cell_new rfl))⟩, hk.cell _ _ (cell_new rfl), hk.cell _ _ (cell_new rfl)⟩
  obtain ⟨R, hR⟩ : ∃ R, R = doR sig rs t p k := ⟨_, rfl⟩
  rw [← hR]
  have HD := hid hR
  clear hR
  obtain ⟨RM, RB⟩ := R
  unfold doR at HD
  go_enter Tryz.func12, Tryz.ntmps12
  go_wp2_with fail
  rw [← hw0]
  clear hw0
  refine (stepCheck_any _ _ _ sig rs t w0 (HS.out.kp (Kp.of_below C0.out)) (HR.out.kp (Kp.of_below C0.out)) (HTt.out.kp (Kp.of_below C0.out)) (HT.out.below C0.out) (by omega)).mono ?_
  rintro e w1 ⟨rfl, hb1⟩
  have C1 := hid (below_step C0.out hb1)
  have D1 := hid hb1
  clear hb1
  by_cases he : stepE sig rs t = 0
  · obtain ⟨hok, hte⟩ := stepE_zero he
    rw [he]
    rw [if_pos he] at HD
    have HOk := hid (sys_right hok).2
    have HTe := hid hte
    clear he hok hte
    obtain ⟨⟨x0, x1⟩, y0, y1⟩ := HC.out w1 D1.out
    go_wp2_with fail
    refine (sub_any _ _ sig t p w1 (HS.out.kp (Kp.of_below C1.out)) (HTt.out.kp (Kp.of_below C1.out)) (HT.out.below C1.out) (by omega) hp1 hp2).mono ?_
    rintro e w2 ⟨v2, rfl, ho2, hb2⟩
    have C2 := hid (below_step C1.out hb2)
    have D2 := hid (below_step D1.out hb2)
    have HO2 := hid ho2
    clear ho2 hb2 x0 x1 y0 y1
    by_cases hpl : placeE sig t p = 0
    · rw [hpl]
      rw [if_pos hpl] at HD
      have HPl := hid hpl
      clear hpl
      obtain ⟨⟨x0, x1⟩, y0, y1⟩ := HC.out w2 D2.out
      by_cases hk0 : k < 0
      · have hd0 : decide (k < 0) = true := by simpa using hk0
        rw [if_pos hk0] at HD
        go_wp2
        go_ret2
        obtain ⟨q1, q2⟩ := do_ret HD.out (nil_own _ _)
        exact ⟨_, q1, q2, C2.out⟩
      · have hd0 : decide (k < 0) = false := by simpa using hk0
        rw [if_neg hk0] at HD
        obtain ⟨K, rfl⟩ : ∃ K : Nat, k = (K : Int) := ⟨k.toNat, by omega⟩
        rw [Int.toNat_natCast] at HD
        by_cases hkl : K < rs.length
        · have hd1 : decide ((K : Int) ≥ (rs.length : Int)) = false := by simpa using (show ¬ (K : Int) ≥ (rs.length : Int) by omega)
          obtain ⟨g, off, l, r, a1, c1, a2, c2, rfl, hm, e0, e1, hi1, hi2, hl1, hl2⟩ := (HR.out.kp (Kp.of_below C2.out)).at hkl
          rw [hm] at HD
          simp only at HD
          unfold doK at HD
          have hrp := rule_parts (HOk.out _ (List.mem_of_getElem? hm))
          have HRp := hid hrp
          have HI1 := hid hi1
          have HI2 := hid hi2
          obtain ⟨W3, hW3⟩ : ∃ X, X = w2.alloc (.cells #[.slice a1 l.length c1, .slice a2 r.length c2] 64) := ⟨_, rfl⟩
          have b3 : Hid (Below w2.heap.size w2 W3) := by rw [hW3]; exact below_alloc _
          have C3 := hid (below_step C2.out b3.out)
          have D3 := hid (below_step D2.out b3.out)
          have HF : Hid (∀ W, Below W3.heap.size W3 W → W.cell? ⟨w2.heap.size, 0, none⟩ = some (.slice a1 l.length c1) ∧ W.cell? ⟨w2.heap.size, 1, none⟩ = some (.slice a2 r.length c2)) := fun W hW => by
            have hk := Kp.of_below hW
            rw [hW3] at hk
            exact ⟨hk.cell _ _ (cell_new rfl), hk.cell _ _ (cell_new rfl)⟩
          have hsl : (subL sig t p).length ≤ t.length := by
            unfold subL
            split
            · rw [List.length_take, List.length_drop]; omega
            · simp
          have z0 := (Kp.of_below b3.out).cell _ _ x0
          rw [hW3] at z0
          clear hm hi1 hi2 hrp
          go_wp2_with fail
          rw [← hW3]
          clear hW3 z0 x0 x1 y0 y1 e0 e1
          refine (match_any _ _ _ sig l (subL sig t p) W3 (HS.out.kp (Kp.of_below C3.out)) (HI1.out.kp (Kp.of_below b3.out)) (HO2.out.is.kp (Kp.of_below b3.out)) (HT.out.below C3.out) (by have := HRp.out.2.2.1; omega) (by omega)).mono ?_
          rintro e w4 ⟨hb4, hres⟩
          have C4 := hid (below_step C3.out hb4)
          have D4 := hid (below_step D3.out hb4)
          have E4 := hid hb4
          have HSt : Hid (termE sig (subL sig t p) = 0) := sub_term HPl.out
          clear hb4
          rcases hres with ⟨rfl, hno⟩ | ⟨v4, f, rfl, _, _, hf, hsm, hob⟩
          · have hh : hitB sig l (subL sig t p) = false := hitB_false fun ⟨f, hf, h⟩ => by
              rcases hno with h9 | h9 | h9
              · exact h9 HRp.out.1
              · exact h9 HSt.out
              · exact h9 f hf h
            rw [hh, if_neg (by simp)] at HD
            clear hno hh
            go_wp2
            go_ret2
            obtain ⟨q1, q2⟩ := do_ret HD.out (nil_own _ _)
            exact ⟨_, q1, q2, C4.out⟩
          · rw [hitB_true ⟨f, hf, hsm⟩, if_pos rfl, hitBd_eq hf hsm] at HD
            have HOb := hid hob.bs
            clear hf hsm hob
            generalize bindsL f l = S at HD HOb
            obtain ⟨⟨x0, x1⟩, y0, y1⟩ := HC.out w4 D4.out
            obtain ⟨f0, f1⟩ := HF.out w4 E4.out
            go_wp2_with fail
            refine (apply_any _ _ _ sig S r w4 (HS.out.kp (Kp.of_below C4.out)) HOb.out (HI2.out.kp (Kp.of_below (below_step b3.out E4.out))) (HT.out.below C4.out) hl2).mono ?_
            rintro e w5 ⟨v5, rfl, ho5, hb5⟩
            have C5 := hid (below_step C4.out hb5)
            have D5 := hid (below_step D4.out hb5)
            have HO5 := hid ho5
            clear ho5 hb5 x0 x1 y0 y1 f0 f1
            by_cases hae : applyE sig S r = 0
            · rw [hae]
              rw [if_pos hae] at HD
              have HLl : Hid ((applyL sig S r).length * 8 ≤ 140737488351232) := by
                have h9 := apply_few sig S r
                show _ ≤ _
                omega
              clear hae
              generalize applyL sig S r = Q at HD HO5 HLl
              obtain ⟨⟨x0, x1⟩, y0, y1⟩ := HC.out w5 D5.out
              go_wp2_with fail
              refine (replace_any _ _ _ sig t Q p w5 (HS.out.kp (Kp.of_below C5.out)) (HTt.out.kp (Kp.of_below C5.out)) HO5.out.is (HT.out.below C5.out) (by omega) HLl.out hp1 hp2).mono ?_
              rintro e w6 ⟨v6, rfl, ho6, hb6⟩
              have C6 := hid (below_step C5.out hb6)
              have HO6 := hid (ho6.mono C5.out.size)
              clear ho6 hb6 x0 x1 y0 y1
              generalize replE sig t p Q = Z at HD ⊢
              generalize replL sig t p Q = ZL at HD HO6
              go_wp2
              go_ret2
              obtain ⟨q1, q2⟩ := do_ret HD.out HO6.out
              exact ⟨_, q1, q2, C6.out⟩
            · rw [if_neg hae] at HD
              generalize applyE sig S r = Z at hae HD ⊢
              have hne : (Z != 0) = true := by rw [bne_iff_ne]; exact hae
              clear hae
              go_wp2
              go_ret2
              obtain ⟨q1, q2⟩ := do_ret HD.out (nil_own _ _)
              exact ⟨_, q1, q2, C5.out⟩
        · have hd1 : decide ((K : Int) ≥ (rs.length : Int)) = true := by simpa using (show (K : Int) ≥ (rs.length : Int) by omega)
          rw [List.getElem?_eq_none (by omega)] at HD
          simp only at HD
          go_wp2
          go_ret2
          obtain ⟨q1, q2⟩ := do_ret HD.out (nil_own _ _)
          exact ⟨_, q1, q2, C2.out⟩
    · rw [if_neg hpl] at HD
      generalize placeE sig t p = Z at hpl HD ⊢
      have hne : (Z != 0) = true := by rw [bne_iff_ne]; exact hpl
      clear hpl
      go_wp2
      go_ret2
      obtain ⟨q1, q2⟩ := do_ret HD.out (nil_own _ _)
      exact ⟨_, q1, q2, C2.out⟩
  · rw [if_neg he] at HD
    generalize stepE sig rs t = Z at he HD ⊢
    have hne : (Z != 0) = true := by rw [bne_iff_ne]; exact he
    clear he
    go_wp2
    go_ret2
    obtain ⟨q1, q2⟩ := do_ret HD.out (nil_own _ _)
    exact ⟨_, q1, q2, C1.out⟩

end Go.Proofs.YtgpbnbmjgcchfaaGreatDoor

/- Rows that rise, plainly. -/
namespace Go.Proofs.YtgpbnbmjgcchfaaGreatDoor
open Go.RowKit Go.Maps

theorem rise_eq : ∀ {a b : List Int}, a.Pairwise (· < ·) → b.Pairwise (· < ·) → (∀ x, x ∈ a ↔ x ∈ b) → a = b
  | [], [], _, _, _ => rfl
  | [], y :: b, _, _, h => absurd ((h y).2 (by simp)) (by simp)
  | x :: a, [], _, _, h => absurd ((h x).1 (by simp)) (by simp)
  | x :: a, y :: b, ha, hb, h => by
    rw [List.pairwise_cons] at ha hb
    have hxy : x = y := by
      rcases List.mem_cons.1 ((h x).1 (by simp)) with e | e
      · exact e
      · rcases List.mem_cons.1 ((h y).2 (by simp)) with e2 | e2
        · exact e2.symm
        · have := hb.1 x e
          have := ha.1 y e2
          omega
    subst hxy
    rw [rise_eq ha.2 hb.2 fun z => ?_]
    constructor
    · intro hz
      rcases List.mem_cons.1 ((h z).1 (by simp [hz])) with e | e
      · have := ha.1 z hz; omega
      · exact e
    · intro hz
      rcases List.mem_cons.1 ((h z).2 (by simp [hz])) with e | e
      · have := hb.1 z hz; omega
      · exact e

theorem sortI_rise {xs : List Int} (h : xs.Nodup) : (sortI xs).Pairwise (· < ·) := by
  have h1 : (sortI xs).Pairwise (fun a b => decide (a ≤ b) = true) := List.pairwise_mergeSort (fun a b c => by simp; omega) (fun a b => by simp; omega) xs
  have h2 : (sortI xs).Nodup := (List.mergeSort_perm xs _).symm.nodup h
  refine (h1.and h2).imp ?_
  rintro a b ⟨h3, h4⟩
  have h5 : a ≤ b := by simpa using h3
  have h6 : a ≠ b := h4
  omega

theorem vars_once (t : List Int) : (varsL t).Nodup := by
  unfold varsL
  refine List.Pairwise.map _ ?_ (met_once t [] (by simp))
  intro a b hab e
  omega

/-- The least of those that are later. -/
theorem sel_next {S : List Int} (h : S.Pairwise (· < ·)) {k : Nat} {s : Int} (hs : S[k]? = some s) : (∀ j y, j + 1 = k → S[j]? = some y → y < s) ∧ ∀ x ∈ S, (∀ j y, j + 1 = k → S[j]? = some y → y < x) → s ≤ x := by
  have hlt : ∀ (i j : Nat) (a b : Int), S[i]? = some a → S[j]? = some b → i < j → a < b := fun i j a b ha hb hij => by
    obtain ⟨h1, rfl⟩ := List.getElem?_eq_some_iff.1 ha
    obtain ⟨h2, rfl⟩ := List.getElem?_eq_some_iff.1 hb
    exact (List.pairwise_iff_getElem.1 h) i j h1 h2 hij
  refine ⟨fun j y hj hy => hlt j k y s hy hs (by omega), fun x hx hl => ?_⟩
  obtain ⟨m, hm⟩ := List.getElem?_of_mem hx
  rcases Nat.lt_trichotomy m k with h1 | h1 | h1
  · obtain ⟨j, rfl⟩ : ∃ j, k = j + 1 := ⟨k - 1, by omega⟩
    have hj : j < S.length := by have := (List.getElem?_eq_some_iff.1 hs).1; omega
    have h2 := hl j S[j] rfl (List.getElem?_eq_getElem hj)
    rcases Nat.lt_or_ge m j with h3 | h3
    · have := hlt m j x S[j] hm (List.getElem?_eq_getElem hj) h3
      omega
    · obtain rfl : m = j := by omega
      rw [List.getElem?_eq_getElem hj] at hm
      simp at hm
      omega
  · subst h1
    rw [hs] at hm
    simp at hm
    omega
  · exact Int.le_of_lt (hlt k m s x hs hm h1)

end Go.Proofs.YtgpbnbmjgcchfaaGreatDoor

/- What the binds of a match make of the pattern, plainly. -/
namespace Go.Proofs.YtgpbnbmjgcchfaaGreatDoor
open Go.RowKit Go.Maps

theorem first_codes2 {sig : List Sy} : ∀ (t : List Int) (m : Int) (i : Nat), firstT sig m i t = ((i : Int) + t.length, 0) → ∀ c ∈ t, codeD sig c ≠ none
  | [], _, _, _, c, hc => by simp at hc
  | a :: t, m, i, h, c, hc => by
    unfold firstT at h
    cases ha : codeD sig a with
    | none => rw [ha] at h; simp at h
    | some x =>
      rw [ha] at h
      simp only at h
      by_cases h0 : m + x = 0
      · rw [if_pos h0] at h
        have h2 := congrArg Prod.fst h
        simp only [List.length_cons] at h2
        have h3 : t.length = 0 := by omega
        obtain rfl := List.eq_nil_of_length_eq_zero h3
        rw [List.mem_singleton] at hc
        subst hc
        rw [ha]
        simp
      · rw [if_neg h0] at h
        rcases List.mem_cons.1 hc with rfl | hc
        · rw [ha]; simp
        · refine first_codes2 t (m + x) (i + 1) ?_ c hc
          rw [h]
          simp only [List.length_cons]
          congr 1
          push_cast
          omega


theorem row_var {sig : List Sy} {c : Int} (h0 : c < 0) (h1 : -1048576 ≤ c) : rowE sig [c] = 0 := by
  rw [row_first]
  unfold firstT
  rw [codeD_var h1 h0]
  simp

theorem codes_of {sig : List Sy} {p : List Int} (h : rowE sig p = 0) {c : Int} (hc : c ∈ p) : -1048576 ≤ c := by
  have h1 := row_first.1 h
  have h2 := first_codes2 p 1 0 (by rw [h1]; simp) c hc
  by_cases h3 : c < -1048576
  · exact absurd (codeD_none (.inr h3)) h2
  · omega

theorem laid_congr {f g : Int → Option (List Int)} {p : List Int} (h : ∀ c ∈ p, piece f c = piece g c) : laidL f p = laidL g p := by
  unfold laidL
  rw [List.flatMap_def, List.flatMap_def, List.map_congr_left h]

/-- What binds make of a pattern is matched by it. -/
theorem back_made {sig : List Sy} {s : List Bd} {p : List Int} (hb : bindE sig s = 0) (hp : rowE sig p = 0) : ∃ f, Rt sig f ∧ Sm f p (laidL (bnd s) p) := by
  refine ⟨fun n => match bnd s n with | some u => some u | none => if isVarB n then some [-1 - n] else none, fun n u hu => ?_, fun c hc h0 => ?_, ?_⟩
  · simp only at hu
    cases hs : bnd s n with
    | some x =>
      rw [hs] at hu
      simp only [Option.some.injEq] at hu
      subst hu
      exact bnd_right hb n x hs
    | none =>
      rw [hs] at hu
      simp only at hu
      split at hu
      · rename_i hv
        have := isVarB_iff.1 hv
        simp only [Option.some.injEq] at hu
        subst hu
        exact row_var (by omega) (by omega)
      · cases hu
  · simp only
    cases hs : bnd s (-1 - c) with
    | some x => simp
    | none =>
      have := codes_of hp hc
      simp only
      rw [if_pos (isVarB_iff.2 ⟨by omega, by omega⟩)]
      simp
  · refine laid_congr fun c hc => ?_
    unfold piece
    by_cases h0 : c < 0
    · rw [if_pos h0, if_pos h0]
      cases hs : bnd s (-1 - c) with
      | some x => simp only [hs]
      | none =>
        have h9 := codes_of hp hc
        simp only [hs]
        rw [if_pos (isVarB_iff.2 ⟨by omega, by omega⟩)]
        show [-1 - (-1 - c)] = [c]
        rw [show -1 - (-1 - c) = c by omega]
    · rw [if_neg h0, if_neg h0]


theorem binds_look {g : Int → Option (List Int)} {n : Int} : ∀ {l : List Int}, n ∈ l → (l.map fun n => (n, (g n).getD [])).lookup n = some ((g n).getD [])
  | [], h => by simp at h
  | m :: l, h => by
    rw [List.map_cons, List.lookup_cons]
    by_cases e : n = m
    · subst e
      simp
    · rw [show (n == m) = false by rw [beq_eq_false_iff_ne]; exact e]
      exact binds_look ((List.mem_cons.1 h).resolve_left e)

theorem binds_rise (g : Int → Option (List Int)) (p : List Int) : (bindsL g p).Pairwise (fun a b => a.1 < b.1) := by
  unfold bindsL
  rw [List.pairwise_map]
  exact sortI_rise (vars_once p)

/-- The binds of a match make the pattern the term. -/
theorem back_found {sig : List Sy} {g : Int → Option (List Int)} {p t : List Int} (hp : termE sig p = 0) (hg : Rt sig g) (hs : Sm g p t) : bindE sig (bindsL g p) = 0 ∧ laidL (bnd (bindsL g p)) p = t := by
  obtain ⟨hse, hrp⟩ := term_parts hp
  have hmem : ∀ n ∈ sortI (varsL p), 0 ≤ n ∧ n < 1048576 ∧ ∃ u, g n = some u := fun n hn => by
    rw [sortI_mem, mem_varsL] at hn
    obtain ⟨c, hc, h0, rfl⟩ := hn
    have := codes_of hrp hc
    exact ⟨by omega, by omega, Option.ne_none_iff_exists'.1 (hs.1 c hc h0)⟩
  constructor
  · unfold bindE
    rw [if_pos hse]
    refine bind_made sig _ none (fun b hb => ?_) (fun y hy => by cases hy) (binds_rise g p)
    unfold bindsL at hb
    obtain ⟨n, hn, rfl⟩ := List.mem_map.1 hb
    obtain ⟨h1, h2, u, hu⟩ := hmem n hn
    refine ⟨isVarB_iff.2 ⟨h1, h2⟩, ?_⟩
    unfold termE
    rw [if_pos hse, hu]
    exact hg n u hu
  · rw [← hs.2]
    refine laid_congr fun c hc => ?_
    unfold piece
    by_cases h0 : c < 0
    · rw [if_pos h0, if_pos h0]
      obtain ⟨u, hu⟩ := Option.ne_none_iff_exists'.1 (hs.1 c hc h0)
      have h1 : bnd (bindsL g p) (-1 - c) = some u := by
        unfold bnd
        rw [← look_rise (binds_rise g p)]
        unfold bindsL
        rw [binds_look (by rw [sortI_mem, mem_varsL]; exact ⟨c, hc, h0, rfl⟩), hu]
        rfl
      rw [h1, hu]
    · rw [if_neg h0, if_neg h0]

end Go.Proofs.YtgpbnbmjgcchfaaGreatDoor

/- Do as the document says it, plainly. -/
namespace Go.Proofs.YtgpbnbmjgcchfaaGreatDoor
open Go.RowKit Go.Maps Go.BigFrame

theorem nodes_end {sig : List Sy} {t : List Int} (ht : termE sig t = 0) {x y : Nat} (hv : VOk sig t (x, y)) : nodes sig t x = y - x := by
  have hx : x < t.length := by have := hv.1; have := hv.2.1; simp only at *; omega
  obtain ⟨k, m, hk, _, _, hn, hm, _⟩ := endP_ok (place_end ht hx)
  have h1 := part_sub ht hv
  rw [show ((x, y) : Nat × Nat).1 = x from rfl, sub_eq ht hx] at h1
  have h2 := congrArg List.length h1
  unfold partV at h2
  have h3 := hv.1
  have h4 := hv.2.1
  simp only [List.length_take, List.length_drop] at h2 h3 h4
  omega

theorem laid_row8 {sig : List Sy} {l r u : List Int} {f : Int → Option (List Int)} (ha : ArOk sig) (hr : termE sig r = 0) (hf : Rt sig f) (hs : Sm f l u) : rowE sig (laidL (bnd (bindsL f l)) r) = 0 := by
  refine row_laid ha (fun n u hu => ?_) (term_parts hr).2
  unfold bnd at hu
  have hm := List.mem_reverse.1 (lookup_mem hu)
  unfold bindsL at hm
  obtain ⟨k, hk, he⟩ := List.mem_map.1 hm
  simp only [Prod.mk.injEq] at he
  obtain ⟨rfl, rfl⟩ := he
  obtain ⟨c, hc, hc0, rfl⟩ := mem_varsL.1 ((sortI_mem _ _).1 hk)
  cases hfk : f (-1 - c) with
  | none => exact absurd hfk (hs.1 c hc hc0)
  | some v => exact hf _ v hfk

/-- What comes of a redex. -/
theorem doK_doc {sig : List Sy} {t l r : List Int} {x y : Nat} {f : Int → Option (List Int)} (ht : termE sig t = 0) (hv : VOk sig t (x, y)) (hl : termE sig l = 0) (hr : termE sig r = 0) (hf : Rt sig f) (hs : Sm f l (subL sig t (x : Int))) :
    doK sig t (x : Int) (l, r) = if 512 < x + (laidL (bnd (bindsL f l)) r).length + (t.length - y) then ([], 2) else (t.take x ++ (laidL (bnd (bindsL f l)) r ++ t.drop y), 0) := by
  have hx : x < t.length := by have := hv.1; have := hv.2.1; simp only at *; omega
  have hxy := hv.1
  have hyt := hv.2.1
  simp only at hxy hyt
  obtain ⟨hb, _⟩ := back_found hl hf hs
  have hrow := laid_row8 (sig_arOk (term_parts ht).1) hr hf hs
  obtain ⟨Q, hQ⟩ : ∃ Q, Q = laidL (bnd (bindsL f l)) r := ⟨_, rfl⟩
  have hE : applyE sig (bindsL f l) r = if 512 < Q.length then 2 else 0 := by
    unfold applyE
    rw [if_pos hb, if_pos hr, (lay_eq _ r).1, ← hQ]
  have hL : applyL sig (bindsL f l) r = if 512 < Q.length then [] else Q := by
    unfold applyL
    rw [if_pos hb, if_pos hr, (lay_eq _ r).2, ← hQ]
  have hn := nodes_end ht hv
  unfold doK
  simp only
  rw [hitB_true ⟨f, hf, hs⟩, if_pos rfl, hitBd_eq hf hs, hE, hL, ← hQ]
  rw [← hQ] at hrow
  by_cases h5 : 512 < Q.length
  · rw [if_pos h5, if_pos h5, if_neg (by decide), if_pos (by omega)]
  · rw [if_neg h5, if_neg h5, if_pos rfl]
    have hR : replE sig t (x : Int) Q = if 512 < x + Q.length + (t.length - y) then 2 else 0 := by
      unfold replE
      rw [if_pos ht, if_pos hrow, if_pos (place_in ht hx), Int.toNat_natCast, hn, show x + (y - x) = y by omega]
    by_cases h6 : 512 < x + Q.length + (t.length - y)
    · rw [if_pos h6] at hR ⊢
      rw [repl_none (by rw [hR]; decide), hR]
    · rw [if_neg h6] at hR ⊢
      unfold replL
      rw [if_pos hR, hR, Int.toNat_natCast, hn, show x + (y - x) = y by omega]

end Go.Proofs.YtgpbnbmjgcchfaaGreatDoor

/- Terms with a part replaced, plainly. -/
namespace Go.Proofs.YtgpbnbmjgcchfaaGreatDoor
open Go.RowKit Go.Maps Go.BigFrame

/-- What stands ahead of a place only counts what is missing there. -/
theorem first_pre {sig : List Sy} (ha : ArOk sig) (s : List Int) : ∀ (p : List Int) (m : Int) (j : Nat), 1 ≤ m → s ≠ [] → firstT sig m j (p ++ s) = ((j : Int) + (p ++ s).length, 0) → ∃ m' : Int, 1 ≤ m' ∧ ∀ r : List Int, firstT sig m j (p ++ r) = firstT sig m' (j + p.length) r
  | [], m, j, hm, _, _ => ⟨m, hm, fun r => rfl⟩
  | c :: p, m, j, hm, hs, h => by
    rw [List.cons_append, firstT_cons] at h
    cases hc : codeD sig c with
    | none => rw [hc] at h; simp at h
    | some e =>
      have he := codeD_ge ha hc
      rw [hc] at h
      simp only at h
      by_cases h0 : m + e = 0
      · rw [if_pos h0] at h
        have h1 := congrArg Prod.fst h
        have h2 : 0 < s.length := by
          cases s with
          | nil => exact absurd rfl hs
          | cons a s => simp
        simp only [List.length_cons, List.length_append] at h1
        omega
      · rw [if_neg h0] at h
        obtain ⟨m', h1, h2⟩ := first_pre ha s p (m + e) (j + 1) (by omega) hs (by rw [h]; simp only [List.length_cons, Prod.mk.injEq, and_true]; omega)
        refine ⟨m', h1, fun r => ?_⟩
        rw [List.cons_append, firstT_cons, hc]
        simp only
        rw [if_neg h0, h2 r, List.length_cons]
        congr 1
        omega

theorem first_move {sig : List Sy} : ∀ (r : List Int) (m : Int) (i j : Nat) (n : Nat), firstT sig m i r = ((i : Int) + n, 0) → firstT sig m j r = ((j : Int) + n, 0)
  | [], m, i, j, n, h => by simp [firstT] at h
  | c :: r, m, i, j, n, h => by
    rw [firstT_cons] at h ⊢
    cases hc : codeD sig c with
    | none => rw [hc] at h; simp at h
    | some e =>
      rw [hc] at h
      simp only at h ⊢
      by_cases h0 : m + e = 0
      · rw [if_pos h0] at h ⊢
        have := congrArg Prod.fst h
        simp only at this
        simp only [Prod.mk.injEq, and_true]
        omega
      · rw [if_neg h0] at h ⊢
        cases n with
        | zero =>
          exfalso
          obtain ⟨k, h1, h2, _⟩ := first_take r (m + e) (i + 1) _ h
          omega
        | succ n =>
          have := first_move r (m + e) (i + 1) (j + 1) n (by rw [h]; simp only [Prod.mk.injEq, and_true]; omega)
          rw [this]
          simp only [Prod.mk.injEq, and_true]
          omega

theorem right_len {sig : List Sy} {u : List Int} (h : rowE sig u = 0) : 0 < u.length := by
  cases u with
  | nil => simp [rowE, firstT] at h
  | cons c u => simp

/-- A right term with a right part replaced by a right term is one. -/
theorem right_mid {sig : List Sy} (ha : ArOk sig) {p v u q : List Int} (h : rowE sig (p ++ (v ++ q)) = 0) (hv : rowE sig v = 0) (hu : rowE sig u = 0) : rowE sig (p ++ (u ++ q)) = 0 := by
  have hvl := right_len hv
  have hvn : v ++ q ≠ [] := by
    intro e
    have := congrArg List.length e
    simp at this
    simp [this.1] at hvl
  have h1 := row_first.1 h
  obtain ⟨m', hm, hp⟩ := first_pre ha (v ++ q) p 1 0 (by omega) hvn (by rw [h1]; simp)
  rw [hp, first_app ha v 1 0 (by omega) (by rw [row_first.1 hv]; simp) m' _ q hm] at h1
  rw [row_first, hp, first_app ha u 1 0 (by omega) (by rw [row_first.1 hu]; simp) m' _ q hm]
  by_cases h0 : m' = 1
  · rw [if_pos h0] at h1 ⊢
    have h2 := congrArg Prod.fst h1
    simp only [List.length_append] at h2 ⊢
    simp only [Prod.mk.injEq, and_true]
    omega
  · rw [if_neg h0] at h1 ⊢
    rw [first_move q (m' - 1) (0 + p.length + v.length) (0 + p.length + u.length) q.length (by rw [h1]; simp only [List.length_append, Prod.mk.injEq, and_true]; omega)]
    simp only [List.length_append, Prod.mk.injEq, and_true]
    omega

theorem term_of {sig : List Sy} {t u : List Int} (h : termE sig t = 0) (hu : rowE sig u = 0) : termE sig u = 0 := by
  unfold termE
  rw [if_pos (term_parts h).1]
  exact hu

theorem nodes_mid {sig : List Sy} {p v q : List Int} (hv : rowE sig v = 0) : nodes sig (p ++ (v ++ q)) p.length = v.length := by
  have := nodes_behind (sig := sig) p (v ++ q) 0
  rw [Nat.add_zero] at this
  rw [this]
  unfold nodes
  rw [List.drop_zero, first_right hv]
  simp

/-- Replace, of a term that is taken apart. -/
theorem repl_mid {sig : List Sy} {p v u q : List Int} (h : termE sig (p ++ (v ++ q)) = 0) (hv : rowE sig v = 0) (hu : rowE sig u = 0) :
    replE sig (p ++ (v ++ q)) p.length u = (if 512 < p.length + u.length + q.length then 2 else 0) ∧ replL sig (p ++ (v ++ q)) p.length u = (if 512 < p.length + u.length + q.length then [] else p ++ (u ++ q)) := by
  have hvl := right_len hv
  have h1 := repl_ok h hu (k := p.length) (by simp only [List.length_append]; omega)
  rw [nodes_mid hv] at h1
  have h2 : (p ++ (v ++ q)).length - (p.length + v.length) = q.length := by simp only [List.length_append]; omega
  have h3 : (p ++ (v ++ q)).drop (p.length + v.length) = q := by rw [← List.append_assoc, ← List.length_append, List.drop_left]
  rw [h2, h3, List.take_left] at h1
  exact h1

/-- A right term taken apart at a place. -/
theorem split_place {sig : List Sy} {t : List Int} (h : termE sig t = 0) {k : Nat} (hk : k < t.length) : ∃ p v q, t = p ++ (v ++ q) ∧ p.length = k ∧ v.length = nodes sig t k ∧ rowE sig v = 0 := by
  obtain ⟨hs, hr⟩ := term_parts h
  obtain ⟨h1, h2, h3, h4⟩ := at_place (sigE_ok hs) hr hk
  refine ⟨t.take k, (t.drop k).take (nodes sig t k), (t.drop k).drop (nodes sig t k), ?_, ?_, ?_, h4⟩
  · rw [List.take_append_drop, List.take_append_drop]
  · rw [List.length_take]; omega
  · rw [List.length_take, List.length_drop]; omega

/-- A second place, behind the first one and not below it. -/
theorem split_second {sig : List Sy} {p v r : List Int} (h : termE sig (p ++ (v ++ r)) = 0) {k : Nat} (hk : k < (p ++ (v ++ r)).length) (hv : p.length + v.length ≤ k) :
    ∃ m x q, r = m ++ (x ++ q) ∧ p.length + v.length + m.length = k ∧ rowE sig x = 0 := by
  obtain ⟨p2, x, q, h1, h2, _, h4⟩ := split_place h hk
  have h5 : p2 = p ++ v ++ r.take (k - (p.length + v.length)) := by
    have := congrArg (List.take k) h1
    rw [← h2, List.take_left, h2] at this
    rw [← this, ← List.append_assoc, List.take_append, List.length_append, List.take_of_length_le (by rw [List.length_append]; omega)]
  refine ⟨r.take (k - (p.length + v.length)), x, q, ?_, ?_, h4⟩
  · rw [h5, List.append_assoc, List.append_assoc] at h1
    exact List.append_cancel_left (List.append_cancel_left h1)
  · have h6 := congrArg List.length h5
    rw [List.length_append, List.length_append, h2] at h6
    exact h6.symm

end Go.Proofs.YtgpbnbmjgcchfaaGreatDoor

/- slices.EqualFunc at rows of rows walked. -/
namespace Go.Proofs.YtgpbnbmjgcchfaaGreatDoor
open Go.RowKit Go.Maps

end Go.Proofs.YtgpbnbmjgcchfaaGreatDoor

/- Variant of package match walked. -/
namespace Go.Proofs.YtgpbnbmjgcchfaaGreatDoor
open Go.RowKit Go.Maps

theorem drawnN_below (w : World) (n : Nat) : Below w.heap.size w (w.drewN n) := drawn_below rfl

theorem canL_len (l : List (List Int)) : (canL l).length = l.length := canL_length l

theorem canL_small {p q : List Int} (h1 : p.length * 8 ≤ 140737488351232) (h2 : q.length * 8 ≤ 140737488351232) : ∀ t ∈ canL [p, q], t.length * 8 ≤ 140737488351232 := by
  refine lens_small (l := [p, q]) (canG_lens _ _) fun t ht => ?_
  simp only [List.mem_cons, List.not_mem_nil, or_false] at ht
  rcases ht with rfl | rfl
  · exact h1
  · exact h2

theorem rs_four {w : World} {v1 v2 v3 v4 : Value} {p q r s : List Int} (i1 : Is w v1 p) (i2 : Is w v2 q) (i3 : Is w v3 r) (i4 : Is w v4 s) (h1 : p.length * 8 ≤ 140737488351232) (h2 : q.length * 8 ≤ 140737488351232) (h3 : r.length * 8 ≤ 140737488351232) (h4 : s.length * 8 ≤ 140737488351232) : Rs (w.alloc (.cells #[v1, v2, v3, v4] 26)) (.slice (some ⟨w.heap.size, 0, none⟩) 4 4) [p, q, r, s] := by
  have hk := Kp.of_below (below_alloc (w := w) (.cells #[v1, v2, v3, v4] 26))
  refine ⟨_, 4, rfl, Nat.le_refl _, by simp [maxLen], fun _ => ⟨w.heap.size, 0, rfl, by simp, fun k x hx => ?_⟩⟩
  match k, hx with
  | 0, hx => simp at hx; subst hx; exact ⟨h1, v1, cell_new rfl, i1.kp hk⟩
  | 1, hx => simp at hx; subst hx; exact ⟨h2, v2, cell_new rfl, i2.kp hk⟩
  | 2, hx => simp at hx; subst hx; exact ⟨h3, v3, cell_new rfl, i3.kp hk⟩
  | 3, hx => simp at hx; subst hx; exact ⟨h4, v4, cell_new rfl, i4.kp hk⟩
  | k + 4, hx => simp at hx

end Go.Proofs.YtgpbnbmjgcchfaaGreatDoor

/- What the statements of layer 5 call of their own. -/
namespace Go.Proofs.YtgpbnbmjgcchfaaGreatDoor
open Go.RowKit Go.Maps Go.BigFrame

end Go.Proofs.YtgpbnbmjgcchfaaGreatDoor

/- The examples of layer 5 come out true. -/
namespace Go.Proofs.YtgpbnbmjgcchfaaGreatDoor
open Go.RowKit Go.Maps Go.BigFrame

theorem small_ints5 (xs : List Int) (h : (xs.all fun x => decide (-100 ≤ x ∧ x ≤ 100)) = true) : ∀ x ∈ xs, -9223372036854775808 ≤ x ∧ x ≤ 9223372036854775807 := fun x hx => by
  have := List.all_eq_true.1 h x hx
  simp at this
  omega

theorem sh5_p : termE sumS [2, -1, -2] = 0 := by kernel_rfl
theorem sh5_t : termE sumS [2, 1, 0, 0] = 0 := by kernel_rfl
theorem sh5_q : termE sumS [2, -1, -1] = 0 := by kernel_rfl
theorem sh5_u : termE sumS [2, 0, 1, 0] = 0 := by kernel_rfl
theorem sh5_a : (termsB sumS [[2, -1, -2], [-1], [2, -7, -3], [-7]] && decide (canL [[2, -1, -2], [-1]] = canL [[2, -7, -3], [-7]])) = true := by kernel_rfl
theorem sh5_b : (termsB sumS [[2, -1, -2], [-1], [2, -7, -3], [-3]] && decide (canL [[2, -1, -2], [-1]] = canL [[2, -7, -3], [-3]])) = false := by kernel_rfl

/-- The example's binds. -/
def shF (n : Int) : Option (List Int) := if n = 0 then some [1, 0] else if n = 1 then some [0] else none

theorem shF_rt : Rt sumS shF := fun n u hu => by
  unfold shF at hu
  split at hu
  · cases hu; kernel_rfl
  · split at hu
    · cases hu; kernel_rfl
    · cases hu

theorem shF_sm : Sm shF [2, -1, -2] [2, 1, 0, 0] := ⟨fun c hc h0 => by
  simp at hc
  rcases hc with rfl | rfl | rfl
  · omega
  · decide
  · decide, by decide⟩

theorem shF_vars : varsL [2, -1, -2] = [0, 1] := by kernel_rfl

theorem shF_sort : sortI [0, 1] = [0, 1] := by
  unfold sortI
  first
    | exact List.mergeSort_of_pairwise (by simp)
    | exact List.mergeSort_of_sorted (by simp)

theorem shF_binds : bindsL shF [2, -1, -2] = [(0, [1, 0]), (1, [0])] := by
  unfold bindsL
  rw [shF_vars, shF_sort]
  rfl

theorem sh_no (f : Int → Option (List Int)) (_hf : Rt sumS f) : ¬ Sm f [2, -1, -1] [2, 0, 1, 0] := fun h => by
  have h1 := h.2
  rw [laidL_cons, laidL_cons, laidL_cons] at h1
  have e1 : piece f 2 = [2] := by unfold piece; rw [if_neg (by omega)]
  have h2 := congrArg List.length h1
  rw [e1] at h2
  simp [laidL] at h2
  omega

set_option maxRecDepth 100000 in
theorem call_m1 (w : World) (sv : Value) (hs : Sg w sv sumS) (hT : Tabs w) : Calls Tryz.prog 40 #[sv, .slice (some ⟨w.heap.size, 0, none⟩) 3 3, .slice (some ⟨w.heap.size + 1, 0, none⟩) 4 4] ((w.alloc (Obj.cells #[Value.int IntKind.i64 2, Value.int IntKind.i64 (-1), Value.int IntKind.i64 (-2)] 3)).alloc (Obj.cells #[Value.int IntKind.i64 2, Value.int IntKind.i64 1, Value.int IntKind.i64 0, Value.int IntKind.i64 0] 3))
    fun e w' => ∃ v, e = .returned (.tuple #[v, .bool true]) ∧ Bs w' v [(0, [1, 0]), (1, [0])] ∧ Below w.heap.size w w' := by
  have hB : Below w.heap.size w ((w.alloc (Obj.cells #[Value.int IntKind.i64 2, Value.int IntKind.i64 (-1), Value.int IntKind.i64 (-2)] 3)).alloc (Obj.cells #[Value.int IntKind.i64 2, Value.int IntKind.i64 1, Value.int IntKind.i64 0, Value.int IntKind.i64 0] 3)) := (below_step (below_alloc _) (below_alloc _))
  obtain ⟨W, hW⟩ : ∃ W, W = ((w.alloc (Obj.cells #[Value.int IntKind.i64 2, Value.int IntKind.i64 (-1), Value.int IntKind.i64 (-2)] 3)).alloc (Obj.cells #[Value.int IntKind.i64 2, Value.int IntKind.i64 1, Value.int IntKind.i64 0, Value.int IntKind.i64 0] 3)) := ⟨_, rfl⟩
  have hsz : W.heap.size = w.heap.size + 2 := by rw [hW]; simp
  have i1 : Is W (.slice (some ⟨w.heap.size, 0, none⟩) 3 3) [2, -1, -2] := by
    refine is_lit (p := [2, -1, -2]) (by omega) (by decide) ⟨ei (by omega) (by omega) ?_, ei (by omega) (by omega) ?_, ei (by omega) (by omega) ?_, trivial⟩ <;> (rw [hW]; repeat (first | (refine cell_newg ?_ rfl; simp; done) | refine cell_old ?_))
  have i2 : Is W (.slice (some ⟨w.heap.size + 1, 0, none⟩) 4 4) [2, 1, 0, 0] := by
    refine is_lit (p := [2, 1, 0, 0]) (by omega) (by decide) ⟨ei (by omega) (by omega) ?_, ei (by omega) (by omega) ?_, ei (by omega) (by omega) ?_, ei (by omega) (by omega) ?_, trivial⟩ <;> (rw [hW]; repeat (first | (refine cell_newg ?_ rfl; simp; done) | refine cell_old ?_))
  rw [← hW] at hB ⊢
  refine (match_any sv _ _ sumS [2, -1, -2] [2, 1, 0, 0] W (hs.kp (Kp.of_below hB)) i1 i2 (hT.below hB) (by decide) (by decide)).mono ?_
  rintro e w' ⟨hb, ⟨rfl, h⟩ | ⟨v, f, rfl, _, _, hf, hsm, ho⟩⟩
  · exact absurd shF_sm (by
      rcases h with h | h | h
      · exact absurd sh5_p h
      · exact absurd sh5_t h
      · exact h shF shF_rt)
  · rw [binds_unique hf shF_rt hsm shF_sm, shF_binds] at ho
    exact ⟨v, rfl, ho.bs, below_step hB hb⟩

set_option maxRecDepth 100000 in
theorem call_m2 (w : World) (sv : Value) (hs : Sg w sv sumS) (hT : Tabs w) : Calls Tryz.prog 40 #[sv, .slice (some ⟨w.heap.size, 0, none⟩) 3 3, .slice (some ⟨w.heap.size + 1, 0, none⟩) 4 4] ((w.alloc (Obj.cells #[Value.int IntKind.i64 2, Value.int IntKind.i64 (-1), Value.int IntKind.i64 (-1)] 3)).alloc (Obj.cells #[Value.int IntKind.i64 2, Value.int IntKind.i64 0, Value.int IntKind.i64 1, Value.int IntKind.i64 0] 3))
    fun e w' => e = .returned (.tuple #[.slice none 0 0, .bool false]) ∧ Below w.heap.size w w' := by
  have hB : Below w.heap.size w ((w.alloc (Obj.cells #[Value.int IntKind.i64 2, Value.int IntKind.i64 (-1), Value.int IntKind.i64 (-1)] 3)).alloc (Obj.cells #[Value.int IntKind.i64 2, Value.int IntKind.i64 0, Value.int IntKind.i64 1, Value.int IntKind.i64 0] 3)) := (below_step (below_alloc _) (below_alloc _))
  obtain ⟨W, hW⟩ : ∃ W, W = ((w.alloc (Obj.cells #[Value.int IntKind.i64 2, Value.int IntKind.i64 (-1), Value.int IntKind.i64 (-1)] 3)).alloc (Obj.cells #[Value.int IntKind.i64 2, Value.int IntKind.i64 0, Value.int IntKind.i64 1, Value.int IntKind.i64 0] 3)) := ⟨_, rfl⟩
  have hsz : W.heap.size = w.heap.size + 2 := by rw [hW]; simp
  have i1 : Is W (.slice (some ⟨w.heap.size, 0, none⟩) 3 3) [2, -1, -1] := by
    refine is_lit (p := [2, -1, -1]) (by omega) (by decide) ⟨ei (by omega) (by omega) ?_, ei (by omega) (by omega) ?_, ei (by omega) (by omega) ?_, trivial⟩ <;> (rw [hW]; repeat (first | (refine cell_newg ?_ rfl; simp; done) | refine cell_old ?_))
  have i2 : Is W (.slice (some ⟨w.heap.size + 1, 0, none⟩) 4 4) [2, 0, 1, 0] := by
    refine is_lit (p := [2, 0, 1, 0]) (by omega) (by decide) ⟨ei (by omega) (by omega) ?_, ei (by omega) (by omega) ?_, ei (by omega) (by omega) ?_, ei (by omega) (by omega) ?_, trivial⟩ <;> (rw [hW]; repeat (first | (refine cell_newg ?_ rfl; simp; done) | refine cell_old ?_))
  rw [← hW] at hB ⊢
  refine (match_any sv _ _ sumS [2, -1, -1] [2, 0, 1, 0] W (hs.kp (Kp.of_below hB)) i1 i2 (hT.below hB) (by decide) (by decide)).mono ?_
  rintro e w' ⟨hb, ⟨rfl, _⟩ | ⟨v, f, rfl, _, _, hf, hsm, ho⟩⟩
  · exact ⟨rfl, below_step hB hb⟩
  · exact absurd hsm (sh_no f hf)

end Go.Proofs.YtgpbnbmjgcchfaaGreatDoor

/- The document's bound of layer 5. -/
namespace Go.Proofs.YtgpbnbmjgcchfaaGreatDoor
open Go.RowKit Go.Maps

end Go.Proofs.YtgpbnbmjgcchfaaGreatDoor

/- A pattern and a term held against each other from the left, plainly. -/
namespace Go.Proofs.YtgpbnbmjgcchfaaGreatDoor
open Go.RowKit Go.Maps

/-- The pattern up to a place and the term up to a place, held against each other: what binds must do is to have those found, and to make the rest the rest. -/
structure Inn (sig : List Sy) (p t : List Int) (i q : Nat) (L : List Bd) : Prop where
  rows : ∃ us vs : List (List Int), us.length = vs.length ∧ (∀ u ∈ us, rowE sig u = 0) ∧ (∀ v ∈ vs, rowE sig v = 0) ∧ p.drop i = us.flatten ∧ t.drop q = vs.flatten
  right : ∀ b ∈ L, rowE sig b.2 = 0
  once : (L.map Prod.fst).Nodup
  vars : ∀ n, n ∈ L.map Prod.fst ↔ ∃ c ∈ p.take i, c < 0 ∧ n = -1 - c
  eqv : ∀ f, Rt sig f → (Sm f p t ↔ (∀ b ∈ L, f b.1 = some b.2) ∧ Sm f (p.drop i) (t.drop q))

theorem Inn.start {sig : List Sy} {p t : List Int} (hp : rowE sig p = 0) (ht : rowE sig t = 0) : Inn sig p t 0 0 [] :=
  ⟨⟨[p], [t], rfl, by simpa using hp, by simpa using ht, by simp, by simp⟩, by simp, by simp, by simp, fun f _ => by simp⟩

theorem Inn.more {sig : List Sy} {p t : List Int} {i q : Nat} {L : List Bd} (h : Inn sig p t i q L) (hi : i < p.length) : q < t.length := by
  obtain ⟨us, vs, h1, h2, h3, h4, h5⟩ := h.rows
  cases us with
  | nil =>
    have := congrArg List.length h4
    simp at this
    omega
  | cons u us =>
    cases vs with
    | nil => simp at h1
    | cons v vs =>
      have := congrArg List.length h5
      have h6 := row_ne (h3 v (by simp))
      simp at this
      omega

theorem kids_many {sig : List Sy} (ha : ArOk sig) {c : Int} {r : List Int} (h : rowE sig (c :: r) = 0) (hc : ¬ c < 0) :
    ∃ us : List (List Int), us.length = arN sig c ∧ r = us.flatten ∧ ∀ u ∈ us, rowE sig u = 0 := by
  have h1 := row_first.1 h
  rw [firstT_cons] at h1
  cases hd : codeD sig c with
  | none => rw [hd] at h1; simp at h1
  | some e =>
    rw [hd] at h1
    simp only at h1
    obtain ⟨k1, _⟩ := codeD_ar ha hd hc
    by_cases h0 : 1 + e = 0
    · rw [if_pos h0] at h1
      have hl : r.length = 0 := by
        have := congrArg Prod.fst h1
        simp at this
        omega
      exact ⟨[], by simp; omega, by rw [List.eq_nil_of_length_eq_zero hl]; rfl, fun u hu => by cases hu⟩
    · rw [if_neg h0, show (1 : Int) + e = (arN sig c : Int) by omega] at h1
      exact split_first ha _ r (0 + 1) (by omega) (by rw [h1]; simp only [List.length_cons, Prod.mk.injEq, and_true]; omega)

theorem sm_nil (f : Int → Option (List Int)) : Sm f [] [] := ⟨fun c hc => by simp at hc, rfl⟩

theorem Inn.sym {sig : List Sy} (ha : ArOk sig) {p t : List Int} {i q : Nat} {L : List Bd} (h : Inn sig p t i q L) {c d : Int} (hc : p[i]? = some c) (hd : t[q]? = some d) (h0 : ¬ c < 0) :
    (c ≠ d → ∀ f, Rt sig f → ¬ Sm f p t) ∧ (c = d → Inn sig p t (i + 1) (q + 1) L) := by
  refine ⟨fun hne f hf hs => ?_, fun hcd => ?_⟩
  · have h1 := ((h.eqv f hf).1 hs).2
    rw [drop_get hc, drop_get hd] at h1
    exact hne ((sm_head h0).1 h1).1
  · subst hcd
    obtain ⟨us, vs, h1, h2, h3, h4, h5⟩ := h.rows
    have e1 := drop_get hc
    have e2 := drop_get hd
    refine ⟨?_, h.right, h.once, fun n => ?_, fun f hf => ?_⟩
    · cases us with
      | nil => rw [e1] at h4; simp at h4
      | cons u us =>
        cases vs with
        | nil => rw [e2] at h5; simp at h5
        | cons v vs =>
          have hu := h2 u (by simp)
          have hv := h3 v (by simp)
          cases u with
          | nil => exact absurd (row_ne hu) (by simp)
          | cons c1 u =>
            cases v with
            | nil => exact absurd (row_ne hv) (by simp)
            | cons c2 v =>
              rw [e1, List.flatten_cons, List.cons_append, List.cons.injEq] at h4
              rw [e2, List.flatten_cons, List.cons_append, List.cons.injEq] at h5
              obtain ⟨rfl, h4⟩ := h4
              obtain ⟨rfl, h5⟩ := h5
              obtain ⟨xs, a1, a2, a3⟩ := kids_many ha hu h0
              obtain ⟨ys, b1, b2, b3⟩ := kids_many ha hv h0
              refine ⟨xs ++ us, ys ++ vs, ?_, ?_, ?_, ?_, ?_⟩
              · simp only [List.length_append, List.length_cons] at h1 ⊢
                omega
              · intro x hx
                rcases List.mem_append.1 hx with hx | hx
                · exact a3 x hx
                · exact h2 x (by simp [hx])
              · intro x hx
                rcases List.mem_append.1 hx with hx | hx
                · exact b3 x hx
                · exact h3 x (by simp [hx])
              · rw [h4, List.flatten_append, ← a2]
              · rw [h5, List.flatten_append, ← b2]
    · rw [h.vars n, take_get hc]
      constructor
      · rintro ⟨x, hx, h6, h7⟩
        exact ⟨x, by simp [hx], h6, h7⟩
      · rintro ⟨x, hx, h6, h7⟩
        rcases List.mem_append.1 hx with hx | hx
        · exact ⟨x, hx, h6, h7⟩
        · simp at hx
          subst hx
          exact absurd h6 h0
    · rw [h.eqv f hf, e1, e2, sm_head h0]
      simp

/-- A variable ahead of a row of terms. -/
theorem sm_first {sig : List Sy} {f : Int → Option (List Int)} (hf : Rt sig f) {c : Int} {r u s : List Int} (hc : c < 0) (hu : rowE sig u = 0) : Sm f (c :: r) (u ++ s) ↔ f (-1 - c) = some u ∧ Sm f r s := by
  constructor
  · intro h
    obtain ⟨x, hx⟩ := Option.ne_none_iff_exists'.1 (h.1 c (by simp) hc)
    have hp : piece f c = x := by unfold piece; rw [if_pos hc, hx]; rfl
    have h2 := h.2
    rw [laidL_cons, hp] at h2
    have k1 := first_right (hf _ _ hx) (laidL f r)
    rw [h2, first_right hu] at k1
    have k2 : u.length = x.length := by
      have := congrArg Prod.fst k1
      simp only at this
      omega
    obtain ⟨k3, k4⟩ := List.append_inj h2 k2.symm
    exact ⟨by rw [hx, k3], fun y hy h0 => h.1 y (by simp [hy]) h0, k4⟩
  · rintro ⟨h1, h2⟩
    have hp : piece f c = u := by unfold piece; rw [if_pos hc, h1]; rfl
    refine ⟨fun y hy h0 => ?_, by rw [laidL_cons, hp, h2.2]⟩
    rcases List.mem_cons.1 hy with rfl | hy
    · rw [h1]; simp
    · exact h2.1 y hy h0

theorem look_has {L : List Bd} (hn : (L.map Prod.fst).Nodup) : ∀ {b : Bd}, b ∈ L → L.lookup b.1 = some b.2 := by
  induction L with
  | nil => intro b hb; simp at hb
  | cons a L ih =>
    intro b hb
    rw [List.map_cons, List.nodup_cons] at hn
    rcases List.mem_cons.1 hb with rfl | hb
    · rw [List.lookup_cons]; simp
    · have : b.1 ≠ a.1 := fun e => hn.1 (by rw [← e]; exact List.mem_map.2 ⟨b, hb, rfl⟩)
      rw [List.lookup_cons, show (b.1 == a.1) = false by rw [beq_eq_false_iff_ne]; exact this]
      exact ih hn.2 hb

theorem look_not {L : List Bd} {n : Int} (h : L.lookup n = none) : n ∉ L.map Prod.fst := by
  intro hn
  obtain ⟨b, hb, rfl⟩ := List.mem_map.1 hn
  rw [List.lookup_eq_none_iff] at h
  have := h b hb
  simp at this

theorem Inn.var {sig : List Sy} (_ha : ArOk sig) {p t : List Int} {i q : Nat} {L : List Bd} (h : Inn sig p t i q L) {c : Int} (hc : p[i]? = some c) (h0 : c < 0) :
    ∃ u : List Int, firstT sig 1 0 (t.drop q) = ((u.length : Int), 0) ∧ q + u.length ≤ t.length ∧ (t.drop q).take u.length = u ∧ rowE sig u = 0 ∧
      (L.lookup (-1 - c) = none → Inn sig p t (i + 1) (q + u.length) (L ++ [(-1 - c, u)])) ∧ (L.lookup (-1 - c) = some u → Inn sig p t (i + 1) (q + u.length) L) ∧
      (∀ x, L.lookup (-1 - c) = some x → x ≠ u → ∀ f, Rt sig f → ¬ Sm f p t) := by
  obtain ⟨us, vs, h1, h2, h3, h4, h5⟩ := h.rows
  have e1 := drop_get hc
  cases us with
  | nil => rw [e1] at h4; simp at h4
  | cons z us =>
    cases vs with
    | nil => simp at h1
    | cons u vs =>
      have hu := h3 u (by simp)
      have hz := h2 z (by simp)
      cases z with
      | nil => exact absurd (row_ne hz) (by simp)
      | cons c1 z =>
        rw [e1, List.flatten_cons, List.cons_append, List.cons.injEq] at h4
        obtain ⟨rfl, h4⟩ := h4
        have hz0 : z = [] := by
          have h6 := row_first.1 hz
          rw [firstT_cons] at h6
          cases hd : codeD sig c with
          | none => rw [hd] at h6; simp at h6
          | some e =>
            have he : e = -1 := by
              unfold codeD at hd
              split at hd
              · cases hd
              · first
                | (rw [if_pos h0] at hd; cases hd; rfl)
                | (cases hd; rfl)
            subst he
            rw [hd] at h6
            simp at h6
            exact List.eq_nil_of_length_eq_zero (by omega)
        subst hz0
        rw [List.nil_append] at h4
        rw [List.flatten_cons] at h5
        have hdr : t.drop (q + u.length) = vs.flatten := by rw [← List.drop_drop, h5, List.drop_left]
        have hq : q + u.length ≤ t.length := by
          have := congrArg List.length h5
          have h9 := row_ne hu
          simp at this
          omega
        have hrows : ∃ us vs : List (List Int), us.length = vs.length ∧ (∀ u ∈ us, rowE sig u = 0) ∧ (∀ v ∈ vs, rowE sig v = 0) ∧ p.drop (i + 1) = us.flatten ∧ t.drop (q + u.length) = vs.flatten :=
          ⟨us, vs, by simpa using h1, fun x hx => h2 x (by simp [hx]), fun x hx => h3 x (by simp [hx]), h4, hdr⟩
        have heq : ∀ f, Rt sig f → (Sm f p t ↔ ((∀ b ∈ L, f b.1 = some b.2) ∧ f (-1 - c) = some u) ∧ Sm f (p.drop (i + 1)) (t.drop (q + u.length))) := fun f hf => by
          rw [h.eqv f hf, e1, h5, sm_first hf h0 hu, hdr, and_assoc]
        refine ⟨u, by rw [h5]; exact first_right hu _, hq, by rw [h5, List.take_left], hu, fun hl => ?_, fun hl => ?_, fun x hl hne f hf hs => ?_⟩
        · have hnot := look_not hl
          refine ⟨hrows, ?_, ?_, ?_, ?_⟩
          · intro b hb
            rcases List.mem_append.1 hb with hb | hb
            · exact h.right b hb
            · simp at hb
              subst hb
              exact hu
          · rw [List.map_append, List.nodup_append]
            refine ⟨h.once, by simp, ?_⟩
            intro a ha2 b hb e
            simp at hb
            subst hb
            subst e
            exact hnot ha2
          · intro n
            rw [List.map_append, List.mem_append, h.vars n, take_get hc]
            constructor
            · rintro (⟨y, hy, h6, h7⟩ | hn)
              · exact ⟨y, by simp [hy], h6, h7⟩
              · simp at hn
                exact ⟨c, by simp, h0, hn⟩
            · rintro ⟨y, hy, h6, h7⟩
              rcases List.mem_append.1 hy with hy | hy
              · exact .inl ⟨y, hy, h6, h7⟩
              · simp at hy
                subst hy
                exact .inr (by simp [h7])
          · intro f hf
            rw [heq f hf]
            constructor
            · rintro ⟨⟨h6, h7⟩, h8⟩
              refine ⟨fun b hb => ?_, h8⟩
              rcases List.mem_append.1 hb with hb | hb
              · exact h6 b hb
              · simp at hb
                subst hb
                exact h7
            · rintro ⟨h6, h8⟩
              exact ⟨⟨fun b hb => h6 b (by simp [hb]), h6 (-1 - c, u) (by simp)⟩, h8⟩
        · have hin := lookup_mem hl
          refine ⟨hrows, h.right, h.once, ?_, ?_⟩
          · intro n
            rw [h.vars n, take_get hc]
            constructor
            · rintro ⟨y, hy, h6, h7⟩
              exact ⟨y, by simp [hy], h6, h7⟩
            · rintro ⟨y, hy, h6, h7⟩
              rcases List.mem_append.1 hy with hy | hy
              · exact ⟨y, hy, h6, h7⟩
              · simp at hy
                subst hy
                exact (h.vars n).1 (by rw [h7]; exact List.mem_map.2 ⟨_, hin, rfl⟩)
          · intro f hf
            rw [heq f hf]
            constructor
            · rintro ⟨⟨h6, h7⟩, h8⟩
              exact ⟨h6, h8⟩
            · rintro ⟨h6, h8⟩
              exact ⟨⟨h6, h6 _ hin⟩, h8⟩
        · have h6 := ((heq f hf).1 hs).1
          have h7 := h6.1 _ (lookup_mem hl)
          have h8 := h6.2
          simp only at h7
          rw [h7] at h8
          exact hne (Option.some.inj h8)

theorem Inn.done {sig : List Sy} {p t : List Int} {i q : Nat} {L : List Bd} (h : Inn sig p t i q L) (hi : p.length ≤ i) : Rt sig (fun n => L.lookup n) ∧ Sm (fun n => L.lookup n) p t := by
  have hr : Rt sig (fun n => L.lookup n) := fun n u hu => h.right _ (lookup_mem hu)
  refine ⟨hr, (h.eqv _ hr).2 ⟨fun b hb => look_has h.once hb, ?_⟩⟩
  obtain ⟨us, vs, h1, h2, h3, h4, h5⟩ := h.rows
  have hp : p.drop i = [] := List.drop_of_length_le hi
  cases us with
  | nil =>
    cases vs with
    | nil => rw [hp, h5]; exact sm_nil _
    | cons v vs => simp at h1
  | cons u us =>
    have := congrArg List.length h4
    have h6 := row_ne (h2 u (by simp))
    rw [hp] at this
    simp at this
    omega

end Go.Proofs.YtgpbnbmjgcchfaaGreatDoor
