/- Texts of the proof, one behind the other. -/
import Derived.Test.YtfeeafkfjngemaaGreatDoorOwn17
import Derived.Test.YtfeeafkfjngemaaGreatDoorOwn16
import Derived.Test.YtfeeafkfjngemaaGreatDoorOwn20
import Derived.Test.YtfeeafkfjngemaaGreatDoorOwn18
import Derived.Test.YtfeeafkfjngemaaGreatDoorOwn19
import Derived.Test.YtfeeafkfjngemaaGreatDoorOwn5
import Derived.Test.YtfeeafkfjngemaaGreatDoorOwn12
import Derived.Test.YtfeeafkfjngemaaGreatDoorOwn3
/- The document's right, end, matched and All of layer 8 walked. -/
namespace Go.Proofs.YtfeeafkfjngemaaGreatDoor
open Go.RowKit Go.Maps Go.BigFrame

set_option maxRecDepth 100000 in
set_option maxHeartbeats 800000 in
theorem refRight8_any (sv rv tv : Value) (sig : List Sy) (rs : List Rl) (t : List Int) (w : World) (hs : Sg w sv sig) (hr : RU w rv rs) (ht : Is w tv t) (h1 : t.length * 8 ≤ 140737488351232) :
    Calls Tryz.prog 28 #[.agg #[sv, rv], tv] w fun e w' => e = .returned (.int .i64 (stepE sig rs t)) ∧ Below w.heap.size w w' := by
  obtain ⟨so, sc, rfl, hso, hsc, _⟩ := Row.flat hs
  obtain ⟨ro, rc, rfl, hro, hrc, _⟩ := Row.flat hr
  have HS := hid hs
  have HR := hid hr
  have HTt := hid ht
  clear hs hr ht
  obtain ⟨w0, hw0⟩ : ∃ X, X = w.alloc (.cells #[.slice so sig.length sc, .slice ro rs.length rc] 25) := ⟨_, rfl⟩
  have C0 : Hid (Below w.heap.size w w0) := by rw [hw0]; exact below_alloc _
  have HC : Hid (∀ W, Below w0.heap.size w0 W → W.cell? ⟨w.heap.size, 0, none⟩ = some (.slice so sig.length sc)) := fun W hW => by
    have hk := Kp.of_below hW
    rw [hw0] at hk
    exact hk.cell _ _ (cell_new rfl)
  go_enter Tryz.func28, Tryz.ntmps28
  go_wp2_with fail
  rw [← hw0]
  clear hw0
  refine (refSysCheck_any _ _ sig rs w0 (HS.out.kp (Kp.of_below C0.out)) (HR.out.kp (Kp.of_below C0.out))).mono ?_
  rintro e w1 ⟨rfl, hb1⟩
  have C1 := hid (below_step C0.out hb1)
  have x0 := HC.out w1 hb1
  clear hb1
  by_cases h0 : (sysE sig rs).1 = 0
  · have hok : sysB sig rs = true := by unfold sysB; exact decide_eq_true h0
    have hse := (ahead_parts (sys_right hok).1).1
    have HF : Hid (stepE sig rs t = rowE sig t) := by show _ = _; unfold stepE termE; rw [if_pos h0, if_pos hse]
    have HA := hid (sig_arOk hse)
    obtain ⟨E, hE⟩ : ∃ E, E = sysE sig rs := ⟨_, rfl⟩
    rw [← hE] at h0 ⊢
    clear hE hok hse
    obtain ⟨E1, E2⟩ := E
    simp only at h0
    subst h0
    go_wp2_with fail
    refine (refTerm_any _ _ sig t w1 (HS.out.kp (Kp.of_below C1.out)) (HTt.out.kp (Kp.of_below C1.out)) HA.out h1).mono ?_
    rintro e w2 ⟨rfl, hw2⟩
    have hw8 := hw2.symm
    subst hw8
    clear hw2 x0
    generalize rowE sig t = Z at HF ⊢
    go_wp2
    go_ret
    exact ⟨ret1i HF.out.symm, C1.out⟩
  · have HF : Hid (stepE sig rs t = (sysE sig rs).1) := by show _ = _; unfold stepE; rw [if_neg h0]
    obtain ⟨E, hE⟩ : ∃ E, E = sysE sig rs := ⟨_, rfl⟩
    rw [← hE] at h0 HF ⊢
    clear hE
    obtain ⟨E1, E2⟩ := E
    have hne : (E1 != 0) = true := by rw [bne_iff_ne]; exact h0
    clear h0
    go_wp2
    go_ret
    exact ⟨ret1i HF.out.symm, C1.out⟩

/-- Each place has its end. -/
theorem place_end8 {sig : List Sy} {t : List Int} (ht : termE sig t = 0) {x : Nat} (hx : x < t.length) : ∃ y, VOk sig t (x, y) := by
  obtain ⟨vs, hpv⟩ := pv_any (sig_arOk (term_parts ht).1) t.length t 0 (Nat.le_refl _) (term_parts ht).2
  have hm : x ∈ vs.map Prod.fst := (pv_perm hpv).symm.subset (by rw [List.mem_range'_1]; omega)
  obtain ⟨v, hv, rfl⟩ := List.mem_map.1 hm
  exact ⟨v.2, pv_ok hpv t [] [] (by simp) rfl v hv⟩

set_option maxRecDepth 100000 in
set_option maxHeartbeats 800000 in
theorem refEnd8_any (sv tv : Value) (sig : List Sy) (t : List Int) (x y : Nat) (w : World) (hs : Sg w sv sig) (ht : Is w tv t) (ha : ArOk sig) (hv : VOk sig t (x, y)) (htl : t.length ≤ 1048576) :
    Calls Tryz.prog 29 #[sv, tv, .int .i64 (x : Int)] w fun e w' => e = .returned (.int .i64 (y : Int)) ∧ w' = w := by
  obtain ⟨so, sc, rfl, hso, hsc, _⟩ := Row.flat hs
  obtain ⟨to2, tc, rfl, hto, htc, _⟩ := ht.flatI
  unfold maxLen at hsc
  obtain ⟨h1, h2, h3⟩ := hv
  simp only at h1 h2 h3
  obtain ⟨u, hu⟩ : ∃ u, u = (t.drop x).take (y - x) := ⟨_, rfl⟩
  have hul : u.length = y - x := by rw [hu, List.length_take, List.length_drop]; omega
  rw [← hu] at h3
  have hf : firstT sig 1 0 u = ((u.length : Int), 0) := by have h9 := first_right h3 []; rw [List.append_nil] at h9; exact h9
  have HGt : Hid (∀ k, k < u.length → t[x + k]? = u[k]?) := fun k hk => by rw [hu, List.getElem?_take_of_lt (by omega), List.getElem?_drop]
  have HS := hid hs
  have HTt := hid ht
  have HF := hid hf
  have HU := hid hul
  have HA := hid ha
  clear hs ht hf hu hul h3 ha
  go_enter Tryz.func29, Tryz.ntmps29
  go_wp2
  go_loopw [2, 7] (fun av mv wr => ∃ (k m : Nat), k ≤ u.length ∧ av = .int .i64 ((x + k : Nat) : Int) ∧ mv = .int .i64 m ∧ m ≤ 1 + 1000 * k ∧ (0 < m → firstT sig (m : Int) k (u.drop k) = ((u.length : Int), 0)) ∧ (m = 0 → k = u.length) ∧ wr = w) (fun av _ _ => y - (intOf av).toNat)
  case atStart => exact ⟨0, 1, Nat.zero_le _, by simp, rfl, by omega, fun _ => by simpa using HF.out, fun h => by omega, rfl⟩
  case round =>
    obtain ⟨k, m, hk, rfl, rfl, hm, hfm, hm0, hw⟩ := hrel
    have hw8 := hw.symm
    subst hw8
    have HFm := hid hfm
    have HM0 := hid hm0
    clear hw hfm hm0
    by_cases hpos : 0 < m
    · have hd : decide ((m : Int) > 0) = true := by simpa using hpos
      have hfk := HFm.out hpos
      have hlt : k < u.length := by
        by_cases h9 : k < u.length
        · exact h9
        · rw [List.drop_of_length_le (by omega)] at hfk
          simp [firstT] at hfk
      obtain ⟨c, hc⟩ : ∃ c, u[k]? = some c := ⟨_, List.getElem?_eq_getElem hlt⟩
      rw [drop_get hc, firstT_cons] at hfk
      have htk : t[x + k]? = some c := by rw [HGt.out k hlt]; exact hc
      have hxk : x + k < t.length := by have := HU.out; omega
      have hkb : k ≤ 1048576 := by have := HU.out; omega
      obtain ⟨gt, ot, c9, rfl, hc9, hcx, _, _⟩ := HTt.out.at hxk
      rw [htk] at hc9
      cases hc9
      obtain ⟨P, hP⟩ : ∃ P, P = x + k := ⟨_, rfl⟩
      rw [← hP] at hcx hxk ⊢
      have HPk := hid hP
      have hm1 : IntKind.i64.wrap ((m : Int) - 1) = ((m - 1 : Nat) : Int) := by rw [IntWalk.i64_in _ ⟨by omega, by omega⟩]; omega
      have hP1 : IntKind.i64.wrap ((P : Int) + 1) = ((P + 1 : Nat) : Int) := by rw [IntWalk.i64_in _ ⟨by omega, by omega⟩]; omega
      cases hcd : codeD sig c with
      | none => rw [hcd] at hfk; simp at hfk
      | some e =>
        rw [hcd] at hfk
        simp only at hfk
        have HNx : Hid (∀ m' : Nat, (m' : Int) = (m : Int) + e → (0 < m' → firstT sig (m' : Int) (k + 1) (u.drop (k + 1)) = ((u.length : Int), 0)) ∧ (m' = 0 → k + 1 = u.length)) := fun m' hm' => by
          rw [hm']
          by_cases h9 : (m : Int) + e = 0
          · rw [if_pos h9] at hfk
            have := congrArg Prod.fst hfk
            simp only at this
            exact ⟨fun h => by omega, fun _ => by omega⟩
          · rw [if_neg h9] at hfk
            exact ⟨fun _ => hfk, fun h => by omega⟩
        clear hP htk hfk hc
        by_cases hc0 : c < 0
        · have hce : e = -1 := by
            unfold codeD at hcd
            by_cases h9 : c < -1048576
            · rw [if_pos h9] at hcd; cases hcd
            · rw [if_neg h9, if_pos hc0] at hcd; cases hcd; rfl
          have hdc : decide (c ≥ 0) = false := by simpa using hc0
          have HN := hid (HNx.out (m - 1) (by omega))
          clear hcd hce
          go_wp2
          go_roundw
          case rel => exact ⟨k + 1, m - 1, hlt, by have := HPk.out; rw [show x + (k + 1) = P + 1 by omega]; go_num, by go_num, by omega, HN.out.1, HN.out.2, trivial⟩
          case measure => have := HPk.out; have := HU.out; simp only [intOf]; omega
        · obtain ⟨n, rfl⟩ : ∃ n : Nat, c = (n : Int) := ⟨c.toNat, by omega⟩
          have hnl : n < sig.length := by
            by_cases h9 : n < sig.length
            · exact h9
            · rw [codeD_none (.inl (by omega))] at hcd; cases hcd
          obtain ⟨gs, os, s, ar, rfl, hsn, hs0, hs1, _⟩ := HS.out.at hnl
          have hae : e = ar - 1 := by
            rw [codeD_sym hsn] at hcd
            cases hcd
            rfl
          have har := HA.out _ (List.mem_of_getElem? hsn)
          simp only at har
          have hdc : decide ((n : Int) ≥ 0) = true := by simp
          obtain ⟨q, hq⟩ : ∃ q : Nat, (q : Int) = ((m - 1 : Nat) : Int) + ar := ⟨(((m - 1 : Nat) : Int) + ar).toNat, by omega⟩
          have hqw : IntKind.i64.wrap (((m - 1 : Nat) : Int) + ar) = (q : Int) := by rw [← hq]; exact IntWalk.i64_in _ ⟨by omega, by omega⟩
          have HN := hid (HNx.out q (by omega))
          have hq2 : q ≤ 1 + 1000 * (k + 1) := by omega
          generalize m - 1 = M1 at hm1 hqw
          clear hcd hae hsn hs0 hq HNx
          go_wp2
          go_roundw
          case rel => exact ⟨k + 1, q, hlt, by have := HPk.out; rw [show x + (k + 1) = P + 1 by omega]; go_num, rfl, hq2, HN.out.1, HN.out.2, trivial⟩
          case measure => have := HPk.out; have := HU.out; simp only [intOf]; omega
    · have hd : decide ((m : Int) > 0) = false := by simpa using (show ¬ ((m : Int) > 0) by omega)
      have hm9 : m = 0 := by omega
      have hke := HM0.out hm9
      have HY : Hid (x + k = y) := by have := HU.out; show _ = _; omega
      subst hm9
      rw [HY.out]
      go_wp2
      go_ret
      exact ⟨rfl, rfl⟩

set_option maxRecDepth 100000 in
set_option maxHeartbeats 1600000 in
theorem refMatched_any (sv rv tv : Value) (sig : List Sy) (rs : List Rl) (t : List Int) (x y k : Nat) (l r : List Int) (w : World) (hs : Sg w sv sig) (hr : RU w rv rs) (ht : Is w tv t) (ha : ArOk sig) (hv : VOk sig t (x, y)) (hk : rs[k]? = some (l, r)) (hrl : rowE sig l = 0) (hl5 : l.length ≤ 512) (htl : t.length ≤ 1048576) :
    Calls Tryz.prog 30 #[.agg #[sv, rv], tv, .int .i64 (x : Int), .int .i64 (y : Int), .int .i64 (k : Int)] w fun e w' => Below w.heap.size w w' ∧ ((e = .returned (.tuple #[.slice none 0 0, .bool false]) ∧ hitB sig l (partV t (x, y)) = false) ∨
      ∃ v f, e = .returned (.tuple #[v, .bool true]) ∧ hitB sig l (partV t (x, y)) = true ∧ Rt sig f ∧ Sm f l (partV t (x, y)) ∧ OBW w.heap.size w' v (bindsL f l)) := by
  obtain ⟨so, sc, rfl, hso, hsc, _⟩ := Row.flat hs
  obtain ⟨ro, rc, rfl, hro, hrc, _⟩ := Row.flat hr
  unfold maxLen at hsc hrc
  have hkl : k < rs.length := (List.getElem?_eq_some_iff.1 hk).1
  obtain ⟨w0, hw0⟩ : ∃ X, X = w.alloc (.cells #[.slice so sig.length sc, .slice ro rs.length rc] 25) := ⟨_, rfl⟩
  have hb0 : Below w.heap.size w w0 := by rw [hw0]; exact below_alloc _
  have x0 : w0.cell? ⟨w.heap.size, 0, none⟩ = some (.slice so sig.length sc) := by rw [hw0]; exact cell_new rfl
  have x1 : w0.cell? ⟨w.heap.size, 1, none⟩ = some (.slice ro rs.length rc) := by rw [hw0]; exact cell_new rfl
  obtain ⟨g, off, l9, r9, a1, c1, a2, c2, rfl, hm, e0, e1, hi1, hi2, hl1, hl2⟩ := (hr.kp (Kp.of_below hb0)).at hkl
  rw [hk] at hm
  cases hm
  obtain ⟨h1, h2, h3⟩ := hv
  simp only at h1 h2 h3
  obtain ⟨to2, tc, rfl, hto, htc, _⟩ := ht.flatI
  obtain ⟨gt, ot, _, rfl, _⟩ := ht.at (k := x) (by omega)
  have hbd : Below w0.heap.size w0 w0.drew := (Below.refl _ _).drew
  have HIn := hid (refInner_any (.slice so sig.length sc) (.slice a1 l.length c1) (.slice (some ⟨gt, ot + x, none⟩) (y - x) (tc - x)) sig l (partV t (x, y)) w0.drew ((hs.kp (Kp.of_below hb0)).kp (Kp.of_below hbd)) (hi1.kp (Kp.of_below hbd)) (((ht.kp (Kp.of_below hb0)).kp (Kp.of_below hbd)).mid (k := x) (m := y - x) (by omega) (by omega)) ha hrl h3 (by omega) (by
    have h9 : (partV t (x, y)).length ≤ t.length := by unfold partV; rw [List.length_take, List.length_drop]; omega
    omega))
  have C0 := hid (below_step hb0 hbd)
  have hxy : x ≤ y := by omega
  have hyt : y ≤ tc := by omega
  have hxt : ¬ tc = x := by omega
  have hwl : w.heap.size ≤ w0.drew.heap.size := C0.out.size
  clear hs hr ht ha hk hrl h3 hi1 hi2 e1 hb0 hbd
  cases hht : hitB sig l (partV t (x, y)) with
  | false =>
    have HIn2 : Hid (Calls Tryz.prog 55 #[.slice so sig.length sc, .slice a1 l.length c1, .slice (some ⟨gt, ot + x, none⟩) (y - x) (tc - x)] w0.drew fun e w' => e = .returned (.tuple #[.slice none 0 0, .bool false]) ∧ Below w0.drew.heap.size w0.drew w') := HIn.out.mono (by
      rintro e w' ⟨hb, ⟨he, _⟩ | ⟨v, f, _, hf, hsm, _⟩⟩
      · exact ⟨he, hb⟩
      · rw [hitB_true ⟨f, hf, hsm⟩] at hht
        cases hht)
    clear HIn hht
    go_enter Tryz.func30, Tryz.ntmps30
    go_wp2
    rw [← hw0]
    clear hw0
    go_region_with (first
      | (refine HIn2.out.mono ?_; rintro e w9 ⟨rfl, hb9⟩; have HB9 := hid (below_step C0.out hb9); clear hb9))
    all_goals (
      go_wp2
      go_ret2
      exact ⟨HB9.out, .inl ⟨rfl, trivial⟩⟩)
  | true =>
    have HIn2 : Hid (Calls Tryz.prog 55 #[.slice so sig.length sc, .slice a1 l.length c1, .slice (some ⟨gt, ot + x, none⟩) (y - x) (tc - x)] w0.drew fun e w' => ∃ v f, e = .returned (.tuple #[v, .bool true]) ∧ (Rt sig f ∧ Sm f l (partV t (x, y)) ∧ OBW w0.drew.heap.size w' v (bindsL f l)) ∧ Below w0.drew.heap.size w0.drew w') := HIn.out.mono (by
      rintro e w' ⟨hb, ⟨_, hno⟩ | ⟨v, f, he, hf, hsm, hob⟩⟩
      · rw [hitB_false fun ⟨f, hf, h⟩ => hno f hf h] at hht
        cases hht
      · exact ⟨v, f, he, ⟨hf, hsm, hob⟩, hb⟩)
    clear HIn hht
    go_enter Tryz.func30, Tryz.ntmps30
    go_wp2
    rw [← hw0]
    clear hw0
    go_region_with (first
      | (refine HIn2.out.mono ?_; rintro e w9 ⟨v9, f9, rfl, hq9, hb9⟩; have HB9 := hid (below_step C0.out hb9); have HQ9 := hid hq9; clear hb9 hq9))
    all_goals (
      go_wp2
      go_ret2
      exact ⟨HB9.out, .inr ⟨_, f9, rfl, trivial, HQ9.out.1, HQ9.out.2.1, HQ9.out.2.2.mono hwl⟩⟩)

end Go.Proofs.YtfeeafkfjngemaaGreatDoor

/- What the binds of a match make of the pattern, plainly. -/
namespace Go.Proofs.YtfeeafkfjngemaaGreatDoor
open Go.RowKit Go.Maps

theorem first_codes2 {sig : List Sy} : ∀ (t : List Int) (m : Int) (i : Nat), firstT sig m i t = ((i : Int) + t.length, 0) → ∀ c ∈ t, codeD sig c ≠ none
  | [], _, _, _, c, hc => by simp at hc
  | a :: t, m, i, h, c, hc => by
    unfold firstT at h
    cases ha : codeD sig a with
    | none => rw [ha] at h; simp at h
    | some x =>
      rw [ha] at h
      simp only at h
      by_cases h0 : m + x = 0
      · rw [if_pos h0] at h
        have h2 := congrArg Prod.fst h
        simp only [List.length_cons] at h2
        have h3 : t.length = 0 := by omega
        obtain rfl := List.eq_nil_of_length_eq_zero h3
        rw [List.mem_singleton] at hc
        subst hc
        rw [ha]
        simp
      · rw [if_neg h0] at h
        rcases List.mem_cons.1 hc with rfl | hc
        · rw [ha]; simp
        · refine first_codes2 t (m + x) (i + 1) ?_ c hc
          rw [h]
          simp only [List.length_cons]
          congr 1
          push_cast
          omega


theorem row_var {sig : List Sy} {c : Int} (h0 : c < 0) (h1 : -1048576 ≤ c) : rowE sig [c] = 0 := by
  rw [row_first]
  unfold firstT
  rw [codeD_var h1 h0]
  simp

theorem codes_of {sig : List Sy} {p : List Int} (h : rowE sig p = 0) {c : Int} (hc : c ∈ p) : -1048576 ≤ c := by
  have h1 := row_first.1 h
  have h2 := first_codes2 p 1 0 (by rw [h1]; simp) c hc
  by_cases h3 : c < -1048576
  · exact absurd (codeD_none (.inr h3)) h2
  · omega

theorem laid_congr {f g : Int → Option (List Int)} {p : List Int} (h : ∀ c ∈ p, piece f c = piece g c) : laidL f p = laidL g p := by
  unfold laidL
  rw [List.flatMap_def, List.flatMap_def, List.map_congr_left h]

/-- What binds make of a pattern is matched by it. -/
theorem back_made {sig : List Sy} {s : List Bd} {p : List Int} (hb : bindE sig s = 0) (hp : rowE sig p = 0) : ∃ f, Rt sig f ∧ Sm f p (laidL (bnd s) p) := by
  refine ⟨fun n => match bnd s n with | some u => some u | none => if isVarB n then some [-1 - n] else none, fun n u hu => ?_, fun c hc h0 => ?_, ?_⟩
  · simp only at hu
    cases hs : bnd s n with
    | some x =>
      rw [hs] at hu
      simp only [Option.some.injEq] at hu
      subst hu
      exact bnd_right hb n x hs
    | none =>
      rw [hs] at hu
      simp only at hu
      split at hu
      · rename_i hv
        have := isVarB_iff.1 hv
        simp only [Option.some.injEq] at hu
        subst hu
        exact row_var (by omega) (by omega)
      · cases hu
  · simp only
    cases hs : bnd s (-1 - c) with
    | some x => simp
    | none =>
      have := codes_of hp hc
      simp only
      rw [if_pos (isVarB_iff.2 ⟨by omega, by omega⟩)]
      simp
  · refine laid_congr fun c hc => ?_
    unfold piece
    by_cases h0 : c < 0
    · rw [if_pos h0, if_pos h0]
      cases hs : bnd s (-1 - c) with
      | some x => simp only [hs]
      | none =>
        have h9 := codes_of hp hc
        simp only [hs]
        rw [if_pos (isVarB_iff.2 ⟨by omega, by omega⟩)]
        show [-1 - (-1 - c)] = [c]
        rw [show -1 - (-1 - c) = c by omega]
    · rw [if_neg h0, if_neg h0]


theorem binds_look {g : Int → Option (List Int)} {n : Int} : ∀ {l : List Int}, n ∈ l → (l.map fun n => (n, (g n).getD [])).lookup n = some ((g n).getD [])
  | [], h => by simp at h
  | m :: l, h => by
    rw [List.map_cons, List.lookup_cons]
    by_cases e : n = m
    · subst e
      simp
    · rw [show (n == m) = false by rw [beq_eq_false_iff_ne]; exact e]
      exact binds_look ((List.mem_cons.1 h).resolve_left e)

theorem binds_rise (g : Int → Option (List Int)) (p : List Int) : (bindsL g p).Pairwise (fun a b => a.1 < b.1) := by
  unfold bindsL
  rw [List.pairwise_map]
  exact sortI_rise (vars_once p)

/-- The binds of a match make the pattern the term. -/
theorem back_found {sig : List Sy} {g : Int → Option (List Int)} {p t : List Int} (hp : termE sig p = 0) (hg : Rt sig g) (hs : Sm g p t) : bindE sig (bindsL g p) = 0 ∧ laidL (bnd (bindsL g p)) p = t := by
  obtain ⟨hse, hrp⟩ := term_parts hp
  have hmem : ∀ n ∈ sortI (varsL p), 0 ≤ n ∧ n < 1048576 ∧ ∃ u, g n = some u := fun n hn => by
    rw [sortI_mem, mem_varsL] at hn
    obtain ⟨c, hc, h0, rfl⟩ := hn
    have := codes_of hrp hc
    exact ⟨by omega, by omega, Option.ne_none_iff_exists'.1 (hs.1 c hc h0)⟩
  constructor
  · unfold bindE
    rw [if_pos hse]
    refine bind_made sig _ none (fun b hb => ?_) (fun y hy => by cases hy) (binds_rise g p)
    unfold bindsL at hb
    obtain ⟨n, hn, rfl⟩ := List.mem_map.1 hb
    obtain ⟨h1, h2, u, hu⟩ := hmem n hn
    refine ⟨isVarB_iff.2 ⟨h1, h2⟩, ?_⟩
    unfold termE
    rw [if_pos hse, hu]
    exact hg n u hu
  · rw [← hs.2]
    refine laid_congr fun c hc => ?_
    unfold piece
    by_cases h0 : c < 0
    · rw [if_pos h0, if_pos h0]
      obtain ⟨u, hu⟩ := Option.ne_none_iff_exists'.1 (hs.1 c hc h0)
      have h1 : bnd (bindsL g p) (-1 - c) = some u := by
        unfold bnd
        rw [← look_rise (binds_rise g p)]
        unfold bindsL
        rw [binds_look (by rw [sortI_mem, mem_varsL]; exact ⟨c, hc, h0, rfl⟩), hu]
        rfl
      rw [h1, hu]
    · rw [if_neg h0, if_neg h0]

end Go.Proofs.YtfeeafkfjngemaaGreatDoor

/- Do as the document says it, plainly. -/
namespace Go.Proofs.YtfeeafkfjngemaaGreatDoor
open Go.RowKit Go.Maps Go.BigFrame

theorem nodes_end {sig : List Sy} {t : List Int} (ht : termE sig t = 0) {x y : Nat} (hv : VOk sig t (x, y)) : nodes sig t x = y - x := by
  have hx : x < t.length := by have := hv.1; have := hv.2.1; simp only at *; omega
  obtain ⟨k, m, hk, _, _, hn, hm, _⟩ := endP_ok (place_end ht hx)
  have h1 := part_sub ht hv
  rw [show ((x, y) : Nat × Nat).1 = x from rfl, sub_eq ht hx] at h1
  have h2 := congrArg List.length h1
  unfold partV at h2
  have h3 := hv.1
  have h4 := hv.2.1
  simp only [List.length_take, List.length_drop] at h2 h3 h4
  omega

theorem laid_row8 {sig : List Sy} {l r u : List Int} {f : Int → Option (List Int)} (ha : ArOk sig) (hr : termE sig r = 0) (hf : Rt sig f) (hs : Sm f l u) : rowE sig (laidL (bnd (bindsL f l)) r) = 0 := by
  refine row_laid ha (fun n u hu => ?_) (term_parts hr).2
  unfold bnd at hu
  have hm := List.mem_reverse.1 (lookup_mem hu)
  unfold bindsL at hm
  obtain ⟨k, hk, he⟩ := List.mem_map.1 hm
  simp only [Prod.mk.injEq] at he
  obtain ⟨rfl, rfl⟩ := he
  obtain ⟨c, hc, hc0, rfl⟩ := mem_varsL.1 ((sortI_mem _ _).1 hk)
  cases hfk : f (-1 - c) with
  | none => exact absurd hfk (hs.1 c hc hc0)
  | some v => exact hf _ v hfk

/-- What comes of a redex. -/
theorem doK_doc {sig : List Sy} {t l r : List Int} {x y : Nat} {f : Int → Option (List Int)} (ht : termE sig t = 0) (hv : VOk sig t (x, y)) (hl : termE sig l = 0) (hr : termE sig r = 0) (hf : Rt sig f) (hs : Sm f l (subL sig t (x : Int))) :
    doK sig t (x : Int) (l, r) = if 512 < x + (laidL (bnd (bindsL f l)) r).length + (t.length - y) then ([], 2) else (t.take x ++ (laidL (bnd (bindsL f l)) r ++ t.drop y), 0) := by
  have hx : x < t.length := by have := hv.1; have := hv.2.1; simp only at *; omega
  have hxy := hv.1
  have hyt := hv.2.1
  simp only at hxy hyt
  obtain ⟨hb, _⟩ := back_found hl hf hs
  have hrow := laid_row8 (sig_arOk (term_parts ht).1) hr hf hs
  obtain ⟨Q, hQ⟩ : ∃ Q, Q = laidL (bnd (bindsL f l)) r := ⟨_, rfl⟩
  have hE : applyE sig (bindsL f l) r = if 512 < Q.length then 2 else 0 := by
    unfold applyE
    rw [if_pos hb, if_pos hr, (lay_eq _ r).1, ← hQ]
  have hL : applyL sig (bindsL f l) r = if 512 < Q.length then [] else Q := by
    unfold applyL
    rw [if_pos hb, if_pos hr, (lay_eq _ r).2, ← hQ]
  have hn := nodes_end ht hv
  unfold doK
  simp only
  rw [hitB_true ⟨f, hf, hs⟩, if_pos rfl, hitBd_eq hf hs, hE, hL, ← hQ]
  rw [← hQ] at hrow
  by_cases h5 : 512 < Q.length
  · rw [if_pos h5, if_pos h5, if_neg (by decide), if_pos (by omega)]
  · rw [if_neg h5, if_neg h5, if_pos rfl]
    have hR : replE sig t (x : Int) Q = if 512 < x + Q.length + (t.length - y) then 2 else 0 := by
      unfold replE
      rw [if_pos ht, if_pos hrow, if_pos (place_in ht hx), Int.toNat_natCast, hn, show x + (y - x) = y by omega]
    by_cases h6 : 512 < x + Q.length + (t.length - y)
    · rw [if_pos h6] at hR ⊢
      rw [repl_none (by rw [hR]; decide), hR]
    · rw [if_neg h6] at hR ⊢
      unfold replL
      rw [if_pos hR, hR, Int.toNat_natCast, hn, show x + (y - x) = y by omega]

end Go.Proofs.YtfeeafkfjngemaaGreatDoor

/- What the document's Laid answers with another bound. -/
namespace Go.Proofs.YtfeeafkfjngemaaGreatDoor
open Go.RowKit Go.Maps Go.BigFrame

/-- Laid, as far as a bound. -/
def layM (m : Nat) (f : Int → Option (List Int)) : List Int → List Int → Option (List Int)
  | a, [] => some a
  | a, c :: r => if m < a.length + (piece f c).length then none else layM m f (a ++ piece f c) r

theorem layM_eq (m : Nat) (f : Int → Option (List Int)) : ∀ (t a : List Int), a.length ≤ m → layM m f a t = if m < (a ++ laidL f t).length then none else some (a ++ laidL f t)
  | [], a, ha => by
    have : laidL f [] = [] := rfl
    rw [this, List.append_nil, if_neg (by omega)]
    rfl
  | c :: t, a, ha => by
    have e : laidL f (c :: t) = piece f c ++ laidL f t := by
      unfold laidL
      rw [List.flatMap_cons]
    rw [layM, e]
    by_cases h : m < a.length + (piece f c).length
    · rw [if_pos h, if_pos (by simp; omega)]
    · rw [if_neg h, layM_eq m f t (a ++ piece f c) (by simp; omega), List.append_assoc]

set_option maxRecDepth 100000 in
set_option maxHeartbeats 1600000 in
theorem refLaidM_any (m : Nat) (hm : m ≤ 512) (bv v : Value) (s : List Bd) (t : List Int) (w : World) (hB : Bs w bv s) (h : Is w v t) (_hb : t.length * 8 ≤ 140737488351232) :
    Calls Tryz.prog 32 #[bv, v, .int .i64 (m : Int)] w fun e w' => ∃ v', e = .returned (.tuple #[v', .bool (layM m (fun n => s.lookup n) [] t).isSome]) ∧ OwI w' w.heap.size v' ((layM m (fun n => s.lookup n) [] t).getD []) ∧ Below w.heap.size w w' := by
  obtain ⟨ao, cap, rfl, hao, hca, q0⟩ := Row.flat h
  unfold maxLen at hca
  have HT := hid h
  have HBs := hid hB
  clear h q0 hB
  go_enter Tryz.func32, Tryz.ntmps32
  go_wp2
  go_loopw [8, 9] (fun x i wr => ∃ (k : Nat) (o : List Int), k ≤ t.length ∧ i = .int .i64 k ∧ layM m (fun n => s.lookup n) [] t = layM m (fun n => s.lookup n) o (t.drop k) ∧ o.length ≤ m ∧ OwI wr w.heap.size x o ∧ Below w.heap.size w wr) (fun _ i _ => t.length - (intOf i).toNat)
  case atStart => exact ⟨0, [], Nat.zero_le _, rfl, rfl, by simp, ⟨fun k x hk => (by simp at hk), empty_row _ (Nat.le_refl _)⟩, below_alloc _⟩
  case round =>
    obtain ⟨k, o, hk, rfl, hgo, hol, how, hbl⟩ := hrel
    obtain ⟨bo, bc, rfl, hbc1, hbc2⟩ := how.shape
    unfold maxLen at hbc2
    have HGo := hid hgo
    have HOw := hid how
    have HB := hid hbl
    clear hgo how
    by_cases hlt : k < t.length
    · obtain ⟨ga, off, c, rfl, hx1, hx2, hx3, hx4⟩ := (HT.out.kp (Kp.of_below hbl)).at hlt
      have HDr : Hid (t.drop k = c :: t.drop (k + 1)) := drop_get hx1
      have HOne := hid (one_row hx2 hx3 hx4 (show 1 ≤ cap - k by omega) (show cap - k ≤ maxLen by unfold maxLen; omega))
      clear hx1 hbl
      by_cases hc0 : c < 0
      · have hwn : IntKind.i64.wrap (-1 - c) = -1 - c := IntWalk.i64_in _ ⟨by omega, by omega⟩
        go_wp2_with fail
        refine (refBound_any bv s (-1 - c) wr (HBs.out.kp (Kp.of_below HB.out))).mono ?_
        rintro e w2 ⟨u, rfl, hu, hw⟩
        have hw8 := hw.symm
        subst hw8
        clear hw
        have HU := hid hu
        clear hu
        cases hlk : s.lookup (-1 - c) with
        | none =>
        have HPi : Hid (piece (fun n => s.lookup n) c = [c]) := by show (if c < 0 then (s.lookup (-1 - c)).getD [c] else [c]) = _; rw [if_pos hc0, hlk]; rfl
        by_cases hbig : m < o.length + 1
        · have HE : Hid (layM m (fun n => s.lookup n) [] t = none) := by show _ = _; rw [HGo.out, HDr.out, layM, HPi.out, if_pos (by simp; omega)]
          have hbg : (m : Int) - (o.length : Int) < (1 : Int) := by omega
          have hbw : IntKind.i64.wrap ((m : Int) - (o.length : Int)) = (m : Int) - (o.length : Int) := IntWalk.i64_in _ ⟨by omega, by omega⟩
          go_wp2
          go_ret2
          exact ⟨_, by rw [HE.out]; rfl, by rw [HE.out]; exact nilI _ _, HB.out⟩
        · have hbg : ¬ (m : Int) - (o.length : Int) < (1 : Int) := by omega
          have hbw : IntKind.i64.wrap ((m : Int) - (o.length : Int)) = (m : Int) - (o.length : Int) := IntWalk.i64_in _ ⟨by omega, by omega⟩
          have HE : Hid (layM m (fun n => s.lookup n) [] t = layM m (fun n => s.lookup n) (o ++ [c]) (t.drop (k + 1))) := by show _ = _; rw [HGo.out, HDr.out, layM, HPi.out, if_neg (by simp; omega)]
          obtain ⟨v4, w4, hr4, ho4, hg4⟩ := join_ints 26 HOw.out HOne.out HB.out.size (by simp; omega)
          have HR4 := hid hr4
          have HO4 := hid ho4
          have HOl : Hid ((o ++ [c]).length ≤ m) := by show _ ≤ _; rw [List.length_append]; simp; omega
          have HB4 : Hid (Below w.heap.size w w4) := HB.out.grown hg4 HB.out.size (fun j hj => own_blk HOw.out.2 hj)
          clear hr4 ho4 hg4
          go_wp2_with (first
            | (at_builtin; refine wpList_append_run rfl _ _ _ rfl _ _ rfl rfl HR4.out ?_))
          go_roundw
          case rel => exact ⟨k + 1, o ++ [c], by omega, by go_num, HE.out, HOl.out, HO4.out, HB4.out⟩
          case measure => simp [intOf]; omega
        | some y =>
        have HPi : Hid (piece (fun n => s.lookup n) c = y) := by show (if c < 0 then (s.lookup (-1 - c)).getD [c] else [c]) = _; rw [if_pos hc0, hlk]; rfl
        obtain ⟨hy1, hy2⟩ := HU.out y hlk
        obtain ⟨ya, yc, rfl, hyc1, hyc2, _⟩ := Row.flat hy1
        unfold maxLen at hyc2
        have HIy := hid hy1
        clear hy1 hlk
        by_cases hbig : m < o.length + y.length
        · have HE : Hid (layM m (fun n => s.lookup n) [] t = none) := by show _ = _; rw [HGo.out, HDr.out, layM, HPi.out, if_pos (by omega)]
          have hbg : (m : Int) - (o.length : Int) < (y.length : Int) := by omega
          have hbw : IntKind.i64.wrap ((m : Int) - (o.length : Int)) = (m : Int) - (o.length : Int) := IntWalk.i64_in _ ⟨by omega, by omega⟩
          go_wp2
          go_ret2
          exact ⟨_, by rw [HE.out]; rfl, by rw [HE.out]; exact nilI _ _, HB.out⟩
        · have hbg : ¬ (m : Int) - (o.length : Int) < (y.length : Int) := by omega
          have hbw : IntKind.i64.wrap ((m : Int) - (o.length : Int)) = (m : Int) - (o.length : Int) := IntWalk.i64_in _ ⟨by omega, by omega⟩
          have HE : Hid (layM m (fun n => s.lookup n) [] t = layM m (fun n => s.lookup n) (o ++ y) (t.drop (k + 1))) := by show _ = _; rw [HGo.out, HDr.out, layM, HPi.out, if_neg (by omega)]
          obtain ⟨v4, w4, hr4, ho4, hg4⟩ := join_ints 26 HOw.out HIy.out HB.out.size (by omega)
          have HR4 := hid hr4
          have HO4 := hid ho4
          have HOl : Hid ((o ++ y).length ≤ m) := by show _ ≤ _; rw [List.length_append]; omega
          have HB4 : Hid (Below w.heap.size w w4) := HB.out.grown hg4 HB.out.size (fun j hj => own_blk HOw.out.2 hj)
          clear hr4 ho4 hg4
          go_wp2_with (first
            | (at_builtin; refine wpList_append_run rfl _ _ _ rfl _ _ rfl rfl HR4.out ?_))
          go_roundw
          case rel => exact ⟨k + 1, o ++ y, by omega, by go_num, HE.out, HOl.out, HO4.out, HB4.out⟩
          case measure => simp [intOf]; omega
      · have HPi : Hid (piece (fun n => s.lookup n) c = [c]) := by show _ = _; unfold piece; rw [if_neg hc0]
        by_cases hbig : m < o.length + 1
        · have HE : Hid (layM m (fun n => s.lookup n) [] t = none) := by show _ = _; rw [HGo.out, HDr.out, layM, HPi.out, if_pos (by simp; omega)]
          have hbg : (m : Int) - (o.length : Int) < (1 : Int) := by omega
          have hbw : IntKind.i64.wrap ((m : Int) - (o.length : Int)) = (m : Int) - (o.length : Int) := IntWalk.i64_in _ ⟨by omega, by omega⟩
          go_wp2
          go_ret2
          exact ⟨_, by rw [HE.out]; rfl, by rw [HE.out]; exact nilI _ _, HB.out⟩
        · have hbg : ¬ (m : Int) - (o.length : Int) < (1 : Int) := by omega
          have hbw : IntKind.i64.wrap ((m : Int) - (o.length : Int)) = (m : Int) - (o.length : Int) := IntWalk.i64_in _ ⟨by omega, by omega⟩
          have HE : Hid (layM m (fun n => s.lookup n) [] t = layM m (fun n => s.lookup n) (o ++ [c]) (t.drop (k + 1))) := by show _ = _; rw [HGo.out, HDr.out, layM, HPi.out, if_neg (by simp; omega)]
          obtain ⟨v4, w4, hr4, ho4, hg4⟩ := join_ints 26 HOw.out HOne.out HB.out.size (by simp; omega)
          have HR4 := hid hr4
          have HO4 := hid ho4
          have HOl : Hid ((o ++ [c]).length ≤ m) := by show _ ≤ _; rw [List.length_append]; simp; omega
          have HB4 : Hid (Below w.heap.size w w4) := HB.out.grown hg4 HB.out.size (fun j hj => own_blk HOw.out.2 hj)
          clear hr4 ho4 hg4
          go_wp2_with (first
            | (at_builtin; refine wpList_append_run rfl _ _ _ rfl _ _ rfl rfl HR4.out ?_))
          go_roundw
          case rel => exact ⟨k + 1, o ++ [c], by omega, by go_num, HE.out, HOl.out, HO4.out, HB4.out⟩
          case measure => simp [intOf]; omega
    · have HE : Hid (layM m (fun n => s.lookup n) [] t = some o) := by show _ = _; rw [HGo.out, List.drop_of_length_le (by omega)]; rfl
      go_wp2
      go_ret2
      exact ⟨_, by rw [HE.out]; rfl, by rw [HE.out]; exact HOw.out, HB.out⟩

end Go.Proofs.YtfeeafkfjngemaaGreatDoor

/- The document's Do of layer 8 walked. -/
namespace Go.Proofs.YtfeeafkfjngemaaGreatDoor
open Go.RowKit Go.Maps Go.BigFrame

theorem binds_look8 (f : Int → Option (List Int)) (l : List Int) (n : Int) : (bindsL f l).lookup n = bnd (bindsL f l) n := by
  unfold bnd
  refine look_rise ?_ n
  unfold bindsL
  exact List.Pairwise.map _ (fun a b h => h) (sortI_rise (vars_once l))

/-- The rest of a row, as a slice. -/
theorem is_tail {w : World} {g o y c : Nat} {t : List Int} (h : Is w (.slice (some ⟨g, o, none⟩) t.length c) t) (hy : y ≤ t.length) (hc : t.length ≤ c) : Is w (.slice (if c = y then some ⟨g, o, none⟩ else some ⟨g, o + y, none⟩) (t.length - y) (c - y)) (t.drop y) := by
  by_cases h1 : y < t.length
  · rw [if_neg (by omega)]
    have h9 := h.mid (k := y) (m := t.length - y) h1 (by omega)
    rw [List.take_of_length_le (by rw [List.length_drop]; exact Nat.le_refl _)] at h9
    exact h9
  · have e : t.drop y = [] := List.drop_of_length_le (by omega)
    rw [e, show t.length - y = 0 by omega]
    obtain ⟨_, _, hv, _, hm, _⟩ := h
    simp only [Value.slice.injEq] at hv
    exact Row.nil (by have := hv.2.2; omega)

theorem place_out {sig : List Sy} {t : List Int} {p : Int} (ht : termE sig t = 0) (h : p < 0 ∨ (t.length : Int) ≤ p) : placeE sig t p = 33 := by
  unfold placeE endP
  rw [if_pos ht, if_pos h]

set_option maxRecDepth 100000 in
set_option maxHeartbeats 3200000 in
theorem refDo8_any (sv rv tv : Value) (sig : List Sy) (rs : List Rl) (t : List Int) (p k : Int) (w : World) (hs : Sg w sv sig) (hr : RU w rv rs) (ht : Is w tv t) (htl : t.length ≤ 1048576) (hp1 : -9223372036854775808 ≤ p) (hp2 : p ≤ 9223372036854775807) (hk1 : -9223372036854775808 ≤ k) (hk2 : k ≤ 9223372036854775807) :
    Calls Tryz.prog 13 #[.agg #[sv, rv], tv, .agg #[.int .i64 p, .int .i64 k]] w fun e w' => ∃ v', e = .returned (.tuple #[v', .int .i64 (doR sig rs t p k).2]) ∧ OwI w' w.heap.size v' (doR sig rs t p k).1 ∧ Below w.heap.size w w' := by
  obtain ⟨so, sc, rfl, hso, hsc, _⟩ := Row.flat hs
  obtain ⟨ro, rc, rfl, hro, hrc, _⟩ := Row.flat hr
  obtain ⟨to2, tc, rfl, hto, htc, _⟩ := ht.flatI
  unfold maxLen at hrc
  have HS := hid hs
  have HR := hid hr
  have HTt := hid ht
  clear hs hr ht
  obtain ⟨w0, hw0⟩ : ∃ X, X = (w.alloc (.cells #[.slice so sig.length sc, .slice ro rs.length rc] 25)).alloc (.cells #[.int .i64 p, .int .i64 k] 33) := ⟨_, rfl⟩
  have C0 : Hid (Below w.heap.size w w0) := by rw [hw0]; exact below_step (below_alloc _) (below_alloc _)
  have HC : Hid (∀ W, Below w0.heap.size w0 W → (W.cell? ⟨w.heap.size, 0, none⟩ = some (.slice so sig.length sc) ∧ W.cell? ⟨w.heap.size, 1, none⟩ = some (.slice ro rs.length rc)) ∧ W.cell? ⟨w.heap.size + 1, 0, none⟩ = some (.int .i64 p) ∧ W.cell? ⟨w.heap.size + 1, 1, none⟩ = some (.int .i64 k)) := fun W hW => by
    have hk := Kp.of_below hW
    rw [hw0] at hk
    have e9 : w.heap.size + 1 = (w.alloc (.cells #[.slice so sig.length sc, .slice ro rs.length rc] 25)).heap.size := (World.size_alloc _ _).symm
    rw [e9]
    exact ⟨⟨hk.cell _ _ (cell_old (cell_new rfl)), hk.cell _ _ (cell_old (cell_new rfl))⟩, hk.cell _ _ (cell_new rfl), hk.cell _ _ (cell_new rfl)⟩
  obtain ⟨R, hR⟩ : ∃ R, R = doR sig rs t p k := ⟨_, rfl⟩
  rw [← hR]
  have HD := hid hR
  clear hR
  obtain ⟨RM, RB⟩ := R
  unfold doR at HD
  go_enter Tryz.func13, Tryz.ntmps13
  go_wp2_with fail
  rw [← hw0]
  clear hw0
  refine (refRight8_any _ _ _ sig rs t w0 (HS.out.kp (Kp.of_below C0.out)) (HR.out.kp (Kp.of_below C0.out)) (HTt.out.kp (Kp.of_below C0.out)) (by omega)).mono ?_
  rintro e w1 ⟨rfl, hb1⟩
  have C1 := hid (below_step C0.out hb1)
  have D1 := hid hb1
  clear hb1
  by_cases he : stepE sig rs t = 0
  · obtain ⟨hok, hte⟩ := stepE_zero he
    rw [he]
    rw [if_pos he] at HD
    have HOk := hid (sys_right hok).2
    have HTe := hid hte
    have HAr := hid (sig_arOk (term_parts hte).1)
    clear he hok
    obtain ⟨⟨x0, x1⟩, y0, y1⟩ := HC.out w1 D1.out
    by_cases hpl : p < 0 ∨ (t.length : Int) ≤ p
    · rw [place_out hte hpl, if_neg (by decide)] at HD
      by_cases hp0 : p < 0
      · have hd0 : decide (p < 0) = true := by simpa using hp0
        go_wp2
        go_ret2
        obtain ⟨q1, q2⟩ := do_ret HD.out (nil_own _ _)
        exact ⟨_, q1, q2, C1.out⟩
      · have hd0 : decide (p < 0) = false := by simpa using hp0
        have hd1 : decide (p ≥ (t.length : Int)) = true := by simpa using (show p ≥ (t.length : Int) by omega)
        go_wp2
        go_ret2
        obtain ⟨q1, q2⟩ := do_ret HD.out (nil_own _ _)
        exact ⟨_, q1, q2, C1.out⟩
    · obtain ⟨x, rfl⟩ : ∃ x : Nat, p = (x : Int) := ⟨p.toNat, by omega⟩
      have hx : x < t.length := by omega
      rw [if_pos (place_in hte hx)] at HD
      have hd0 : decide ((x : Int) < 0) = false := by simp
      have hd1 : decide ((x : Int) ≥ (t.length : Int)) = false := by simpa using (show ¬ ((x : Int) ≥ (t.length : Int)) by omega)
      by_cases hk0 : k < 0
      · have hd2 : decide (k < 0) = true := by simpa using hk0
        rw [if_pos hk0] at HD
        go_wp2
        go_ret2
        obtain ⟨q1, q2⟩ := do_ret HD.out (nil_own _ _)
        exact ⟨_, q1, q2, C1.out⟩
      · have hd2 : decide (k < 0) = false := by simpa using hk0
        rw [if_neg hk0] at HD
        obtain ⟨K, rfl⟩ : ∃ K : Nat, k = (K : Int) := ⟨k.toNat, by omega⟩
        rw [Int.toNat_natCast] at HD
        by_cases hkl : K < rs.length
        · have hd3 : decide ((K : Int) ≥ (rs.length : Int)) = false := by simpa using (show ¬ (K : Int) ≥ (rs.length : Int) by omega)
          obtain ⟨⟨l, r⟩, hm⟩ : ∃ q, rs[K]? = some q := ⟨_, List.getElem?_eq_getElem hkl⟩
          rw [hm] at HD
          simp only at HD
          have hrp := rule_parts (HOk.out _ (List.mem_of_getElem? hm))
          have HRp := hid hrp
          have HM := hid hm
          obtain ⟨y, hv⟩ := place_end8 hte hx
          have HV := hid hv
          have hxy := hv.1
          have hyt := hv.2.1
          simp only at hxy hyt
          have HPs : Hid (partV t (x, y) = subL sig t (x : Int)) := part_sub hte hv
          clear hm hrp hv hte hpl
          go_wp2_with fail
          refine (refEnd8_any _ _ sig t x y w1 (HS.out.kp (Kp.of_below C1.out)) (HTt.out.kp (Kp.of_below C1.out)) HAr.out HV.out htl).mono ?_
          rintro e w2 ⟨rfl, hw2⟩
          have hw8 := hw2.symm
          subst hw8
          clear hw2
          go_wp2_with fail
          refine (refMatched_any _ _ _ sig rs t x y K l r w1 (HS.out.kp (Kp.of_below C1.out)) (HR.out.kp (Kp.of_below C1.out)) (HTt.out.kp (Kp.of_below C1.out)) HAr.out HV.out HM.out (term_parts HRp.out.1).2 HRp.out.2.2.1 htl).mono ?_
          rintro e w3 ⟨hb3, hres⟩
          have C3 := hid (below_step C1.out hb3)
          have D3 := hid (below_step D1.out hb3)
          clear hb3 x0 x1 y0 y1
          rcases hres with ⟨rfl, hno⟩ | ⟨v3, f, rfl, hyes, hf, hsm, hob⟩
          · have HD2 : Hid ((RM, RB) = (([] : List Int), (80 : Int))) := by
              show _ = _
              rw [HD.out]
              unfold doK
              simp only
              rw [← HPs.out, hno, if_neg (by simp)]
            clear hno
            go_wp2
            go_ret2
            obtain ⟨q1, q2⟩ := do_ret HD2.out (nil_own _ _)
            exact ⟨_, q1, q2, C3.out⟩
          · have hsm2 := hsm
            rw [HPs.out] at hsm2
            have HD2 := hid (HD.out.trans (doK_doc HTe.out HV.out HRp.out.1 HRp.out.2.1 hf hsm2))
            obtain ⟨Q, hQ⟩ : ∃ Q, Q = laidL (bnd (bindsL f l)) r := ⟨_, rfl⟩
            rw [← hQ] at HD2
            have hQ0 : 0 < Q.length := by rw [hQ]; exact row_posS (laid_row8 HAr.out HRp.out.2.1 hf hsm2)
            have HOb := hid hob.bs
            have HQ := hid hQ
            clear hob hyes hQ hsm2
            obtain ⟨⟨x0, x1⟩, y0, y1⟩ := HC.out w3 D3.out
            obtain ⟨g, off, l9, r9, a1, c1, a2, c2, rfl, hm9, e0, e1, _, hi2, _, hl2⟩ := (HR.out.kp (Kp.of_below C3.out)).at hkl
            rw [HM.out] at hm9
            cases hm9
            have HI2 := hid hi2
            have HLm : Hid (∀ m : Nat, m ≤ 512 → Calls Tryz.prog 32 #[v3, .slice a2 r.length c2, .int .i64 (m : Int)] w3 fun e w' => ∃ v', e = .returned (.tuple #[v', .bool (decide (Q.length ≤ m))]) ∧ OwI w' w3.heap.size v' (if Q.length ≤ m then Q else []) ∧ Below w3.heap.size w3 w') := fun m hm => by
              refine (refLaidM_any m hm v3 _ (bindsL f l) r w3 HOb.out HI2.out hl2).mono ?_
              rintro e w' ⟨v', he, ho, hb⟩
              have e9 : layM m (fun n => (bindsL f l).lookup n) [] r = if m < Q.length then none else some Q := by
                rw [layM_eq m _ r [] (Nat.zero_le _), List.nil_append, show (fun n => (bindsL f l).lookup n) = bnd (bindsL f l) from funext (binds_look8 f l), ← HQ.out]
              rw [e9] at he ho
              by_cases h9 : m < Q.length
              · rw [if_pos h9] at he ho
                exact ⟨v', by rw [he, decide_eq_false (by omega)]; rfl, by rw [if_neg (by omega)]; exact ho, hb⟩
              · rw [if_neg h9] at he ho
                exact ⟨v', by rw [he, decide_eq_true (by omega)]; rfl, by rw [if_pos (by omega)]; exact ho, hb⟩
            have hw1 : IntKind.i64.wrap (512 - (x : Int)) = 512 - (x : Int) := IntWalk.i64_in _ ⟨by omega, by omega⟩
            have hw2 : IntKind.i64.wrap ((t.length : Int) - (y : Int)) = (t.length : Int) - (y : Int) := IntWalk.i64_in _ ⟨by omega, by omega⟩
            obtain ⟨ro2, hro2⟩ : ∃ z : Int, z = 512 - (x : Int) - ((t.length : Int) - (y : Int)) := ⟨_, rfl⟩
            have hw3 : IntKind.i64.wrap (512 - (x : Int) - ((t.length : Int) - (y : Int))) = ro2 := by rw [hro2]; exact IntWalk.i64_in _ ⟨by omega, by omega⟩
            have HRo := hid hro2
            clear hi2 hf hsm hro2 e0
            by_cases hneg : ro2 < 0
            · have hmx : max 0 ro2 = 0 := by omega
              have HD3 : Hid ((RM, RB) = (([] : List Int), (2 : Int))) := by
                show _ = _
                rw [HD2.out, if_pos (by have := HRo.out; omega)]
              have HL0 := hid (HLm.out 0 (by omega))
              rw [decide_eq_false (by omega)] at HL0
              go_wp2_with fail
              refine HL0.out.mono ?_
              rintro e w4 ⟨v4, rfl, _, hb4⟩
              have C4 := hid (below_step C3.out hb4)
              clear hb4 HL0 HLm
              go_wp2
              go_ret2
              obtain ⟨q1, q2⟩ := do_ret HD3.out (nil_own _ _)
              exact ⟨_, q1, q2, C4.out⟩
            · obtain ⟨m, rfl⟩ : ∃ m : Nat, ro2 = (m : Int) := ⟨ro2.toNat, by omega⟩
              have hm5 : m ≤ 512 := by have := HRo.out; omega
              have HLq := hid (HLm.out m hm5)
              have hsum : x + (t.length - y) + m = 512 := by have := HRo.out; omega
              have hmx : max 0 (m : Int) = (m : Int) := by omega
              by_cases hle : Q.length ≤ m
              · have HD3 : Hid ((RM, RB) = (t.take x ++ (Q ++ t.drop y), (0 : Int))) := by
                  show _ = _
                  rw [HD2.out, if_neg (by omega)]
                rw [decide_eq_true hle, if_pos hle] at HLq
                obtain ⟨gt, ot, _, rfl, _⟩ := HTt.out.at hx
                go_wp2_with fail
                refine HLq.out.mono ?_
                rintro e w4 ⟨v4, rfl, ho4, hb4⟩
                have C4 := hid (below_step C3.out hb4)
                have D4 := hid (below_step D3.out hb4)
                obtain ⟨a4, c4, hv4, _⟩ := ho4.shape
                subst hv4
                have HO4 := hid ho4
                clear ho4 hb4 HLq HLm x0 x1 y0 y1 e1
                obtain ⟨⟨x0, x1⟩, y0, y1⟩ := HC.out w4 D4.out
                have hgt : decide ((Q.length : Int) > (m : Int)) = false := by simpa using (show ¬ (Q.length : Int) > (m : Int) by omega)
                have hnq : ¬ m < Q.length := by omega
                have htk := HTt.out.kp (Kp.of_below C4.out)
                have hpre : Is w4 (.slice (some ⟨gt, ot, none⟩) x tc) (t.take x) := by
                  have h9 := htk.mid (k := 0) (m := x) (by omega) (by omega)
                  simpa using h9
                obtain ⟨v5, w5, hr5, ho5, hg5⟩ := join_ints 26 (xs := []) ⟨fun k x hk => (by simp at hk), empty_row 3 (Nat.le_refl w4.heap.size)⟩ (hpre.kp (Kp.of_below (below_alloc (w := w4) (.cells #[] 3)))) (by simp) (by simp; omega)
                rw [List.nil_append] at ho5
                have hb5 : Below w4.heap.size w4 w5 := (below_alloc _).grown hg5 (by simp) (fun j hj => by cases hj; exact Nat.le_refl _)
                obtain ⟨v6, w6, hr6, ho6, hg6⟩ := join_ints 26 ho5 (HO4.out.is.kp (Kp.of_below hb5)) hb5.size (by simp; omega)
                have hb6 : Below w4.heap.size w4 w6 := hb5.grown hg6 hb5.size (fun j hj => own_blk ho5.2 hj)
                obtain ⟨v7, w7, hr7, ho7, hg7⟩ := join_ints 26 ho6 (is_tail (htk.kp (Kp.of_below hb6)) hyt hto) hb6.size (by simp; omega)
                have hb7 : Below w4.heap.size w4 w7 := hb6.grown hg7 hb6.size (fun j hj => own_blk ho6.2 hj)
                have HR5 := hid hr5
                have HR6 := hid hr6
                have HR7 := hid hr7
                have C7 := hid (below_step C4.out hb7)
                have HO7 : Hid (OwI w7 w.heap.size v7 (t.take x ++ (Q ++ t.drop y))) := by
                  have h9 := ho7.mono C4.out.size
                  rw [List.append_assoc] at h9
                  exact h9
                have hxt : x ≤ tc := by omega
                clear hr5 hr6 hr7 ho5 ho6 ho7 hg5 hg6 hg7 hb5 hb6 hb7 htk hpre
                have y0' := cell_old (o := .cells #[] 3) y0
                go_wp2_with (first
                  | (at_builtin; refine wpList_append_run rfl _ _ _ rfl _ _ rfl rfl HR5.out ?_)
                  | (at_builtin; refine wpList_append_run rfl _ _ _ rfl _ _ rfl rfl HR6.out ?_)
                  | (at_builtin; refine wpList_append_run rfl _ _ _ rfl _ _ rfl rfl HR7.out ?_))
                all_goals (
                  go_ret2
                  obtain ⟨q1, q2⟩ := do_ret HD3.out HO7.out
                  exact ⟨_, q1, q2, C7.out⟩)
              · have HD3 : Hid ((RM, RB) = (([] : List Int), (2 : Int))) := by
                  show _ = _
                  rw [HD2.out, if_pos (by omega)]
                rw [decide_eq_false hle] at HLq
                go_wp2_with fail
                refine HLq.out.mono ?_
                rintro e w4 ⟨v4, rfl, _, hb4⟩
                have C4 := hid (below_step C3.out hb4)
                clear hb4 HLq HLm
                go_wp2
                go_ret2
                obtain ⟨q1, q2⟩ := do_ret HD3.out (nil_own _ _)
                exact ⟨_, q1, q2, C4.out⟩
        · have hd3 : decide ((K : Int) ≥ (rs.length : Int)) = true := by simpa using (show (K : Int) ≥ (rs.length : Int) by omega)
          rw [List.getElem?_eq_none (by omega)] at HD
          simp only at HD
          clear hte hpl
          go_wp2
          go_ret2
          obtain ⟨q1, q2⟩ := do_ret HD.out (nil_own _ _)
          exact ⟨_, q1, q2, C1.out⟩
  · rw [if_neg he] at HD
    generalize stepE sig rs t = Z at he HD ⊢
    have hne : (Z != 0) = true := by rw [bne_iff_ne]; exact he
    clear he
    go_wp2
    go_ret2
    obtain ⟨q1, q2⟩ := do_ret HD.out (nil_own _ _)
    exact ⟨_, q1, q2, C1.out⟩

end Go.Proofs.YtfeeafkfjngemaaGreatDoor
