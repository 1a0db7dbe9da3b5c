/- Texts of the proof, one behind the other. -/
import Derived.Test.YtfeeafkfjngemaaGreatDoorOwn17
import Derived.Test.YtfeeafkfjngemaaGreatDoorOwn16
import Derived.Test.YtfeeafkfjngemaaGreatDoorOwn20
import Derived.Test.YtfeeafkfjngemaaGreatDoorOwn18
import Derived.Test.YtfeeafkfjngemaaGreatDoorOwn1
import Derived.Test.YtfeeafkfjngemaaGreatDoorOwn3
/- The document's right, end, matched and All of layer 8 walked. -/
namespace Go.Proofs.YtfeeafkfjngemaaGreatDoor
open Go.RowKit Go.Maps Go.BigFrame

set_option maxRecDepth 100000 in
set_option maxHeartbeats 800000 in
theorem refRight8_any (sv rv tv : Value) (sig : List Sy) (rs : List Rl) (t : List Int) (w : World) (hs : Sg w sv sig) (hr : RU w rv rs) (ht : Is w tv t) (h1 : t.length * 8 ≤ 140737488351232) :
    Calls Tryz.prog 28 #[.agg #[sv, rv], tv] w fun e w' => e = .returned (.int .i64 (stepE sig rs t)) ∧ Below w.heap.size w w' := by
  obtain ⟨so, sc, rfl, hso, hsc, _⟩ := Row.flat hs
  obtain ⟨ro, rc, rfl, hro, hrc, _⟩ := Row.flat hr
  have HS := hid hs
  have HR := hid hr
  have HTt := hid ht
  clear hs hr ht
  obtain ⟨w0, hw0⟩ : ∃ X, X = w.alloc (.cells #[.slice so sig.length sc, .slice ro rs.length rc] 25) := ⟨_, rfl⟩
  have C0 : Hid (Below w.heap.size w w0) := by rw [hw0]; exact below_alloc _
  have HC : Hid (∀ W, Below w0.heap.size w0 W → W.cell? ⟨w.heap.size, 0, none⟩ = some (.slice so sig.length sc)) := fun W hW => by
    have hk := Kp.of_below hW
    rw [hw0] at hk
    exact hk.cell _ _ (cell_new rfl)
  go_enter Tryz.func28, Tryz.ntmps28
  go_wp2_with fail
  rw [← hw0]
  clear hw0
  refine (refSysCheck_any _ _ sig rs w0 (HS.out.kp (Kp.of_below C0.out)) (HR.out.kp (Kp.of_below C0.out))).mono ?_
  rintro e w1 ⟨rfl, hb1⟩
  have C1 := hid (below_step C0.out hb1)
  have x0 := HC.out w1 hb1
  clear hb1
  by_cases h0 : (sysE sig rs).1 = 0
  · have hok : sysB sig rs = true := by unfold sysB; exact decide_eq_true h0
    have hse := (ahead_parts (sys_right hok).1).1
    have HF : Hid (stepE sig rs t = rowE sig t) := by show _ = _; unfold stepE termE; rw [if_pos h0, if_pos hse]
    have HA := hid (sig_arOk hse)
    obtain ⟨E, hE⟩ : ∃ E, E = sysE sig rs := ⟨_, rfl⟩
    rw [← hE] at h0 ⊢
    clear hE hok hse
    obtain ⟨E1, E2⟩ := E
    simp only at h0
    subst h0
    go_wp2_with fail
    refine (refTerm_any _ _ sig t w1 (HS.out.kp (Kp.of_below C1.out)) (HTt.out.kp (Kp.of_below C1.out)) HA.out h1).mono ?_
    rintro e w2 ⟨rfl, hw2⟩
    have hw8 := hw2.symm
    subst hw8
    clear hw2 x0
    generalize rowE sig t = Z at HF ⊢
    go_wp2
    go_ret
    exact ⟨ret1i HF.out.symm, C1.out⟩
  · have HF : Hid (stepE sig rs t = (sysE sig rs).1) := by show _ = _; unfold stepE; rw [if_neg h0]
    obtain ⟨E, hE⟩ : ∃ E, E = sysE sig rs := ⟨_, rfl⟩
    rw [← hE] at h0 HF ⊢
    clear hE
    obtain ⟨E1, E2⟩ := E
    have hne : (E1 != 0) = true := by rw [bne_iff_ne]; exact h0
    clear h0
    go_wp2
    go_ret
    exact ⟨ret1i HF.out.symm, C1.out⟩

/-- Each place has its end. -/
theorem place_end8 {sig : List Sy} {t : List Int} (ht : termE sig t = 0) {x : Nat} (hx : x < t.length) : ∃ y, VOk sig t (x, y) := by
  obtain ⟨vs, hpv⟩ := pv_any (sig_arOk (term_parts ht).1) t.length t 0 (Nat.le_refl _) (term_parts ht).2
  have hm : x ∈ vs.map Prod.fst := (pv_perm hpv).symm.subset (by rw [List.mem_range'_1]; omega)
  obtain ⟨v, hv, rfl⟩ := List.mem_map.1 hm
  exact ⟨v.2, pv_ok hpv t [] [] (by simp) rfl v hv⟩

set_option maxRecDepth 100000 in
set_option maxHeartbeats 800000 in
theorem refEnd8_any (sv tv : Value) (sig : List Sy) (t : List Int) (x y : Nat) (w : World) (hs : Sg w sv sig) (ht : Is w tv t) (ha : ArOk sig) (hv : VOk sig t (x, y)) (htl : t.length ≤ 1048576) :
    Calls Tryz.prog 29 #[sv, tv, .int .i64 (x : Int)] w fun e w' => e = .returned (.int .i64 (y : Int)) ∧ w' = w := by
  obtain ⟨so, sc, rfl, hso, hsc, _⟩ := Row.flat hs
  obtain ⟨to2, tc, rfl, hto, htc, _⟩ := ht.flatI
  unfold maxLen at hsc
  obtain ⟨h1, h2, h3⟩ := hv
  simp only at h1 h2 h3
  obtain ⟨u, hu⟩ : ∃ u, u = (t.drop x).take (y - x) := ⟨_, rfl⟩
  have hul : u.length = y - x := by rw [hu, List.length_take, List.length_drop]; omega
  rw [← hu] at h3
  have hf : firstT sig 1 0 u = ((u.length : Int), 0) := by have h9 := first_right h3 []; rw [List.append_nil] at h9; exact h9
  have HGt : Hid (∀ k, k < u.length → t[x + k]? = u[k]?) := fun k hk => by rw [hu, List.getElem?_take_of_lt (by omega), List.getElem?_drop]
  have HS := hid hs
  have HTt := hid ht
  have HF := hid hf
  have HU := hid hul
  have HA := hid ha
  clear hs ht hf hu hul h3 ha
  go_enter Tryz.func29, Tryz.ntmps29
  go_wp2
  go_loopw [2, 7] (fun av mv wr => ∃ (k m : Nat), k ≤ u.length ∧ av = .int .i64 ((x + k : Nat) : Int) ∧ mv = .int .i64 m ∧ m ≤ 1 + 1000 * k ∧ (0 < m → firstT sig (m : Int) k (u.drop k) = ((u.length : Int), 0)) ∧ (m = 0 → k = u.length) ∧ wr = w) (fun av _ _ => y - (intOf av).toNat)
  case atStart => exact ⟨0, 1, Nat.zero_le _, by simp, rfl, by omega, fun _ => by simpa using HF.out, fun h => by omega, rfl⟩
  case round =>
    obtain ⟨k, m, hk, rfl, rfl, hm, hfm, hm0, hw⟩ := hrel
    have hw8 := hw.symm
    subst hw8
    have HFm := hid hfm
    have HM0 := hid hm0
    clear hw hfm hm0
    by_cases hpos : 0 < m
    · have hd : decide ((m : Int) > 0) = true := by simpa using hpos
      have hfk := HFm.out hpos
      have hlt : k < u.length := by
        by_cases h9 : k < u.length
        · exact h9
        · rw [List.drop_of_length_le (by omega)] at hfk
          simp [firstT] at hfk
      obtain ⟨c, hc⟩ : ∃ c, u[k]? = some c := ⟨_, List.getElem?_eq_getElem hlt⟩
      rw [drop_get hc, firstT_cons] at hfk
      have htk : t[x + k]? = some c := by rw [HGt.out k hlt]; exact hc
      have hxk : x + k < t.length := by have := HU.out; omega
      have hkb : k ≤ 1048576 := by have := HU.out; omega
      obtain ⟨gt, ot, c9, rfl, hc9, hcx, _, _⟩ := HTt.out.at hxk
      rw [htk] at hc9
      cases hc9
      obtain ⟨P, hP⟩ : ∃ P, P = x + k := ⟨_, rfl⟩
      rw [← hP] at hcx hxk ⊢
      have HPk := hid hP
      have hm1 : IntKind.i64.wrap ((m : Int) - 1) = ((m - 1 : Nat) : Int) := by rw [IntWalk.i64_in _ ⟨by omega, by omega⟩]; omega
      have hP1 : IntKind.i64.wrap ((P : Int) + 1) = ((P + 1 : Nat) : Int) := by rw [IntWalk.i64_in _ ⟨by omega, by omega⟩]; omega
      cases hcd : codeD sig c with
      | none => rw [hcd] at hfk; simp at hfk
      | some e =>
        rw [hcd] at hfk
        simp only at hfk
        have HNx : Hid (∀ m' : Nat, (m' : Int) = (m : Int) + e → (0 < m' → firstT sig (m' : Int) (k + 1) (u.drop (k + 1)) = ((u.length : Int), 0)) ∧ (m' = 0 → k + 1 = u.length)) := fun m' hm' => by
          rw [hm']
          by_cases h9 : (m : Int) + e = 0
          · rw [if_pos h9] at hfk
            have := congrArg Prod.fst hfk
            simp only at this
            exact ⟨fun h => by omega, fun _ => by omega⟩
          · rw [if_neg h9] at hfk
            exact ⟨fun _ => hfk, fun h => by omega⟩
        clear hP htk hfk hc
        by_cases hc0 : c < 0
        · have hce : e = -1 := by
            unfold codeD at hcd
            by_cases h9 : c < -1048576
            · rw [if_pos h9] at hcd; cases hcd
            · rw [if_neg h9, if_pos hc0] at hcd; cases hcd; rfl
          have hdc : decide (c ≥ 0) = false := by simpa using hc0
          have HN := hid (HNx.out (m - 1) (by omega))
          clear hcd hce
          go_wp2
          go_roundw
          case rel => exact ⟨k + 1, m - 1, hlt, by have := HPk.out; rw [show x + (k + 1) = P + 1 by omega]; go_num, by go_num, by omega, HN.out.1, HN.out.2, trivial⟩
          case measure => have := HPk.out; have := HU.out; simp only [intOf]; omega
        · obtain ⟨n, rfl⟩ : ∃ n : Nat, c = (n : Int) := ⟨c.toNat, by omega⟩
          have hnl : n < sig.length := by
            by_cases h9 : n < sig.length
            · exact h9
            · rw [codeD_none (.inl (by omega))] at hcd; cases hcd
          obtain ⟨gs, os, s, ar, rfl, hsn, hs0, hs1, _⟩ := HS.out.at hnl
          have hae : e = ar - 1 := by
            rw [codeD_sym hsn] at hcd
            cases hcd
            rfl
          have har := HA.out _ (List.mem_of_getElem? hsn)
          simp only at har
          have hdc : decide ((n : Int) ≥ 0) = true := by simp
          obtain ⟨q, hq⟩ : ∃ q : Nat, (q : Int) = ((m - 1 : Nat) : Int) + ar := ⟨(((m - 1 : Nat) : Int) + ar).toNat, by omega⟩
          have hqw : IntKind.i64.wrap (((m - 1 : Nat) : Int) + ar) = (q : Int) := by rw [← hq]; exact IntWalk.i64_in _ ⟨by omega, by omega⟩
          have HN := hid (HNx.out q (by omega))
          have hq2 : q ≤ 1 + 1000 * (k + 1) := by omega
          generalize m - 1 = M1 at hm1 hqw
          clear hcd hae hsn hs0 hq HNx
          go_wp2
          go_roundw
          case rel => exact ⟨k + 1, q, hlt, by have := HPk.out; rw [show x + (k + 1) = P + 1 by omega]; go_num, rfl, hq2, HN.out.1, HN.out.2, trivial⟩
          case measure => have := HPk.out; have := HU.out; simp only [intOf]; omega
    · have hd : decide ((m : Int) > 0) = false := by simpa using (show ¬ ((m : Int) > 0) by omega)
      have hm9 : m = 0 := by omega
      have hke := HM0.out hm9
      have HY : Hid (x + k = y) := by have := HU.out; show _ = _; omega
      subst hm9
      rw [HY.out]
      go_wp2
      go_ret
      exact ⟨rfl, rfl⟩

set_option maxRecDepth 100000 in
set_option maxHeartbeats 1600000 in
theorem refMatched_any (sv rv tv : Value) (sig : List Sy) (rs : List Rl) (t : List Int) (x y k : Nat) (l r : List Int) (w : World) (hs : Sg w sv sig) (hr : RU w rv rs) (ht : Is w tv t) (ha : ArOk sig) (hv : VOk sig t (x, y)) (hk : rs[k]? = some (l, r)) (hrl : rowE sig l = 0) (hl5 : l.length ≤ 512) (htl : t.length ≤ 1048576) :
    Calls Tryz.prog 30 #[.agg #[sv, rv], tv, .int .i64 (x : Int), .int .i64 (y : Int), .int .i64 (k : Int)] w fun e w' => Below w.heap.size w w' ∧ ((e = .returned (.tuple #[.slice none 0 0, .bool false]) ∧ hitB sig l (partV t (x, y)) = false) ∨
      ∃ v f, e = .returned (.tuple #[v, .bool true]) ∧ hitB sig l (partV t (x, y)) = true ∧ Rt sig f ∧ Sm f l (partV t (x, y)) ∧ OBW w.heap.size w' v (bindsL f l)) := by
  obtain ⟨so, sc, rfl, hso, hsc, _⟩ := Row.flat hs
  obtain ⟨ro, rc, rfl, hro, hrc, _⟩ := Row.flat hr
  unfold maxLen at hsc hrc
  have hkl : k < rs.length := (List.getElem?_eq_some_iff.1 hk).1
  obtain ⟨w0, hw0⟩ : ∃ X, X = w.alloc (.cells #[.slice so sig.length sc, .slice ro rs.length rc] 25) := ⟨_, rfl⟩
  have hb0 : Below w.heap.size w w0 := by rw [hw0]; exact below_alloc _
  have x0 : w0.cell? ⟨w.heap.size, 0, none⟩ = some (.slice so sig.length sc) := by rw [hw0]; exact cell_new rfl
  have x1 : w0.cell? ⟨w.heap.size, 1, none⟩ = some (.slice ro rs.length rc) := by rw [hw0]; exact cell_new rfl
  obtain ⟨g, off, l9, r9, a1, c1, a2, c2, rfl, hm, e0, e1, hi1, hi2, hl1, hl2⟩ := (hr.kp (Kp.of_below hb0)).at hkl
  rw [hk] at hm
  cases hm
  obtain ⟨h1, h2, h3⟩ := hv
  simp only at h1 h2 h3
  obtain ⟨to2, tc, rfl, hto, htc, _⟩ := ht.flatI
  obtain ⟨gt, ot, _, rfl, _⟩ := ht.at (k := x) (by omega)
  have hbd : Below w0.heap.size w0 w0.drew := (Below.refl _ _).drew
  have HIn := hid (refInner_any (.slice so sig.length sc) (.slice a1 l.length c1) (.slice (some ⟨gt, ot + x, none⟩) (y - x) (tc - x)) sig l (partV t (x, y)) w0.drew ((hs.kp (Kp.of_below hb0)).kp (Kp.of_below hbd)) (hi1.kp (Kp.of_below hbd)) (((ht.kp (Kp.of_below hb0)).kp (Kp.of_below hbd)).mid (k := x) (m := y - x) (by omega) (by omega)) ha hrl h3 (by omega) (by
    have h9 : (partV t (x, y)).length ≤ t.length := by unfold partV; rw [List.length_take, List.length_drop]; omega
    omega))
  have C0 := hid (below_step hb0 hbd)
  have hxy : x ≤ y := by omega
  have hyt : y ≤ tc := by omega
  have hxt : ¬ tc = x := by omega
  have hwl : w.heap.size ≤ w0.drew.heap.size := C0.out.size
  clear hs hr ht ha hk hrl h3 hi1 hi2 e1 hb0 hbd
  cases hht : hitB sig l (partV t (x, y)) with
  | false =>
    have HIn2 : Hid (Calls Tryz.prog 55 #[.slice so sig.length sc, .slice a1 l.length c1, .slice (some ⟨gt, ot + x, none⟩) (y - x) (tc - x)] w0.drew fun e w' => e = .returned (.tuple #[.slice none 0 0, .bool false]) ∧ Below w0.drew.heap.size w0.drew w') := HIn.out.mono (by
      rintro e w' ⟨hb, ⟨he, _⟩ | ⟨v, f, _, hf, hsm, _⟩⟩
      · exact ⟨he, hb⟩
      · rw [hitB_true ⟨f, hf, hsm⟩] at hht
        cases hht)
    clear HIn hht
    go_enter Tryz.func30, Tryz.ntmps30
    go_wp2
    rw [← hw0]
    clear hw0
    go_region_with (first
      | (refine HIn2.out.mono ?_; rintro e w9 ⟨rfl, hb9⟩; have HB9 := hid (below_step C0.out hb9); clear hb9))
    all_goals (
      go_wp2
      go_ret2
      exact ⟨HB9.out, .inl ⟨rfl, trivial⟩⟩)
  | true =>
    have HIn2 : Hid (Calls Tryz.prog 55 #[.slice so sig.length sc, .slice a1 l.length c1, .slice (some ⟨gt, ot + x, none⟩) (y - x) (tc - x)] w0.drew fun e w' => ∃ v f, e = .returned (.tuple #[v, .bool true]) ∧ (Rt sig f ∧ Sm f l (partV t (x, y)) ∧ OBW w0.drew.heap.size w' v (bindsL f l)) ∧ Below w0.drew.heap.size w0.drew w') := HIn.out.mono (by
      rintro e w' ⟨hb, ⟨_, hno⟩ | ⟨v, f, he, hf, hsm, hob⟩⟩
      · rw [hitB_false fun ⟨f, hf, h⟩ => hno f hf h] at hht
        cases hht
      · exact ⟨v, f, he, ⟨hf, hsm, hob⟩, hb⟩)
    clear HIn hht
    go_enter Tryz.func30, Tryz.ntmps30
    go_wp2
    rw [← hw0]
    clear hw0
    go_region_with (first
      | (refine HIn2.out.mono ?_; rintro e w9 ⟨v9, f9, rfl, hq9, hb9⟩; have HB9 := hid (below_step C0.out hb9); have HQ9 := hid hq9; clear hb9 hq9))
    all_goals (
      go_wp2
      go_ret2
      exact ⟨HB9.out, .inr ⟨_, f9, rfl, trivial, HQ9.out.1, HQ9.out.2.1, HQ9.out.2.2.mono hwl⟩⟩)

end Go.Proofs.YtfeeafkfjngemaaGreatDoor

/- An empty row of one's own. -/
namespace Go.Proofs.YtfeeafkfjngemaaGreatDoor
open Go.RowKit Go.Maps

theorem empty_row2 {w : World} {base : Nat} (t : TypeId) (hb : base ≤ w.heap.size) : (w.alloc (.cells #[] t)).ownsRow base t 2 (.slice (some ⟨w.heap.size, 0, none⟩) 0 0) 0 [] := by
  refine ⟨rfl, .inr ⟨w.heap.size, 0, #[], rfl, hb, heap_alloc_new _ _, Nat.le_refl _, Nat.zero_le _, rfl, rfl⟩⟩

end Go.Proofs.YtfeeafkfjngemaaGreatDoor

/- The document's All of layer 8 walked. -/
namespace Go.Proofs.YtfeeafkfjngemaaGreatDoor
open Go.RowKit Go.Maps Go.BigFrame

theorem range_flat {α : Type} (g : Nat → List α) (n : Nat) : (List.range (n + 1)).flatMap g = (List.range n).flatMap g ++ g n := by
  rw [List.range_succ, List.flatMap_append]
  simp

theorem flat_few {g : Nat → List Rx} {b : Nat} (h : ∀ x, (g x).length ≤ b) : ∀ n, ((List.range n).flatMap g).length ≤ n * b
  | 0 => by simp
  | n + 1 => by
    have h1 := flat_few h n
    have h2 := h n
    rw [range_flat, List.length_append, Nat.add_mul, Nat.one_mul]
    omega

theorem OX.mono {w : World} {base b' : Nat} {v : Value} {d : List Rx} (h : OX w base v d) (hb : b' ≤ base) : OX w b' v d := by
  refine ⟨h.1, h.2.1, ?_⟩
  rcases h.2.2 with h9 | ⟨g, cap, cur, hv, hbg, r⟩
  · exact .inl h9
  · exact .inr ⟨g, cap, cur, hv, Nat.le_trans hb hbg, r⟩

set_option maxRecDepth 100000 in
set_option maxHeartbeats 3200000 in
theorem refAll8_any (sv rv tv : Value) (sig : List Sy) (rs : List Rl) (t : List Int) (w : World) (hs : Sg w sv sig) (hr : RU w rv rs) (ht : Is w tv t) (htl : t.length ≤ 1048576) :
    Calls Tryz.prog 9 #[.agg #[sv, rv], tv] w fun e w' => ∃ v', e = .returned v' ∧ OX w' w.heap.size v' (allR sig rs t) ∧ Below w.heap.size w w' := by
  obtain ⟨so, sc, rfl, hso, hsc, _⟩ := Row.flat hs
  obtain ⟨ro, rc, rfl, hro, hrc, _⟩ := Row.flat hr
  obtain ⟨to2, tc, rfl, hto, htc, _⟩ := ht.flatI
  unfold maxLen at hrc
  have HS := hid hs
  have HR := hid hr
  have HTt := hid ht
  clear hs hr ht
  obtain ⟨wA, hwA⟩ : ∃ X, X = w.alloc (.cells #[.slice so sig.length sc, .slice ro rs.length rc] 25) := ⟨_, rfl⟩
  obtain ⟨w0, hw0⟩ : ∃ X, X = wA.alloc (.cells #[] 33) := ⟨_, rfl⟩
  have CA : Hid (Below w.heap.size w wA) := by rw [hwA]; exact below_alloc _
  have D0 : Hid (Below wA.heap.size wA w0) := by rw [hw0]; exact below_alloc _
  have HC : Hid (∀ W, Below wA.heap.size wA W → W.cell? ⟨w.heap.size, 0, none⟩ = some (.slice so sig.length sc) ∧ W.cell? ⟨w.heap.size, 1, none⟩ = some (.slice ro rs.length rc)) := fun W hW => by
    have hk := Kp.of_below hW
    rw [hwA] at hk
    exact ⟨hk.cell _ _ (cell_new rfl), hk.cell _ _ (cell_new rfl)⟩
  have hszA : wA.heap.size = w.heap.size + 1 := by rw [hwA]; exact World.size_alloc _ _
  have HO0 : Hid (OX w0 wA.heap.size (.slice (some ⟨w.heap.size + 1, 0, none⟩) 0 0) []) := by
    refine ⟨fun x hx => (by simp at hx), ?_⟩
    have h9 := empty_row2 (w := wA) (base := wA.heap.size) 33 (Nat.le_refl _)
    rw [← hw0, hszA] at h9
    rw [hszA]
    exact h9
  rw [hwA] at hw0
  clear hwA hszA
  obtain ⟨R, hR⟩ : ∃ R, R = allR sig rs t := ⟨_, rfl⟩
  rw [← hR]
  have HRr := hid hR
  clear hR
  go_enter Tryz.func9, Tryz.ntmps9
  go_wp2_with fail
  rw [← hw0]
  clear hw0
  refine (refRight8_any _ _ _ sig rs t w0 (HS.out.kp (Kp.of_below (below_step CA.out D0.out))) (HR.out.kp (Kp.of_below (below_step CA.out D0.out))) (HTt.out.kp (Kp.of_below (below_step CA.out D0.out))) (by omega)).mono ?_
  rintro e w1 ⟨rfl, hb1⟩
  have D1 := hid (below_step D0.out hb1)
  have HO1 := hid (HO0.out.later hb1)
  clear hb1 HO0
  by_cases he : stepE sig rs t = 0
  · obtain ⟨hok, hte⟩ := stepE_zero he
    have HA : Hid (R = allL sig rs t) := by show _ = _; rw [HRr.out]; unfold allR; rw [if_pos he]
    rw [he]
    have HOk := hid (sys_right hok).2
    have hr64 := (ahead_parts (sys_right hok).1).2.2.2
    have HTe := hid hte
    have HAr := hid (sig_arOk (term_parts hte).1)
    clear he hok hte HRr
    go_wp2
    go_loopw [5, 6] (fun ov iv wr => ∃ x : Nat, x ≤ t.length ∧ iv = .int .i64 x ∧ OX wr wA.heap.size ov ((List.range x).flatMap fun (x : Nat) => redL sig (subL sig t (x : Int)) x 0 rs) ∧ Below wA.heap.size wA wr) (fun _ iv _ => t.length - (intOf iv).toNat)
    case atStart => exact ⟨0, Nat.zero_le _, rfl, by simpa using HO1.out, D1.out⟩
    case round =>
      obtain ⟨x, hx, rfl, how, hbl⟩ := hrel
      have HW := hid how
      have HB := hid hbl
      have CB := hid (below_step CA.out hbl)
      obtain ⟨z0, z1⟩ := HC.out wr hbl
      clear how hbl HO1
      by_cases hlt : x < t.length
      · have hd : decide ((x : Int) < (t.length : Int)) = true := by simpa using hlt
        obtain ⟨y, hv⟩ := place_end8 HTe.out hlt
        have HV := hid hv
        have HPs : Hid (partV t (x, y) = subL sig t (x : Int)) := part_sub HTe.out hv
        have hlen := flat_few (g := fun (x : Nat) => redL sig (subL sig t (x : Int)) x 0 rs) (b := 64) (fun x => Nat.le_trans (redL_len sig _ x rs 0) hr64) x
        obtain ⟨A, hA⟩ : ∃ A, A = (List.range x).flatMap fun (x : Nat) => redL sig (subL sig t (x : Int)) x 0 rs := ⟨_, rfl⟩
        have HAe := hid hA
        rw [← hA] at HW hlen
        have HLen : Hid (A.length ≤ 1048576 * 64) := by show _ ≤ _; omega
        clear hv hlen hA
        go_wp2_with fail
        refine (refEnd8_any _ _ sig t x y wr (HS.out.kp (Kp.of_below CB.out)) (HTt.out.kp (Kp.of_below CB.out)) HAr.out HV.out htl).mono ?_
        rintro e w2 ⟨rfl, hw2⟩
        have hw8 := hw2.symm
        subst hw8
        clear hw2
        go_wp2
        go_loopw [5, 8] (fun ov kv wi => ∃ k : Nat, k ≤ rs.length ∧ kv = .int .i64 k ∧ OX wi wA.heap.size ov (A ++ redL sig (subL sig t (x : Int)) x 0 (rs.take k)) ∧ Below wA.heap.size wA wi) (fun _ kv _ => rs.length - (intOf kv).toNat)
        case atStart => exact ⟨0, Nat.zero_le _, rfl, by simpa [redL] using HW.out, HB.out⟩
        case round =>
          clear z0 z1 HB CB HW
          obtain ⟨k, hk, rfl, how, hbl⟩ := hrel
          have HW := hid how
          have HB := hid hbl
          have CB := hid (below_step CA.out hbl)
          obtain ⟨z0, z1⟩ := HC.out _ hbl
          clear how hbl
          by_cases hkl : k < rs.length
          · have hdk : decide ((k : Int) < (rs.length : Int)) = true := by simpa using hkl
            obtain ⟨⟨l, r⟩, hm⟩ : ∃ p, rs[k]? = some p := ⟨_, List.getElem?_eq_getElem hkl⟩
            have hrp := rule_parts (HOk.out _ (List.mem_of_getElem? hm))
            have HMt := hid (refMatched_any _ _ _ sig rs t x y k l r wr (HS.out.kp (Kp.of_below CB.out)) (HR.out.kp (Kp.of_below CB.out)) (HTt.out.kp (Kp.of_below CB.out)) HAr.out HV.out hm (term_parts hrp.1).2 hrp.2.2.1 htl)
            have HNx : Hid (redL sig (subL sig t (x : Int)) x 0 (rs.take (k + 1)) = redL sig (subL sig t (x : Int)) x 0 (rs.take k) ++ (if hitB sig l (partV t (x, y)) then [((x : Int), (k : Int))] else [])) := by
              show _ = _
              rw [take_get hm, redL_snoc, List.length_take, Nat.min_eq_left (by omega), Nat.zero_add, HPs.out]
            have HLk : Hid ((A ++ redL sig (subL sig t (x : Int)) x 0 (rs.take k)).length ≤ 1048576 * 64 + 64) := by
              have h9 := redL_len sig (subL sig t (x : Int)) x (rs.take k) 0
              rw [List.length_take] at h9
              have := HLen.out
              show _ ≤ _
              rw [List.length_append]
              omega
            clear hm hrp
            go_wp2_with fail
            refine HMt.out.mono ?_
            rintro e w3 ⟨hb3, hres⟩
            have HB3 := hid hb3
            clear HMt z0 z1 hb3
            rcases hres with ⟨rfl, hno⟩ | ⟨v, f, rfl, hyes, _, _, hob⟩
            · have HN2 : Hid (redL sig (subL sig t (x : Int)) x 0 (rs.take (k + 1)) = redL sig (subL sig t (x : Int)) x 0 (rs.take k)) := by show _ = _; rw [HNx.out, hno]; simp
              clear hno HNx
              go_wp2
              go_roundw
              case rel => exact ⟨k + 1, hkl, by go_num, by rw [HN2.out]; exact HW.out.later HB3.out, below_step HB.out HB3.out⟩
              case measure => simp only [intOf]; omega
            · have HN2 : Hid (A ++ redL sig (subL sig t (x : Int)) x 0 (rs.take (k + 1)) = (A ++ redL sig (subL sig t (x : Int)) x 0 (rs.take k)) ++ [((x : Int), (k : Int))]) := by show _ = _; rw [HNx.out, hyes, List.append_assoc]; rfl
              obtain ⟨v7, w7, hr7, o7, g7⟩ := OX.join 28 (x := ((x : Int), (k : Int))) (HW.out.later HB3.out) (Nat.le_trans HB.out.size HB3.out.size) ⟨⟨by simp only; omega, by simp only; omega⟩, by simp only; omega, by simp only; omega⟩ (by have := HLk.out; omega)
              have hba := below_step HB.out (below_step HB3.out (below_alloc (.cells #[.int .i64 (x : Int), .int .i64 (k : Int)] 33)))
              have HR7 := hid hr7
              have HO7 := hid o7
              have HB7 : Hid (Below wA.heap.size wA w7) := hba.grown g7 hba.size (fun j hj => own_blk HW.out.2 hj)
              clear hr7 o7 g7 hba hyes HNx hob
              go_wp2_with (first
                | (at_builtin; refine wpList_append_run rfl _ _ _ rfl _ _ rfl rfl HR7.out ?_))
              go_roundw
              case rel => exact ⟨k + 1, hkl, by go_num, by rw [HN2.out]; exact HO7.out, HB7.out⟩
              case measure => simp only [intOf]; omega
          · have hdk : decide ((k : Int) < (rs.length : Int)) = false := by simpa using (show ¬ (k : Int) < (rs.length : Int) by omega)
            have HF : Hid (A ++ redL sig (subL sig t (x : Int)) x 0 (rs.take k) = (List.range (x + 1)).flatMap fun (x : Nat) => redL sig (subL sig t (x : Int)) x 0 rs) := by
              show _ = _
              rw [range_flat, ← HAe.out, List.take_of_length_le (by omega)]
            go_wp2
            go_roundw
            case rel => exact ⟨x + 1, hlt, by go_num, by rw [← HF.out]; exact HW.out, HB.out⟩
            case measure => simp only [intOf]; omega
      · have hd : decide ((x : Int) < (t.length : Int)) = false := by simpa using (show ¬ (x : Int) < (t.length : Int) by omega)
        obtain rfl : x = t.length := by omega
        go_wp2
        go_ret
        exact ⟨_, rfl, by rw [HA.out]; exact HW.out.mono CA.out.size, CB.out⟩
  · have HA : Hid (R = []) := by show _ = _; rw [HRr.out]; unfold allR; rw [if_neg he]
    clear HRr
    generalize stepE sig rs t = E at he ⊢
    have hne : (E != 0) = true := by rw [bne_iff_ne]; exact he
    clear he
    go_wp2
    go_ret
    exact ⟨_, rfl, by rw [HA.out]; exact HO1.out.mono CA.out.size, below_step CA.out D1.out⟩

end Go.Proofs.YtfeeafkfjngemaaGreatDoor

/- StepAll walked. -/
namespace Go.Proofs.YtfeeafkfjngemaaGreatDoor
open Go.RowKit Go.Maps Go.BigFrame

theorem allR_len (sig : List Sy) (rs : List Rl) (t : List Int) : (allR sig rs t).length ≤ t.length * 64 := by
  unfold allR
  by_cases h : stepE sig rs t = 0
  · rw [if_pos h]
    have hr64 := (ahead_parts (sys_right (stepE_zero h).1).1).2.2.2
    exact flat_few (g := fun (x : Nat) => redL sig (subL sig t (x : Int)) x 0 rs) (fun x => Nat.le_trans (redL_len sig _ x rs 0) hr64) t.length
  · rw [if_neg h]
    simp

/-- An element is written over. -/
theorem OX.put {w : World} {base g L cap : Nat} {d : List Rx} (h : OX w base (.slice (some ⟨g, 0, none⟩) L cap) d) (k : Nat) (x : Rx) (hx : (-9223372036854775808 ≤ x.1 ∧ x.1 ≤ 9223372036854775807) ∧ -9223372036854775808 ≤ x.2 ∧ x.2 ≤ 9223372036854775807) {Z : World} (hZ : Z = (w.setCell ⟨g, k * 2, none⟩ (.int .i64 x.1)).setCell ⟨g, k * 2 + 1, none⟩ (.int .i64 x.2)) :
    OX Z base (.slice (some ⟨g, 0, none⟩) L cap) (d.set k x) ∧ w.grownBy Z (some g) := by
  have hl := h.len
  subst hl
  subst hZ
  refine ⟨⟨fun y hy => ?_, ?_⟩, ⟨rfl, rfl, rfl, by simp, fun j _ hj => ?_⟩⟩
  · rcases List.mem_or_eq_of_mem_set hy with hy | rfl
    · exact h.1 y hy
    · exact hx
  · rw [List.length_set, List.map_set, prC_set]
    exact (World.ownsRow.stored (World.ownsRow.stored h.2 (k * 2) (.int .i64 x.1)).1 (k * 2 + 1) (.int .i64 x.2)).1
  · have hne : j ≠ g := fun e => hj (by rw [e])
    rw [heap_setCell_other _ _ _ _ hne, heap_setCell_other _ _ _ _ hne]

set_option maxRecDepth 100000 in
set_option maxHeartbeats 6400000 in
theorem stepAll_any (sv rv tv : Value) (s : List Sy) (a : List Rl) (t : List Int) (w : World) (hs : Sg w sv s) (ha : RU w rv a) (ht : Is w tv t) (hT : Tabs w) (htl : t.length ≤ 1048576) :
    Calls Tryz.prog 3 #[.agg #[sv, rv], tv] w fun e w' => e = .returned (.bool true) ∧ Below w.heap.size w w' := by
  obtain ⟨so, sc, rfl, hso, hsc, _⟩ := Row.flat hs
  obtain ⟨ao, ac, rfl, hao, hac, _⟩ := Row.flat ha
  obtain ⟨to2, tc, rfl, hto, htc, _⟩ := ht.flatI
  have HS := hid hs
  have HA := hid ha
  have HTt := hid ht
  have HT := hid hT
  clear hs ha ht hT
  obtain ⟨wA, hwA⟩ : ∃ X, X = w.alloc (.cells #[.slice so s.length sc, .slice ao a.length ac] 25) := ⟨_, rfl⟩
  have CA : Hid (Below w.heap.size w wA) := by rw [hwA]; exact below_alloc _
  have HC : Hid (∀ W, Below wA.heap.size wA W → W.cell? ⟨w.heap.size, 0, none⟩ = some (.slice so s.length sc) ∧ W.cell? ⟨w.heap.size, 1, none⟩ = some (.slice ao a.length ac)) := fun W hW => by
    have hk := Kp.of_below hW
    rw [hwA] at hk
    exact ⟨hk.cell _ _ (cell_new rfl), hk.cell _ _ (cell_new rfl)⟩
  obtain ⟨R, hR⟩ : ∃ R, R = allR s a t := ⟨_, rfl⟩
  have hRl : R.length ≤ 1048576 * 64 := by have := allR_len s a t; rw [hR]; omega
  have HAll : Hid (∀ W (v : Value), Below w.heap.size w W → Is W v t → Calls Tryz.prog 8 #[.agg #[.slice so s.length sc, .slice ao a.length ac], v] W fun e w' => ∃ v', e = .returned v' ∧ OX w' W.heap.size v' R ∧ Below W.heap.size W w') := fun W v hW hv => by
    rw [hR]
    exact all_any _ _ _ s a t W (HS.out.kp (Kp.of_below hW)) (HA.out.kp (Kp.of_below hW)) hv (HT.out.below hW) htl
  have HRef : Hid (∀ W, Below w.heap.size w W → Calls Tryz.prog 9 #[.agg #[.slice so s.length sc, .slice ao a.length ac], .slice to2 t.length tc] W fun e w' => ∃ v', e = .returned v' ∧ OX w' W.heap.size v' R ∧ Below W.heap.size W w') := fun W hW => by
    rw [hR]
    exact refAll8_any _ _ _ s a t W (HS.out.kp (Kp.of_below hW)) (HA.out.kp (Kp.of_below hW)) (HTt.out.kp (Kp.of_below hW)) htl
  clear hR
  go_enter Tryz.func3, Tryz.ntmps3
  go_wp2_with fail
  rw [← hwA]
  clear hwA
  refine (shown8_any wA (HT.out.below CA.out)).mono ?_
  rintro e w1 ⟨rfl, hb1⟩
  have D1 := hid hb1
  clear hb1
  -- the row and a mark behind it
  obtain ⟨v2, w2, hr2, ho2, hg2⟩ := join_ints 26 (xs := []) ⟨fun k x hk => (by simp at hk), empty_row 3 (Nat.le_refl w1.heap.size)⟩ ((HTt.out.kp (Kp.of_below (below_step CA.out D1.out))).kp (Kp.of_below (below_alloc (w := w1) (.cells #[] 3)))) (by simp) (by simp; omega)
  rw [List.nil_append] at ho2
  have hb2 : Below w1.heap.size w1 w2 := (below_alloc _).grown hg2 (by simp) (fun j hj => by cases hj; exact Nat.le_refl _)
  have hb2a : Below w1.heap.size w1 (w2.alloc (.cells #[.int .i64 77] 3)) := below_step hb2 (below_alloc _)
  obtain ⟨v3, w3, hr3, ho3, hg3⟩ := join_ints 26 (u := .slice (some ⟨w2.heap.size, 0, none⟩) 1 1) (es := [77]) (ho2.later (below_alloc (.cells #[.int .i64 77] 3))) (is_new w2 [77] _ (by decide) (by decide)) hb2a.size (by simp; omega)
  have hb3 : Below w1.heap.size w1 w3 := hb2a.grown hg3 hb2a.size (fun j hj => own_blk ho2.2 hj)
  have HR2 := hid hr2
  have HR3 := hid hr3
  have D3 := hid (below_step D1.out hb3)
  have C3 := hid (below_step CA.out D3.out)
  obtain ⟨b2, c2, hv2, _⟩ := ho2.shape
  subst hv2
  obtain ⟨b3, c3, hv3, hc31, hc32⟩ := ho3.shape
  rw [List.length_append, List.length_cons, List.length_nil] at hv3 hc31
  subst hv3
  obtain ⟨g3, hb3e⟩ : ∃ g3, b3 = some ⟨g3, 0, none⟩ := by
    rcases ho3.2.2 with ⟨hv, hn⟩ | ⟨g, cap, cur, hv, _⟩
    · simp only [Value.slice.injEq] at hv; simp at hn
    · simp only [Value.slice.injEq] at hv; exact ⟨g, hv.1⟩
  subst hb3e
  unfold maxLen at hc32
  have HI3 := hid ho3.is
  clear hr2 hr3 ho2 ho3 hg2 hg3 hb2 hb2a hb3
  go_wp2_with (first
    | (at_builtin; refine wpList_append_run rfl _ _ _ rfl _ _ rfl rfl HR2.out ?_)
    | (at_builtin; refine wpList_append_run rfl _ _ _ rfl _ _ rfl rfl HR3.out ?_))
  have HPre : Hid (Is w3 (.slice (some ⟨g3, 0, none⟩) t.length c3) t) := by
    have h9 : Is w3 (.slice (some ⟨g3, 0, none⟩) (t ++ [77]).length c3) (t ++ [77]) := by simpa using HI3.out
    have h8 := h9.mid (k := 0) (m := t.length) (by simp) (by simp)
    show Is _ _ _
    simpa using h8
  have HMk : Hid (w3.cell? ⟨g3, t.length, none⟩ = some (.int .i64 77)) := by
    have h9 : Is w3 (.slice (some ⟨g3, 0, none⟩) (t ++ [77]).length c3) (t ++ [77]) := by simpa using HI3.out
    obtain ⟨g9, o9, c9, e9, hc9, hx9, _, _⟩ := h9.at (k := t.length) (by simp)
    cases e9
    rw [List.getElem?_append_right (Nat.le_refl _), Nat.sub_self] at hc9
    cases hc9
    rw [Nat.zero_add] at hx9
    exact hx9
  obtain ⟨x0, x1⟩ := HC.out w3 D3.out
  have hbd : Below w3.heap.size w3 w3.drew := (Below.refl _ _).drew
  have HCl := hid (HAll.out w3.drew (.slice (some ⟨g3, 0, none⟩) t.length c3) (below_step C3.out hbd) (HPre.out.kp (Kp.of_below hbd)))
  have htc3 : t.length ≤ c3 := by omega
  clear HR2 HR3 hbd
  go_region_with (first
    | (refine HCl.out.mono ?_; rintro e w4 ⟨v4, rfl, o4, hb4⟩; have HO4 := hid o4; have J4 := hid (below_step (Below.refl _ _).drew hb4); clear o4 hb4))
  simp only [Act.put, List.getElem_toArray, List.getElem_cons_succ, List.getElem_cons_zero, List.setIfInBounds_toArray, List.set_cons_succ, List.set_cons_zero]
  obtain ⟨a4, c4, hv4, hc41, hc42⟩ := HO4.out.shape
  subst hv4
  unfold maxLen at hc42
  have D4 := hid (below_step D3.out J4.out)
  have C4 := hid (below_step CA.out D4.out)
  have HG4 : Hid (∀ j, Value.ownBlock (.slice a4 R.length c4) = some j → j < w4.heap.size ∧ wA.heap.size ≤ j) := fun j hj => ⟨own_blk_lt HO4.out.2 hj, by have h9 := own_blk HO4.out.2 hj; have h8 := D3.out.size; have h7 : w3.heap.size ≤ w3.drew.heap.size := (Below.refl w3.heap.size w3).drew.size; omega⟩
  clear x0 x1 HCl
  obtain ⟨x0, x1⟩ := HC.out w4 D4.out
  go_wp2_with fail
  refine (HRef.out w4 C4.out).mono ?_
  rintro e w5 ⟨v5, rfl, o5, hb5⟩
  have J5 := hid hb5
  have HO5 := hid o5
  obtain ⟨a5, c5, hv5, _⟩ := o5.shape
  subst hv5
  clear o5 hb5 x0 x1
  go_wp2_with fail
  refine (sameX8_any _ _ R R w5 (HO4.out.xs.kp (Kp.of_below J5.out)) HO5.out.xs).mono ?_
  rintro e w6 ⟨rfl, n6, hw6⟩
  have J6 := hid (drawn_below hw6)
  clear hw6
  rw [decide_eq_true rfl]
  have J56 := hid (below_step J5.out J6.out)
  go_wp2_with fail
  refine (sameRow8_any _ _ t t w6 (HPre.out.kp (Kp.of_below (below_step J4.out J56.out))) (HTt.out.kp (Kp.of_below (below_step C4.out J56.out)))).mono ?_
  rintro e w7 ⟨rfl, n7, hw7⟩
  have J7 := hid (drawn_below hw7)
  clear hw7
  rw [decide_eq_true rfl]
  have J57 := hid (below_step J56.out J7.out)
  have y7 := (Kp.of_below (below_step J4.out J57.out)).cell _ _ HMk.out
  have HO47 := hid (HO4.out.later J57.out)
  have HO57 := hid (HO5.out.later (below_step J6.out J7.out))
  have D7 := hid (below_step D4.out J57.out)
  have hlt77 : t.length < t.length + 1 := by omega
  go_wp2
  clear y7
  go_loopw [9] (fun iv wr => ∃ (k : Nat) (d : List Rx), k ≤ R.length ∧ iv = .int .i64 k ∧ OX wr w3.drew.heap.size (.slice a4 R.length c4) d ∧ OX wr w4.heap.size (.slice a5 R.length c5) R ∧ Below wA.heap.size wA wr ∧ w4.heap.size ≤ wr.heap.size) (fun iv _ => R.length - (intOf iv).toNat)
  case atStart => exact ⟨0, R, Nat.zero_le _, rfl, HO47.out, HO57.out, D7.out, J57.out.size⟩
  case round =>
    obtain ⟨k, d, hk, rfl, hod, ho5, hbl, hsz4⟩ := hrel
    have HOd := hid hod
    have HOw := hid ho5
    have HBl := hid hbl
    have hdl := hod.len
    clear hod ho5 hbl HO47 HO57 D7
    by_cases hlt : k < R.length
    · have hd : decide ((k : Int) < (R.length : Int)) = true := by simpa using hlt
      obtain ⟨g, cap, hv, hgb, hgl, _, _⟩ := HOd.out.head (n := k) (by omega)
      simp only [Value.slice.injEq] at hv
      obtain ⟨rfl, _, rfl⟩ := hv
      obtain ⟨x, hx⟩ : ∃ x, d[k]? = some x := ⟨_, List.getElem?_eq_getElem (by omega)⟩
      obtain ⟨q0, q1, f0, f1⟩ := HOd.out.at2 hx
      obtain ⟨Z, hZ⟩ : ∃ Z, Z = (wr.setCell ⟨g, k * 2, none⟩ (.int .i64 99)).setCell ⟨g, k * 2 + 1, none⟩ (.int .i64 0) := ⟨_, rfl⟩
      obtain ⟨oz, gz⟩ := HOd.out.put k ((99 : Int), 0) ⟨⟨by decide, by decide⟩, by decide, by decide⟩ hZ
      have hg4 := HG4.out g rfl
      have HOz := hid oz
      have HOz5 := hid (HOw.out.kept gz (.inr fun e => by have := own_blk HOw.out.2 e; omega))
      have HBz : Hid (Below wA.heap.size wA Z) := HBl.out.grown gz HBl.out.size (fun j hj => by cases hj; exact hg4.2)
      have HGz := hid gz.size
      clear hx oz gz hdl
      go_wp2
      rw [← hZ]
      clear hZ q0 q1 f0 f1
      go_roundw
      case rel => exact ⟨k + 1, _, hlt, by go_num, HOz.out, HOz5.out, HBz.out, Nat.le_trans hsz4 HGz.out⟩
      case measure => simp only [intOf]; omega
    · have hd : decide ((k : Int) < (R.length : Int)) = false := by simpa using (show ¬ (k : Int) < (R.length : Int) by omega)
      have hs34 : w3.drew.heap.size ≤ w4.heap.size := J4.out.size
      obtain ⟨v8, w8, hr8, o8, g8⟩ := OX.join 28 (x := ((98 : Int), 0)) HOd.out (by omega) ⟨⟨by decide, by decide⟩, by decide, by decide⟩ (by omega)
      have hba := below_step HBl.out (below_alloc (w := wr) (.cells #[.int .i64 98, .int .i64 0] 33))
      have D8 : Hid (Below wA.heap.size wA w8) := hba.grown g8 hba.size (fun j hj => (HG4.out j hj).2)
      have C8 := hid (below_step CA.out D8.out)
      have HO58 := hid ((HOw.out.later (below_alloc (.cells #[.int .i64 98, .int .i64 0] 33))).kept g8 (by
        cases h9 : Value.ownBlock (.slice a5 R.length c5) with
        | none => exact .inl rfl
        | some j => exact .inr fun e => by have := own_blk HOw.out.2 h9; have := (HG4.out j e.symm).1; omega))
      obtain ⟨g9, c9, hv9, _, _, hc91, hc92⟩ := o8.head (n := R.length) (by rw [List.length_append, hdl]; simp)
      have hl9 : (d ++ [((98 : Int), (0 : Int))]).length = R.length + 1 := by rw [List.length_append, hdl]; rfl
      rw [hl9] at hv9 hc91
      subst hv9
      have hm9 : w8.cell? ⟨g9, R.length * 2, none⟩ = some (.int .i64 98) := by
        have h9 := o8.at2 (i := R.length) (x := ((98 : Int), 0)) (by rw [List.getElem?_append_right (by omega), hdl, Nat.sub_self]; rfl)
        exact h9.1
      have HM9 := hid hm9
      have HR8 := hid hr8
      obtain ⟨x0, x1⟩ := HC.out w8 D8.out
      have hlt9 : R.length < R.length + 1 := by omega
      clear hr8 o8 g8 hba hm9 hdl hl9
      go_wp2_with (first
        | (at_builtin; refine wpList_append_run rfl _ _ _ rfl _ _ rfl rfl HR8.out ?_))
      refine (HAll.out w8 _ C8.out (HTt.out.kp (Kp.of_below C8.out))).mono ?_
      rintro e w9 ⟨v9, rfl, o9, hb9⟩
      have J9 := hid hb9
      have HO9 := hid o9
      clear o9 hb9 x0 x1
      go_wp2_with fail
      refine (sameX8_any _ _ R R w9 HO9.out.xs (HO58.out.xs.kp (Kp.of_below J9.out))).mono ?_
      rintro e w10 ⟨rfl, n10, hw10⟩
      have J10 := hid (below_step J9.out (drawn_below hw10))
      clear hw10
      rw [decide_eq_true rfl]
      have y9 := (Kp.of_below J10.out).cell _ _ HM9.out
      go_wp2
      go_ret
      exact ⟨rfl, below_step C8.out J10.out⟩

end Go.Proofs.YtfeeafkfjngemaaGreatDoor
