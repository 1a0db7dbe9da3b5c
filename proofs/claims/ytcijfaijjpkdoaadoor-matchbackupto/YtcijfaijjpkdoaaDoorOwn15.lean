/- Texts of the proof, one behind the other. -/
import Derived.Test.YtcijfaijjpkdoaaDoorOwn14
import Derived.Test.YtcijfaijjpkdoaaDoorOwn10
import Derived.Test.YtcijfaijjpkdoaaDoorOwn11
/- The document's Inner and Match of layer 5 walked. -/
namespace Go.Proofs.YtcijfaijjpkdoaaDoor
open Go.RowKit Go.Maps Go.BigFrame

theorem sort_vars {L : List Bd} {p : List Int} {k : Nat} (hn : (L.map Prod.fst).Nodup) (hv : ∀ n, n ∈ L.map Prod.fst ↔ ∃ c ∈ p.take k, c < 0 ∧ n = -1 - c) (hk : p.length ≤ k) : sortB L = bindsL (fun n => L.lookup n) p := by
  unfold sortB bindsL
  rw [rise_eq (sortI_rise hn) (sortI_rise (vars_once p)) fun x => ?_]
  rw [sortI_mem, sortI_mem, hv x, mem_varsL, List.take_of_length_le hk]

set_option maxRecDepth 100000 in
set_option maxHeartbeats 3200000 in
theorem refInner_any (sv pv tv : Value) (sig : List Sy) (p t : List Int) (w : World) (hs : Sg w sv sig) (hp : Is w pv p) (ht : Is w tv t) (ha : ArOk sig) (hrp : rowE sig p = 0) (hrt : rowE sig t = 0) (hl1 : p.length * 32 ≤ 140737488351232) (hl2 : t.length * 8 ≤ 140737488351232) :
    Calls Tryd.prog 33 #[sv, pv, tv] w fun e w' => Below w.heap.size w w' ∧ ((e = .returned (.tuple #[.slice none 0 0, .bool false]) ∧ ∀ f, Rt sig f → ¬ Sm f p t) ∨
      ∃ v f, e = .returned (.tuple #[v, .bool true]) ∧ Rt sig f ∧ Sm f p t ∧ OBW w.heap.size w' v (bindsL f p)) := by
  obtain ⟨ap, cp, hpv, hcp1, hcp2, _⟩ := hp.flatI
  subst hpv
  obtain ⟨at', ct, htv, hct1, hct2, _⟩ := ht.flatI
  subst htv
  have HS := hid hs
  have HP := hid hp
  have HI := hid ht
  have HA := hid ha
  have HIn := hid (Inn.start hrp hrt)
  clear hs hp ht ha hrp hrt
  go_enter Tryd.func33, Tryd.ntmps33
  go_wp2
  go_loopw [8, 9, 10] (fun lv qv iv wr => ∃ (k q : Nat) (L : List Bd), k ≤ p.length ∧ q ≤ t.length ∧ L.length ≤ k ∧ iv = .int .i64 k ∧ qv = .int .i64 q ∧ Inn sig p t k q L ∧ OBX w.heap.size w.heap.size wr lv L ∧ Below w.heap.size w wr) (fun _ _ iv _ => p.length - (intOf iv).toNat)
  case atStart => exact ⟨0, 0, [], Nat.zero_le _, Nat.zero_le _, Nat.le_refl _, rfl, rfl, HIn.out, OBX.nil _ _ _, Below.refl _ _⟩
  case round =>
    obtain ⟨k, q, L, hk, hq, hLk, rfl, rfl, hin, hox, hbl⟩ := hrel
    have HIr := hid hin
    have HO := hid hox
    have HB := hid hbl
    clear HIn hin hox
    obtain ⟨lo, lc, hlv, hlc1, hlc2⟩ := HO.out.shape
    subst hlv
    unfold maxLen at hlc2
    by_cases hlt : k < p.length
    · have hqt := HIr.out.more hlt
      obtain ⟨gp, op, c, rfl, hc, hpx, hc1, hc2⟩ := (HP.out.kp (Kp.of_below hbl)).at hlt
      obtain ⟨gt, ot, d, rfl, hd, htx, _, _⟩ := (HI.out.kp (Kp.of_below hbl)).at hqt
      by_cases h0 : c < 0
      · have hcn : ¬ 0 ≤ c := by omega
        obtain ⟨u, u1, u2, u3, u4, u5, u6, u7⟩ := HIr.out.var HA.out hc h0
        have hul := row_ne u4
        have HU1 := hid u1
        have HU5 := hid u5
        have HU6 := hid u6
        have HU7 := hid u7
        have HMi : Hid (Is wr (.slice (some ⟨gt, ot + q, none⟩) u.length (ct - q)) u) := by
          have h9 := Is.mid (k := q) (m := u.length) (HI.out.kp (Kp.of_below hbl)) hqt u2
          rw [u3] at h9
          exact h9
        obtain ⟨n, hn⟩ : ∃ n, n = -1 - c := ⟨_, rfl⟩
        have hwn : IntKind.i64.wrap (-1 - c) = n := by rw [IntWalk.i64_in _ ⟨by omega, by omega⟩, hn]
        have hn1 : -9223372036854775808 ≤ n := by omega
        have hn2 : n ≤ 9223372036854775807 := by omega
        rw [← hn] at HU5 HU6 HU7
        have hct3 : ct ≠ q := by omega
        clear u1 u3 u4 u5 u6 u7 hc hd htx hn HIr
        go_wp2_with fail
        refine (refEnd_any sv _ sig t q u.length wr (HS.out.kp (Kp.of_below HB.out)) (HI.out.kp (Kp.of_below HB.out)) HA.out hl2 HU1.out).mono ?_
        rintro e w5 ⟨rfl, hw5⟩
        have hw8 := hw5.symm
        subst hw8
        clear hw5
        have hS0 := below_alloc (w := wr) (.cells #[] 3)
        obtain ⟨va, wa, hra, hoa, hga⟩ := copy_ints 23 (w := wr.alloc (.cells #[] 3)) (base := wr.heap.size) (g := wr.heap.size) (empty_row (w := wr) 3 (Nat.le_refl _)) (HMi.out.kp (Kp.of_below hS0)) hS0.size (by omega)
        have hka : Below wr.heap.size wr wa := hS0.grown hga hS0.size (fun j hj => by cases hj; exact Nat.le_refl _)
        have HRa := hid hra
        have HBa := hid (below_step HB.out hka)
        have HOa := hid (hoa.mono HB.out.size)
        have HOl := hid (HO.out.later hka)
        have hpx2 := (Kp.of_below hka).cell _ _ hpx
        obtain ⟨aa, ca, hva, _, _⟩ := hoa.shape
        subst hva
        clear hra hoa hga hka hS0 HMi HU1 hbl hpx HO
        go_wp2_with (first
          | (rw [show q + u.length - q = u.length by omega])
          | (at_builtin; refine wpList_append_run rfl _ _ _ rfl _ _ rfl rfl HRa.out ?_))
        refine (refBound5_any _ L n wa HOl.out.bs).mono ?_
        rintro e w6 ⟨hw6, hre⟩
        have hw8 := hw6.symm
        subst hw8
        clear hw6
        rcases hre with ⟨hno, rfl⟩ | ⟨m, tm, hm, hsm, rfl⟩
        · have HIn := hid (HU5.out hno)
          obtain ⟨v9, w9, hr9, ho9, hb9⟩ := HOl.out.snoc 25 (x := n) (t := u) HBa.out HBa.out.size (Nat.le_refl _) ⟨HOa.out, hn1, hn2, by simp only; omega⟩ (by omega)
          have HR9 := hid hr9
          have HO9 := hid ho9
          have HB9 := hid hb9
          clear hr9 ho9 hb9 hno HU5 HU6 HU7 HRa
          go_wp2_with (first
            | (at_builtin; refine wpList_append_run rfl _ _ _ rfl _ _ rfl rfl HR9.out ?_))
          go_roundw
          case rel => exact ⟨k + 1, q + u.length, L ++ [(n, u)], hlt, u2, by rw [List.length_append]; simp; omega, by go_num, by go_num, HIn.out, HO9.out, HB9.out⟩
          case measure => simp [intOf]; omega
        · have hml := (List.getElem?_eq_some_iff.1 hm).1
          obtain ⟨gl, ol, x9, xa, t9, xc, rfl, hm9, hc0, hcx, hit, _, _, _⟩ := HOl.out.bs.at hml
          rw [hm] at hm9
          cases hm9
          have HIt := hid hit
          have HSm := hid hsm
          have hm0 : decide ((m : Int) < 0) = false := by simp
          clear hm hit hsm HRa
          go_wp2_with fail
          refine (sameRowD_any _ _ tm u wa HIt.out HOa.out.is).mono ?_
          rintro e w7 ⟨rfl, nd, hw7⟩
          have hb7 := drawn_below hw7
          have HB7 := hid (below_step HBa.out hb7)
          have HO7 := hid (HOl.out.later hb7)
          clear hb7 hw7
          by_cases hex : tm = u
          · rw [decide_eq_true hex]
            have HIn := hid (HU6.out (by rw [← hex]; exact HSm.out))
            clear HU5 HU6 HU7 hex
            go_wp2
            go_roundw
            case rel => exact ⟨k + 1, q + u.length, L, hlt, u2, by omega, by go_num, by go_num, HIn.out, HO7.out, HB7.out⟩
            case measure => simp [intOf]; omega
          · rw [decide_eq_false hex]
            have HNo := hid (HU7.out tm HSm.out hex)
            clear HU5 HU6 HU7 hex
            go_wp2
            go_ret2
            exact ⟨HB7.out, .inl ⟨rfl, HNo.out⟩⟩
      · have hcn : 0 ≤ c := by omega
        obtain ⟨s1, s2⟩ := HIr.out.sym HA.out hc hd h0
        have HS1 := hid s1
        have HS2 := hid s2
        clear s1 s2 hc hd HIr hbl
        by_cases hcd : c = d
        · subst hcd
          have hdd : (c != c) = false := by simp
          have HIn := hid (HS2.out rfl)
          clear HS1 HS2
          go_wp2
          go_quiet (fail)
          go_wp2
          go_roundw
          case rel => exact ⟨k + 1, q + 1, L, hlt, hqt, by omega, by go_num, by go_num, HIn.out, HO.out.later (drawn_below rfl), below_step HB.out (drawn_below rfl)⟩
          case measure => simp [intOf]; omega
        · have hdd : (d != c) = true := by rw [bne_iff_ne]; exact fun h => hcd h.symm
          have HNo := hid (HS1.out hcd)
          clear HS1 HS2
          go_wp2
          go_quiet (fail)
          go_wp2
          go_ret2
          exact ⟨below_step HB.out (drawn_below rfl), .inl ⟨rfl, HNo.out⟩⟩
    · obtain ⟨d1, d2⟩ := HIr.out.done (by omega)
      have HRt := hid d1
      have HSm := hid d2
      have HSo := hid (sort_vars HIr.out.once HIr.out.vars (by omega))
      have HOn := hid HIr.out.once
      clear d1 d2 hbl
      go_wp2_with fail
      refine (refSorted_any _ L w.heap.size wr (HO.out.obw (Nat.le_refl _) (Nat.le_refl _)) HB.out.size HOn.out (by omega)).mono ?_
      rintro e w2 ⟨v2, rfl, ho2, hb2⟩
      have HO2 := hid (ho2.obw (b := w.heap.size) (Nat.le_refl _) HB.out.size)
      have HB2 := hid (below_step HB.out hb2)
      clear ho2 hb2
      go_wp2
      go_ret2
      exact ⟨HB2.out, .inr ⟨_, fun n => L.lookup n, rfl, HRt.out, HSm.out, by rw [← HSo.out]; exact HO2.out⟩⟩

set_option maxRecDepth 100000 in
set_option maxHeartbeats 1600000 in
theorem refMatch_any (sv pv tv : Value) (sig : List Sy) (p t : List Int) (w : World) (hs : Sg w sv sig) (hp : Is w pv p) (ht : Is w tv t) (hl1 : p.length * 32 ≤ 140737488351232) (hl2 : t.length * 8 ≤ 140737488351232) :
    Calls Tryd.prog 11 #[sv, pv, tv] w fun e w' => Below w.heap.size w w' ∧ ((e = .returned (.tuple #[.slice none 0 0, .bool false]) ∧ (termE sig p ≠ 0 ∨ termE sig t ≠ 0 ∨ ∀ f, Rt sig f → ¬ Sm f p t)) ∨
      ∃ v f, e = .returned (.tuple #[v, .bool true]) ∧ termE sig p = 0 ∧ termE sig t = 0 ∧ Rt sig f ∧ Sm f p t ∧ OBW w.heap.size w' v (bindsL f p)) := by
  have HS := hid hs
  have HP := hid hp
  have HI := hid ht
  clear hs hp ht
  go_enter Tryd.func11, Tryd.ntmps11
  go_wp2_with fail
  refine (refCheck_any sv _ sig p w HS.out HP.out (by omega)).mono ?_
  rintro e w1 ⟨rfl, hb1⟩
  have C1 := hid hb1
  clear hb1
  by_cases hep : termE sig p = 0
  · rw [hep]
    have HEp := hid hep
    clear hep
    go_wp2_with fail
    refine (refCheck_any sv _ sig t w1 (HS.out.kp (Kp.of_below C1.out)) (HI.out.kp (Kp.of_below C1.out)) (by omega)).mono ?_
    rintro e w2 ⟨rfl, hb2⟩
    have C2 := hid (below_step C1.out hb2)
    clear hb2
    by_cases het : termE sig t = 0
    · rw [het]
      have HEt := hid het
      clear het
      go_wp2_with fail
      refine (refInner_any sv _ _ sig p t w2 (HS.out.kp (Kp.of_below C2.out)) (HP.out.kp (Kp.of_below C2.out)) (HI.out.kp (Kp.of_below C2.out)) (sigE_ok (term_parts HEp.out).1) (term_parts HEp.out).2 (term_parts HEt.out).2 hl1 hl2).mono ?_
      rintro e w3 ⟨hb3, ⟨rfl, hno⟩ | ⟨v, f, rfl, hf, hsm, hob⟩⟩
      · have C3 := hid (below_step C2.out hb3)
        have HNo := hid hno
        clear hb3 hno
        go_wp2
        go_ret2
        exact ⟨C3.out, .inl ⟨rfl, .inr (.inr HNo.out)⟩⟩
      · have C3 := hid (below_step C2.out hb3)
        have HF := hid hf
        have HSm := hid hsm
        have HOb := hid (hob.mono C2.out.size)
        clear hb3 hf hsm hob
        go_wp2
        go_ret2
        exact ⟨C3.out, .inr ⟨v, f, rfl, HEp.out, HEt.out, HF.out, HSm.out, HOb.out⟩⟩
    · have hne : (termE sig t != 0) = true := by simpa using het
      have HEt := hid het
      clear het
      go_wp2
      go_ret2
      exact ⟨C2.out, .inl ⟨rfl, .inr (.inl HEt.out)⟩⟩
  · have hne : (termE sig p != 0) = true := by simpa using hep
    have HEp := hid hep
    clear hep
    go_wp2
    go_ret2
    exact ⟨C1.out, .inl ⟨rfl, .inl HEp.out⟩⟩

end Go.Proofs.YtcijfaijjpkdoaaDoor

/- MatchBack. -/
namespace Go.Proofs.YtcijfaijjpkdoaaDoor
open Go.RowKit Go.Maps Go.BigFrame

theorem back_apply {sig : List Sy} {g : Int → Option (List Int)} {p t : List Int} (hp : termE sig p = 0) (hg : Rt sig g) (hs : Sm g p t) (hl : t.length ≤ 512) : applyE sig (bindsL g p) p = 0 ∧ applyL sig (bindsL g p) p = t := by
  obtain ⟨h1, h2⟩ := back_found hp hg hs
  obtain ⟨h3, h4⟩ := apply_of h1 hp
  rw [h2, if_neg (by omega)] at h3 h4
  exact ⟨h3, h4⟩

set_option maxRecDepth 100000 in
set_option maxHeartbeats 3200000 in
theorem matchBack_any (sv v0 v1 bv : Value) (sig : List Sy) (p t : List Int) (s : List Bd) (w : World) (hs : Sg w sv sig) (hp : Is w v0 p) (ht : Is w v1 t) (hB : Bs w bv s) (hT : Tabs w) (hl1 : p.length * 32 ≤ 140737488351232) (hl2 : t.length * 16 ≤ 140737488351232) :
    Calls Tryd.prog 5 #[sv, .agg #[v0, v1], bv] w fun e w' => e = .returned (.bool true) ∧ Below w.heap.size w w' := by
  obtain ⟨a0, c0, e0, _⟩ := hp.flatI
  subst e0
  obtain ⟨a1, c1, e1, _⟩ := ht.flatI
  subst e1
  have HS := hid hs
  have HT := hid hT
  have HP := hid hp
  have HI := hid ht
  have HB := hid hB
  clear hs hT hp ht hB
  obtain ⟨w0, hw0⟩ : ∃ X, X = w.alloc (.cells #[.slice a0 p.length c0, .slice a1 t.length c1] 36) := ⟨_, rfl⟩
  have C0 : Hid (Below w.heap.size w w0) := by rw [hw0]; exact below_alloc _
  have x0 : w0.cell? ⟨w.heap.size, 0, none⟩ = some (.slice a0 p.length c0) := by rw [hw0]; exact cell_new rfl
  have x1 : w0.cell? ⟨w.heap.size, 1, none⟩ = some (.slice a1 t.length c1) := by rw [hw0]; exact cell_new rfl
  go_enter Tryd.func5, Tryd.ntmps5
  go_wp2_with fail
  rw [← hw0]
  clear hw0
  refine region_below (by kernel_rfl) (by kernel_rfl) ?_
  go_big_quiet_want
  refine ⟨.pointer (some ⟨w.heap.size, 0, none⟩), fun w' hw' => ?_, ?_⟩
  · unfold Oper.quietAt; go_simp
  simp only [Act.put, List.setIfInBounds_toArray, List.set_cons_zero, List.set_cons_succ]
  go_big_quiet_on
  go_big_quiet_want
  refine ⟨.slice a0 p.length c0, fun w' hw' => ?_, ?_⟩
  · have hh0 := (Kp.of_below hw').cell _ _ x0; unfold Oper.quietAt; go_simp
  simp only [Act.put, List.setIfInBounds_toArray, List.set_cons_zero, List.set_cons_succ]
  go_big_quiet_on
  go_big_quiet_want
  refine ⟨.pointer (some ⟨w.heap.size, 1, none⟩), fun w' hw' => ?_, ?_⟩
  · unfold Oper.quietAt; go_simp
  simp only [Act.put, List.setIfInBounds_toArray, List.set_cons_zero, List.set_cons_succ]
  go_big_quiet_on
  go_big_quiet_want
  refine ⟨.slice a1 t.length c1, fun w' hw' => ?_, ?_⟩
  · have hh0 := (Kp.of_below hw').cell _ _ x1; unfold Oper.quietAt; go_simp
  simp only [Act.put, List.setIfInBounds_toArray, List.set_cons_zero, List.set_cons_succ]
  go_big_quiet_on
  (go_big_quiet_want; go_big_quiet_op; go_big_quiet_on)
  (go_big_quiet_want; go_big_quiet_op; go_big_quiet_on)
  refine wpQuiet_nil ?_
  intro w1 hb1
  have C1 := hid (below_step C0.out hb1)
  clear hb1 x0 x1
  go_wp2_with fail
  refine (shown5_any w1 (HT.out.below C1.out)).mono ?_
  rintro e w2 ⟨rfl, hb2⟩
  have C2 := hid (below_step C1.out hb2)
  clear hb2
  go_wp2_with fail
  refine (refCheck_any sv _ sig p w2 (HS.out.kp (Kp.of_below C2.out)) (HP.out.kp (Kp.of_below C2.out)) (by omega)).mono ?_
  rintro e w3 ⟨rfl, hb3⟩
  have C3 := hid (below_step C2.out hb3)
  clear hb3
  go_wp2_with fail
  refine (refBinds_any sv _ sig s w3 (HS.out.kp (Kp.of_below C3.out)) (HB.out.kp (Kp.of_below C3.out))).mono ?_
  rintro e w4 ⟨rfl, hb4⟩
  have C4 := hid (below_step C3.out hb4)
  clear hb4
  by_cases hep : termE sig p = 0
  · rw [hep]
    have HEp := hid hep
    clear hep
    by_cases heb : bindE sig s = 0
    · rw [heb]
      have HEb := hid heb
      clear heb
      go_wp2_with fail
      refine (refApply_any sv _ _ sig s p w4 (HS.out.kp (Kp.of_below C4.out)) (HB.out.kp (Kp.of_below C4.out)) (HP.out.kp (Kp.of_below C4.out)) (by omega)).mono ?_
      rintro e w5 ⟨v5, rfl, ho5, hb5⟩
      have C5 := hid (below_step C4.out hb5)
      have HO5 := hid ho5.is
      clear hb5 ho5
      by_cases hae : applyE sig s p = 0
      · rw [hae]
        obtain ⟨_, _, hU1, hU2⟩ := apply_ok hae
        obtain ⟨f0, hf0, hs0⟩ := back_made (s := s) HEb.out (term_parts HEp.out).2
        have hEU : termE sig (applyL sig s p) = 0 := by rw [hU2]; exact term_laid HEb.out HEp.out
        rw [← hU2] at hs0 hU1
        obtain ⟨U, hU⟩ : ∃ U, U = applyL sig s p := ⟨_, rfl⟩
        rw [← hU] at hs0 hU1 hEU HO5
        have HF0 := hid hf0
        have HS0 := hid hs0
        have HEU := hid hEU
        clear hae hU2 hf0 hs0 hEU hU
        obtain ⟨aU, cU, hvU, _, _⟩ := HO5.out.flatI
        subst hvU
        go_wp2_with fail
        refine (match_any sv _ _ sig p U w5 (HS.out.kp (Kp.of_below C5.out)) (HP.out.kp (Kp.of_below C5.out)) HO5.out (HT.out.below C5.out) hl1 (by omega)).mono ?_
        rintro e w6 ⟨hb6, ⟨rfl, hno⟩ | ⟨b6, f6, rfl, _, _, hf6, hs6, ho6⟩⟩
        · exfalso
          rcases hno with h | h | h
          · exact h HEp.out
          · exact h HEU.out
          · exact h f0 HF0.out HS0.out
        · have C6 := hid (below_step C5.out hb6)
          obtain ⟨ea, la⟩ := back_apply HEp.out hf6 hs6 hU1
          have HEa := hid ea
          have HLa := hid la
          have HO6 := hid ho6.bs
          have HU6 := hid (HO5.out.kp (Kp.of_below hb6))
          clear hb6 hf6 hs6 ho6 ea la
          go_wp2_with fail
          refine (apply_any sv _ _ sig (bindsL f6 p) p w6 (HS.out.kp (Kp.of_below C6.out)) HO6.out (HP.out.kp (Kp.of_below C6.out)) (HT.out.below C6.out) (by omega)).mono ?_
          rintro e w7 ⟨v7, rfl, ho7, hb7⟩
          rw [HEa.out]
          rw [HLa.out] at ho7
          have C7 := hid (below_step C6.out hb7)
          have HO7 := hid ho7.is
          have HU7 := hid (HU6.out.kp (Kp.of_below hb7))
          clear hb7 ho7
          go_wp2_with fail
          refine (sameRow5_any _ _ U U w7 HU7.out HO7.out).mono ?_
          rintro e w8 ⟨rfl, nd, hw8⟩
          have C8 := hid (below_step C7.out (drawn_below hw8))
          clear hw8
          rw [decide_eq_true rfl]
          clear HO5 HO6 HO7 HU6 HU7 HEa HLa HF0 HS0 HEU
          go_wp2_with fail
          refine (match_any sv _ _ sig p t w8 (HS.out.kp (Kp.of_below C8.out)) (HP.out.kp (Kp.of_below C8.out)) (HI.out.kp (Kp.of_below C8.out)) (HT.out.below C8.out) hl1 hl2).mono ?_
          rintro e w9 ⟨hb9, ⟨rfl, hno⟩ | ⟨b, f, rfl, _, het, hf, hsm, hob⟩⟩
          · have C9 := hid (below_step C8.out hb9)
            have HNo := hid hno
            clear hb9 hno
            go_wp2_with fail
            refine (refMatch_any sv _ _ sig p t w9 (HS.out.kp (Kp.of_below C9.out)) (HP.out.kp (Kp.of_below C9.out)) (HI.out.kp (Kp.of_below C9.out)) hl1 (by omega)).mono ?_
            rintro e w10 ⟨hb10, ⟨rfl, _⟩ | ⟨b2, f2, rfl, h1, h2, h3, h4, _⟩⟩
            · have C10 := hid (below_step C9.out hb10)
              clear hb10
              go_wp2
              go_ret
              exact ⟨rfl, C10.out⟩
            · exfalso
              rcases HNo.out with h | h | h
              · exact h h1
              · exact h h2
              · exact h f2 h3 h4
          · have C9 := hid (below_step C8.out hb9)
            have D9 := hid hb9
            have HF := hid hf
            have HSm := hid hsm
            have HOb := hid hob.bs
            have HEt := hid het
            clear hb9 hf hsm hob het
            go_wp2_with fail
            refine (refMatch_any sv _ _ sig p t w9 (HS.out.kp (Kp.of_below C9.out)) (HP.out.kp (Kp.of_below C9.out)) (HI.out.kp (Kp.of_below C9.out)) hl1 (by omega)).mono ?_
            rintro e w10 ⟨hb10, ⟨rfl, hno⟩ | ⟨b2, f2, rfl, _, _, _, _, _⟩⟩
            · exfalso
              rcases hno with h | h | h
              · exact h HEp.out
              · exact h HEt.out
              · exact h f HF.out HSm.out
            · have C10 := hid (below_step C9.out hb10)
              have HOb2 := hid (HOb.out.kp (Kp.of_below hb10))
              clear hb10 HOb
              by_cases h512 : 512 < t.length
              · have hd : decide ((512 : Int) < (t.length : Int)) = true := by simpa using (show (512 : Int) < (t.length : Int) by omega)
                go_wp2
                go_ret
                exact ⟨rfl, C10.out⟩
              · have hd : decide ((512 : Int) < (t.length : Int)) = false := by simpa using (show ¬ (512 : Int) < (t.length : Int) by omega)
                obtain ⟨ea, la⟩ := back_apply HEp.out HF.out HSm.out (by omega)
                have HEa := hid ea
                have HLa := hid la
                clear ea la
                go_wp2_with fail
                refine (refApply_any sv _ _ sig (bindsL f p) p w10 (HS.out.kp (Kp.of_below C10.out)) HOb2.out (HP.out.kp (Kp.of_below C10.out)) (by omega)).mono ?_
                rintro e w11 ⟨v9, rfl, ho9, hb9⟩
                rw [HEa.out]
                rw [HLa.out] at ho9
                have C11 := hid (below_step C10.out hb9)
                have HO9 := hid ho9.is
                clear hb9 ho9
                go_wp2_with fail
                refine (sameRow5_any _ _ t t w11 HO9.out (HI.out.kp (Kp.of_below C11.out))).mono ?_
                rintro e w12 ⟨rfl, nd, hw9⟩
                have C12 := hid (below_step C11.out (drawn_below hw9))
                clear hw9
                rw [decide_eq_true rfl]
                go_wp2
                go_ret
                exact ⟨rfl, C12.out⟩
      · obtain ⟨E, hE⟩ : ∃ E, E = applyE sig s p := ⟨_, rfl⟩
        have hne : (E == 0) = false := by rw [beq_eq_false_iff_ne, hE]; exact hae
        rw [← hE]
        clear hE hae HO5
        go_wp2_with fail
        refine (match_any sv _ _ sig p t w5 (HS.out.kp (Kp.of_below C5.out)) (HP.out.kp (Kp.of_below C5.out)) (HI.out.kp (Kp.of_below C5.out)) (HT.out.below C5.out) hl1 hl2).mono ?_
        rintro e w6 ⟨hb6, ⟨rfl, hno⟩ | ⟨b, f, rfl, _, het, hf, hsm, hob⟩⟩
        · have C6 := hid (below_step C5.out hb6)
          have HNo := hid hno
          clear hb6 hno
          go_wp2_with fail
          refine (refMatch_any sv _ _ sig p t w6 (HS.out.kp (Kp.of_below C6.out)) (HP.out.kp (Kp.of_below C6.out)) (HI.out.kp (Kp.of_below C6.out)) hl1 (by omega)).mono ?_
          rintro e w7 ⟨hb7, ⟨rfl, _⟩ | ⟨b2, f2, rfl, h1, h2, h3, h4, _⟩⟩
          · have C7 := hid (below_step C6.out hb7)
            clear hb7
            go_wp2
            go_ret
            exact ⟨rfl, C7.out⟩
          · exfalso
            rcases HNo.out with h | h | h
            · exact h h1
            · exact h h2
            · exact h f2 h3 h4
        · have C6 := hid (below_step C5.out hb6)
          have D6 := hid hb6
          have HF := hid hf
          have HSm := hid hsm
          have HOb := hid hob.bs
          have HEt := hid het
          clear hb6 hf hsm hob het
          go_wp2_with fail
          refine (refMatch_any sv _ _ sig p t w6 (HS.out.kp (Kp.of_below C6.out)) (HP.out.kp (Kp.of_below C6.out)) (HI.out.kp (Kp.of_below C6.out)) hl1 (by omega)).mono ?_
          rintro e w7 ⟨hb7, ⟨rfl, hno⟩ | ⟨b2, f2, rfl, _, _, _, _, _⟩⟩
          · exfalso
            rcases hno with h | h | h
            · exact h HEp.out
            · exact h HEt.out
            · exact h f HF.out HSm.out
          · have C7 := hid (below_step C6.out hb7)
            have HOb2 := hid (HOb.out.kp (Kp.of_below hb7))
            clear hb7 HOb
            by_cases h512 : 512 < t.length
            · have hd : decide ((512 : Int) < (t.length : Int)) = true := by simpa using (show (512 : Int) < (t.length : Int) by omega)
              go_wp2
              go_ret
              exact ⟨rfl, C7.out⟩
            · have hd : decide ((512 : Int) < (t.length : Int)) = false := by simpa using (show ¬ (512 : Int) < (t.length : Int) by omega)
              obtain ⟨ea, la⟩ := back_apply HEp.out HF.out HSm.out (by omega)
              have HEa := hid ea
              have HLa := hid la
              clear ea la
              go_wp2_with fail
              refine (refApply_any sv _ _ sig (bindsL f p) p w7 (HS.out.kp (Kp.of_below C7.out)) HOb2.out (HP.out.kp (Kp.of_below C7.out)) (by omega)).mono ?_
              rintro e w8 ⟨v9, rfl, ho9, hb9⟩
              rw [HEa.out]
              rw [HLa.out] at ho9
              have C8 := hid (below_step C7.out hb9)
              have HO9 := hid ho9.is
              clear hb9 ho9
              go_wp2_with fail
              refine (sameRow5_any _ _ t t w8 HO9.out (HI.out.kp (Kp.of_below C8.out))).mono ?_
              rintro e w9 ⟨rfl, nd, hw9⟩
              have C9 := hid (below_step C8.out (drawn_below hw9))
              clear hw9
              rw [decide_eq_true rfl]
              go_wp2
              go_ret
              exact ⟨rfl, C9.out⟩
    · obtain ⟨E, hE⟩ : ∃ E, E = bindE sig s := ⟨_, rfl⟩
      have hne : (E == 0) = false := by rw [beq_eq_false_iff_ne, hE]; exact heb
      rw [← hE]
      clear hE heb
      go_wp2_with fail
      refine (match_any sv _ _ sig p t w4 (HS.out.kp (Kp.of_below C4.out)) (HP.out.kp (Kp.of_below C4.out)) (HI.out.kp (Kp.of_below C4.out)) (HT.out.below C4.out) hl1 hl2).mono ?_
      rintro e w5 ⟨hb5, ⟨rfl, hno⟩ | ⟨b, f, rfl, _, het, hf, hsm, hob⟩⟩
      · have C5 := hid (below_step C4.out hb5)
        have HNo := hid hno
        clear hb5 hno
        go_wp2_with fail
        refine (refMatch_any sv _ _ sig p t w5 (HS.out.kp (Kp.of_below C5.out)) (HP.out.kp (Kp.of_below C5.out)) (HI.out.kp (Kp.of_below C5.out)) hl1 (by omega)).mono ?_
        rintro e w6 ⟨hb6, ⟨rfl, _⟩ | ⟨b2, f2, rfl, h1, h2, h3, h4, _⟩⟩
        · have C6 := hid (below_step C5.out hb6)
          clear hb6
          go_wp2
          go_ret
          exact ⟨rfl, C6.out⟩
        · exfalso
          rcases HNo.out with h | h | h
          · exact h h1
          · exact h h2
          · exact h f2 h3 h4
      · have C5 := hid (below_step C4.out hb5)
        have D5 := hid hb5
        have HF := hid hf
        have HSm := hid hsm
        have HOb := hid hob.bs
        have HEt := hid het
        clear hb5 hf hsm hob het
        go_wp2_with fail
        refine (refMatch_any sv _ _ sig p t w5 (HS.out.kp (Kp.of_below C5.out)) (HP.out.kp (Kp.of_below C5.out)) (HI.out.kp (Kp.of_below C5.out)) hl1 (by omega)).mono ?_
        rintro e w6 ⟨hb6, ⟨rfl, hno⟩ | ⟨b2, f2, rfl, _, _, _, _, _⟩⟩
        · exfalso
          rcases hno with h | h | h
          · exact h HEp.out
          · exact h HEt.out
          · exact h f HF.out HSm.out
        · have C6 := hid (below_step C5.out hb6)
          have HOb2 := hid (HOb.out.kp (Kp.of_below hb6))
          clear hb6 HOb
          by_cases h512 : 512 < t.length
          · have hd : decide ((512 : Int) < (t.length : Int)) = true := by simpa using (show (512 : Int) < (t.length : Int) by omega)
            go_wp2
            go_ret
            exact ⟨rfl, C6.out⟩
          · have hd : decide ((512 : Int) < (t.length : Int)) = false := by simpa using (show ¬ (512 : Int) < (t.length : Int) by omega)
            obtain ⟨ea, la⟩ := back_apply HEp.out HF.out HSm.out (by omega)
            have HEa := hid ea
            have HLa := hid la
            clear ea la
            go_wp2_with fail
            refine (refApply_any sv _ _ sig (bindsL f p) p w6 (HS.out.kp (Kp.of_below C6.out)) HOb2.out (HP.out.kp (Kp.of_below C6.out)) (by omega)).mono ?_
            rintro e w7 ⟨v9, rfl, ho9, hb9⟩
            rw [HEa.out]
            rw [HLa.out] at ho9
            have C7 := hid (below_step C6.out hb9)
            have HO9 := hid ho9.is
            clear hb9 ho9
            go_wp2_with fail
            refine (sameRow5_any _ _ t t w7 HO9.out (HI.out.kp (Kp.of_below C7.out))).mono ?_
            rintro e w8 ⟨rfl, nd, hw9⟩
            have C8 := hid (below_step C7.out (drawn_below hw9))
            clear hw9
            rw [decide_eq_true rfl]
            go_wp2
            go_ret
            exact ⟨rfl, C8.out⟩
  · have hne : (termE sig p != 0) = true := by simpa using hep
    clear hep
    go_wp2
    go_ret
    exact ⟨rfl, C4.out⟩

end Go.Proofs.YtcijfaijjpkdoaaDoor
