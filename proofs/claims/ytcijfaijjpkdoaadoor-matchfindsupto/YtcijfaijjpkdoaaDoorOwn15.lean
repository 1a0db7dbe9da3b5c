/- Texts of the proof, one behind the other. -/
import Derived.Test.YtcijfaijjpkdoaaDoorOwn14
import Derived.Test.YtcijfaijjpkdoaaDoorOwn10
import Derived.Test.YtcijfaijjpkdoaaDoorOwn6
/- The document's Inner and Match of layer 5 walked. -/
namespace Go.Proofs.YtcijfaijjpkdoaaDoor
open Go.RowKit Go.Maps Go.BigFrame

theorem sort_vars {L : List Bd} {p : List Int} {k : Nat} (hn : (L.map Prod.fst).Nodup) (hv : ∀ n, n ∈ L.map Prod.fst ↔ ∃ c ∈ p.take k, c < 0 ∧ n = -1 - c) (hk : p.length ≤ k) : sortB L = bindsL (fun n => L.lookup n) p := by
  unfold sortB bindsL
  rw [rise_eq (sortI_rise hn) (sortI_rise (vars_once p)) fun x => ?_]
  rw [sortI_mem, sortI_mem, hv x, mem_varsL, List.take_of_length_le hk]

set_option maxRecDepth 100000 in
set_option maxHeartbeats 3200000 in
theorem refInner_any (sv pv tv : Value) (sig : List Sy) (p t : List Int) (w : World) (hs : Sg w sv sig) (hp : Is w pv p) (ht : Is w tv t) (ha : ArOk sig) (hrp : rowE sig p = 0) (hrt : rowE sig t = 0) (hl1 : p.length * 32 ≤ 140737488351232) (hl2 : t.length * 8 ≤ 140737488351232) :
    Calls Tryd.prog 33 #[sv, pv, tv] w fun e w' => Below w.heap.size w w' ∧ ((e = .returned (.tuple #[.slice none 0 0, .bool false]) ∧ ∀ f, Rt sig f → ¬ Sm f p t) ∨
      ∃ v f, e = .returned (.tuple #[v, .bool true]) ∧ Rt sig f ∧ Sm f p t ∧ OBW w.heap.size w' v (bindsL f p)) := by
  obtain ⟨ap, cp, hpv, hcp1, hcp2, _⟩ := hp.flatI
  subst hpv
  obtain ⟨at', ct, htv, hct1, hct2, _⟩ := ht.flatI
  subst htv
  have HS := hid hs
  have HP := hid hp
  have HI := hid ht
  have HA := hid ha
  have HIn := hid (Inn.start hrp hrt)
  clear hs hp ht ha hrp hrt
  go_enter Tryd.func33, Tryd.ntmps33
  go_wp2
  go_loopw [8, 9, 10] (fun lv qv iv wr => ∃ (k q : Nat) (L : List Bd), k ≤ p.length ∧ q ≤ t.length ∧ L.length ≤ k ∧ iv = .int .i64 k ∧ qv = .int .i64 q ∧ Inn sig p t k q L ∧ OBX w.heap.size w.heap.size wr lv L ∧ Below w.heap.size w wr) (fun _ _ iv _ => p.length - (intOf iv).toNat)
  case atStart => exact ⟨0, 0, [], Nat.zero_le _, Nat.zero_le _, Nat.le_refl _, rfl, rfl, HIn.out, OBX.nil _ _ _, Below.refl _ _⟩
  case round =>
    obtain ⟨k, q, L, hk, hq, hLk, rfl, rfl, hin, hox, hbl⟩ := hrel
    have HIr := hid hin
    have HO := hid hox
    have HB := hid hbl
    clear HIn hin hox
    obtain ⟨lo, lc, hlv, hlc1, hlc2⟩ := HO.out.shape
    subst hlv
    unfold maxLen at hlc2
    by_cases hlt : k < p.length
    · have hqt := HIr.out.more hlt
      obtain ⟨gp, op, c, rfl, hc, hpx, hc1, hc2⟩ := (HP.out.kp (Kp.of_below hbl)).at hlt
      obtain ⟨gt, ot, d, rfl, hd, htx, _, _⟩ := (HI.out.kp (Kp.of_below hbl)).at hqt
      by_cases h0 : c < 0
      · have hcn : ¬ 0 ≤ c := by omega
        obtain ⟨u, u1, u2, u3, u4, u5, u6, u7⟩ := HIr.out.var HA.out hc h0
        have hul := row_ne u4
        have HU1 := hid u1
        have HU5 := hid u5
        have HU6 := hid u6
        have HU7 := hid u7
        have HMi : Hid (Is wr (.slice (some ⟨gt, ot + q, none⟩) u.length (ct - q)) u) := by
          have h9 := Is.mid (k := q) (m := u.length) (HI.out.kp (Kp.of_below hbl)) hqt u2
          rw [u3] at h9
          exact h9
        obtain ⟨n, hn⟩ : ∃ n, n = -1 - c := ⟨_, rfl⟩
        have hwn : IntKind.i64.wrap (-1 - c) = n := by rw [IntWalk.i64_in _ ⟨by omega, by omega⟩, hn]
        have hn1 : -9223372036854775808 ≤ n := by omega
        have hn2 : n ≤ 9223372036854775807 := by omega
        rw [← hn] at HU5 HU6 HU7
        have hct3 : ct ≠ q := by omega
        clear u1 u3 u4 u5 u6 u7 hc hd htx hn HIr
        go_wp2_with fail
        refine (refEnd_any sv _ sig t q u.length wr (HS.out.kp (Kp.of_below HB.out)) (HI.out.kp (Kp.of_below HB.out)) HA.out hl2 HU1.out).mono ?_
        rintro e w5 ⟨rfl, hw5⟩
        have hw8 := hw5.symm
        subst hw8
        clear hw5
        have hS0 := below_alloc (w := wr) (.cells #[] 3)
        obtain ⟨va, wa, hra, hoa, hga⟩ := copy_ints 23 (w := wr.alloc (.cells #[] 3)) (base := wr.heap.size) (g := wr.heap.size) (empty_row (w := wr) 3 (Nat.le_refl _)) (HMi.out.kp (Kp.of_below hS0)) hS0.size (by omega)
        have hka : Below wr.heap.size wr wa := hS0.grown hga hS0.size (fun j hj => by cases hj; exact Nat.le_refl _)
        have HRa := hid hra
        have HBa := hid (below_step HB.out hka)
        have HOa := hid (hoa.mono HB.out.size)
        have HOl := hid (HO.out.later hka)
        have hpx2 := (Kp.of_below hka).cell _ _ hpx
        obtain ⟨aa, ca, hva, _, _⟩ := hoa.shape
        subst hva
        clear hra hoa hga hka hS0 HMi HU1 hbl hpx HO
        go_wp2_with (first
          | (rw [show q + u.length - q = u.length by omega])
          | (at_builtin; refine wpList_append_run rfl _ _ _ rfl _ _ rfl rfl HRa.out ?_))
        refine (refBound5_any _ L n wa HOl.out.bs).mono ?_
        rintro e w6 ⟨hw6, hre⟩
        have hw8 := hw6.symm
        subst hw8
        clear hw6
        rcases hre with ⟨hno, rfl⟩ | ⟨m, tm, hm, hsm, rfl⟩
        · have HIn := hid (HU5.out hno)
          obtain ⟨v9, w9, hr9, ho9, hb9⟩ := HOl.out.snoc 25 (x := n) (t := u) HBa.out HBa.out.size (Nat.le_refl _) ⟨HOa.out, hn1, hn2, by simp only; omega⟩ (by omega)
          have HR9 := hid hr9
          have HO9 := hid ho9
          have HB9 := hid hb9
          clear hr9 ho9 hb9 hno HU5 HU6 HU7 HRa
          go_wp2_with (first
            | (at_builtin; refine wpList_append_run rfl _ _ _ rfl _ _ rfl rfl HR9.out ?_))
          go_roundw
          case rel => exact ⟨k + 1, q + u.length, L ++ [(n, u)], hlt, u2, by rw [List.length_append]; simp; omega, by go_num, by go_num, HIn.out, HO9.out, HB9.out⟩
          case measure => simp [intOf]; omega
        · have hml := (List.getElem?_eq_some_iff.1 hm).1
          obtain ⟨gl, ol, x9, xa, t9, xc, rfl, hm9, hc0, hcx, hit, _, _, _⟩ := HOl.out.bs.at hml
          rw [hm] at hm9
          cases hm9
          have HIt := hid hit
          have HSm := hid hsm
          have hm0 : decide ((m : Int) < 0) = false := by simp
          clear hm hit hsm HRa
          go_wp2_with fail
          refine (sameRowD_any _ _ tm u wa HIt.out HOa.out.is).mono ?_
          rintro e w7 ⟨rfl, nd, hw7⟩
          have hb7 := drawn_below hw7
          have HB7 := hid (below_step HBa.out hb7)
          have HO7 := hid (HOl.out.later hb7)
          clear hb7 hw7
          by_cases hex : tm = u
          · rw [decide_eq_true hex]
            have HIn := hid (HU6.out (by rw [← hex]; exact HSm.out))
            clear HU5 HU6 HU7 hex
            go_wp2
            go_roundw
            case rel => exact ⟨k + 1, q + u.length, L, hlt, u2, by omega, by go_num, by go_num, HIn.out, HO7.out, HB7.out⟩
            case measure => simp [intOf]; omega
          · rw [decide_eq_false hex]
            have HNo := hid (HU7.out tm HSm.out hex)
            clear HU5 HU6 HU7 hex
            go_wp2
            go_ret2
            exact ⟨HB7.out, .inl ⟨rfl, HNo.out⟩⟩
      · have hcn : 0 ≤ c := by omega
        obtain ⟨s1, s2⟩ := HIr.out.sym HA.out hc hd h0
        have HS1 := hid s1
        have HS2 := hid s2
        clear s1 s2 hc hd HIr hbl
        by_cases hcd : c = d
        · subst hcd
          have hdd : (c != c) = false := by simp
          have HIn := hid (HS2.out rfl)
          clear HS1 HS2
          go_wp2
          go_quiet (fail)
          go_wp2
          go_roundw
          case rel => exact ⟨k + 1, q + 1, L, hlt, hqt, by omega, by go_num, by go_num, HIn.out, HO.out.later (drawn_below rfl), below_step HB.out (drawn_below rfl)⟩
          case measure => simp [intOf]; omega
        · have hdd : (d != c) = true := by rw [bne_iff_ne]; exact fun h => hcd h.symm
          have HNo := hid (HS1.out hcd)
          clear HS1 HS2
          go_wp2
          go_quiet (fail)
          go_wp2
          go_ret2
          exact ⟨below_step HB.out (drawn_below rfl), .inl ⟨rfl, HNo.out⟩⟩
    · obtain ⟨d1, d2⟩ := HIr.out.done (by omega)
      have HRt := hid d1
      have HSm := hid d2
      have HSo := hid (sort_vars HIr.out.once HIr.out.vars (by omega))
      have HOn := hid HIr.out.once
      clear d1 d2 hbl
      go_wp2_with fail
      refine (refSorted_any _ L w.heap.size wr (HO.out.obw (Nat.le_refl _) (Nat.le_refl _)) HB.out.size HOn.out (by omega)).mono ?_
      rintro e w2 ⟨v2, rfl, ho2, hb2⟩
      have HO2 := hid (ho2.obw (b := w.heap.size) (Nat.le_refl _) HB.out.size)
      have HB2 := hid (below_step HB.out hb2)
      clear ho2 hb2
      go_wp2
      go_ret2
      exact ⟨HB2.out, .inr ⟨_, fun n => L.lookup n, rfl, HRt.out, HSm.out, by rw [← HSo.out]; exact HO2.out⟩⟩

set_option maxRecDepth 100000 in
set_option maxHeartbeats 1600000 in
theorem refMatch_any (sv pv tv : Value) (sig : List Sy) (p t : List Int) (w : World) (hs : Sg w sv sig) (hp : Is w pv p) (ht : Is w tv t) (hl1 : p.length * 32 ≤ 140737488351232) (hl2 : t.length * 8 ≤ 140737488351232) :
    Calls Tryd.prog 11 #[sv, pv, tv] w fun e w' => Below w.heap.size w w' ∧ ((e = .returned (.tuple #[.slice none 0 0, .bool false]) ∧ (termE sig p ≠ 0 ∨ termE sig t ≠ 0 ∨ ∀ f, Rt sig f → ¬ Sm f p t)) ∨
      ∃ v f, e = .returned (.tuple #[v, .bool true]) ∧ termE sig p = 0 ∧ termE sig t = 0 ∧ Rt sig f ∧ Sm f p t ∧ OBW w.heap.size w' v (bindsL f p)) := by
  have HS := hid hs
  have HP := hid hp
  have HI := hid ht
  clear hs hp ht
  go_enter Tryd.func11, Tryd.ntmps11
  go_wp2_with fail
  refine (refCheck_any sv _ sig p w HS.out HP.out (by omega)).mono ?_
  rintro e w1 ⟨rfl, hb1⟩
  have C1 := hid hb1
  clear hb1
  by_cases hep : termE sig p = 0
  · rw [hep]
    have HEp := hid hep
    clear hep
    go_wp2_with fail
    refine (refCheck_any sv _ sig t w1 (HS.out.kp (Kp.of_below C1.out)) (HI.out.kp (Kp.of_below C1.out)) (by omega)).mono ?_
    rintro e w2 ⟨rfl, hb2⟩
    have C2 := hid (below_step C1.out hb2)
    clear hb2
    by_cases het : termE sig t = 0
    · rw [het]
      have HEt := hid het
      clear het
      go_wp2_with fail
      refine (refInner_any sv _ _ sig p t w2 (HS.out.kp (Kp.of_below C2.out)) (HP.out.kp (Kp.of_below C2.out)) (HI.out.kp (Kp.of_below C2.out)) (sigE_ok (term_parts HEp.out).1) (term_parts HEp.out).2 (term_parts HEt.out).2 hl1 hl2).mono ?_
      rintro e w3 ⟨hb3, ⟨rfl, hno⟩ | ⟨v, f, rfl, hf, hsm, hob⟩⟩
      · have C3 := hid (below_step C2.out hb3)
        have HNo := hid hno
        clear hb3 hno
        go_wp2
        go_ret2
        exact ⟨C3.out, .inl ⟨rfl, .inr (.inr HNo.out)⟩⟩
      · have C3 := hid (below_step C2.out hb3)
        have HF := hid hf
        have HSm := hid hsm
        have HOb := hid (hob.mono C2.out.size)
        clear hb3 hf hsm hob
        go_wp2
        go_ret2
        exact ⟨C3.out, .inr ⟨v, f, rfl, HEp.out, HEt.out, HF.out, HSm.out, HOb.out⟩⟩
    · have hne : (termE sig t != 0) = true := by simpa using het
      have HEt := hid het
      clear het
      go_wp2
      go_ret2
      exact ⟨C2.out, .inl ⟨rfl, .inr (.inl HEt.out)⟩⟩
  · have hne : (termE sig p != 0) = true := by simpa using hep
    have HEp := hid hep
    clear hep
    go_wp2
    go_ret2
    exact ⟨C1.out, .inl ⟨rfl, .inl HEp.out⟩⟩

end Go.Proofs.YtcijfaijjpkdoaaDoor

/- MatchFinds. -/
namespace Go.Proofs.YtcijfaijjpkdoaaDoor
open Go.RowKit Go.Maps Go.BigFrame

theorem ownB_spl {w w' : World} {b T : Nat} {e : TypeId} {s n : Nat} {v : Value} {xs : List Value} (h : w.ownsRow T e s v n xs) (hs : Spl b T w w') : w'.ownsRow T e s v n xs := by
  refine ⟨h.1, ?_⟩
  rcases h.2 with h | ⟨g, cap, cur, rfl, hb, hgg, r⟩
  · exact .inl h
  · exact .inr ⟨g, cap, cur, rfl, hb, (hs.block g (Array.getElem?_eq_some_iff.1 hgg).1 (.inr hb)).trans hgg, r⟩

theorem OBW.spl {w w' : World} {b T : Nat} {v : Value} {s : List Bd} (h : OBW T w v s) (hs : Spl b T w w') : OBW T w' v s := by
  obtain ⟨us, hl, hc, ho⟩ := h
  exact ⟨us, hl, fun i u c h1 h2 => ⟨⟨(hc i u c h1 h2).1.1, ownB_spl (hc i u c h1 h2).1.2 hs⟩, (hc i u c h1 h2).2⟩, ownB_spl ho hs⟩

theorem belowB_spl {w w6 w' : World} {T : Nat} (h : Below w.heap.size w w6) (hs : Spl w.heap.size T w6 w') : Below w.heap.size w w' :=
  ⟨hs.os.trans h.os, hs.tape.trans h.tape, hs.output.trans h.output, Nat.le_trans h.size hs.size, fun k hk => (hs.block k (Nat.lt_of_lt_of_le hk h.size) (.inl hk)).trans (h.block k hk)⟩

/-- What the spoiling reads of binds of one's own. -/
theorem OBW.open {base : Nat} {w w' : World} {v : Value} {s : List Bd} (h : OBW base w v s) (hb : Below w.heap.size w w') : ∃ (us : List Value) (xo : Option Addr) (xc : Nat), v = .slice xo s.length xc ∧ s.length ≤ xc ∧ xc ≤ 9223372036854775807 ∧ us.length = s.length ∧
    (∀ (j : Nat) (u : Value) (b : Bd), us[j]? = some u → s[j]? = some b → RowS w' base w.heap.size 3 u b.2.length ∧ b.2.length * 8 ≤ 140737488351232) ∧
    (0 < s.length → ∃ ga, xo = some ⟨ga, 0, none⟩ ∧ Shp w' ga 30 (xc * 2) ∧ base ≤ ga ∧ ga < w.heap.size ∧ ∀ (j : Nat) (u : Value), us[j]? = some u → w'.cell? ⟨ga, j * 2 + 1, none⟩ = some u) := by
  obtain ⟨us, hl, hc, ho⟩ := h
  have hrow : ∀ (j : Nat) (u : Value) (b : Bd), us[j]? = some u → s[j]? = some b → RowS w' base w.heap.size 3 u b.2.length ∧ b.2.length * 8 ≤ 140737488351232 := fun j u b hj hx => ⟨RowS.of (hc j u b hj hx).1.2 hb, (hc j u b hj hx).2.2.2⟩
  have ho2 := ho
  have ho3 := ownsRow_later ho hb
  rcases ho2.2 with ⟨hv, hn⟩ | ⟨g, cap, cur, hv, hbg, hg, hcap, hm, hs, ht⟩
  · refine ⟨us, none, 0, by rw [hv, hn], by omega, by omega, hl, hrow, fun h0 => by omega⟩
  · have hlt := (Array.getElem?_eq_some_iff.1 hg).1
    refine ⟨us, _, cap, hv, hcap, by unfold maxLen at hm; omega, hl, hrow, fun _ => ⟨g, rfl, ⟨cur, by rw [hb.block g hlt]; exact hg, by omega⟩, hbg, hlt, fun j u hj => ?_⟩⟩
    rw [hv] at ho3
    have hjl : j < s.length := by have := (List.getElem?_eq_some_iff.1 hj).1; omega
    rw [World.ownsRow.cellAt ho3 (j * 2 + 1) (by omega)]
    exact (flatB_get (List.getElem?_eq_getElem hjl) hj).2

set_option maxRecDepth 100000 in
set_option maxHeartbeats 3200000 in
theorem matchFinds_any (sv pv tv : Value) (sig : List Sy) (p t : List Int) (w : World) (hs : Sg w sv sig) (hp : Is w pv p) (ht : Is w tv t) (hT : Tabs w) (hl1 : p.length * 32 ≤ 140737488351232) (hl2 : t.length * 16 ≤ 140737488351232) :
    Calls Tryd.prog 3 #[sv, pv, tv] w fun e w' => e = .returned (.bool true) ∧ Below w.heap.size w w' := by
  obtain ⟨i1, hi1, hy0, hy1, hy2⟩ := info_parts info_int
  obtain ⟨ap, cp, hpv, _⟩ := hp.flatI
  subst hpv
  obtain ⟨at', ct, htv, _⟩ := ht.flatI
  subst htv
  have HS := hid hs
  have HP := hid hp
  have HI := hid ht
  have HT := hid hT
  clear hs hp ht hT
  go_enter Tryd.func3, Tryd.ntmps3
  go_wp2_with fail
  refine (shown5_any w HT.out).mono ?_
  rintro e w1 ⟨rfl, hb1⟩
  have C1 := hid hb1
  clear hb1
  have hS0 := below_alloc (w := w1) (.cells #[] 3)
  obtain ⟨v2, w2, hr2, ho2, hg2⟩ := copy_ints 23 (w := w1.alloc (.cells #[] 3)) (base := w1.heap.size) (g := w1.heap.size) (empty_row (w := w1) 3 (Nat.le_refl _)) (HP.out.kp (Kp.of_below (below_step C1.out hS0))) hS0.size (by omega)
  have hk2 : Below w1.heap.size w1 w2 := hS0.grown hg2 hS0.size (fun j hj => by cases hj; exact Nat.le_refl _)
  have C2 := hid (below_step C1.out hk2)
  have hT0 := below_alloc (w := w2) (.cells #[] 3)
  obtain ⟨v3, w3, hr3, ho3, hg3⟩ := copy_ints 23 (w := w2.alloc (.cells #[] 3)) (base := w2.heap.size) (g := w2.heap.size) (empty_row (w := w2) 3 (Nat.le_refl _)) (HI.out.kp (Kp.of_below (below_step C2.out hT0))) hT0.size (by omega)
  have hk3 : Below w2.heap.size w2 w3 := hT0.grown hg3 hT0.size (fun j hj => by cases hj; exact Nat.le_refl _)
  have C3 := hid (below_step C2.out hk3)
  have HP2 := hid (ho2.is.kp (Kp.of_below hk3))
  have HT2 := hid ho3.is
  have HR2 := hid hr2
  have HR3 := hid hr3
  clear hS0 hT0 hr2 ho2 hg2 hk2 hr3 ho3 hg3 hk3
  go_wp2_with (first
    | (at_builtin; refine wpList_append_run rfl _ _ _ rfl _ _ rfl rfl HR2.out ?_)
    | (at_builtin; refine wpList_append_run rfl _ _ _ rfl _ _ rfl rfl HR3.out ?_))
  clear HR2 HR3
  refine (match_any sv v2 v3 sig p t w3 (HS.out.kp (Kp.of_below C3.out)) HP2.out HT2.out (HT.out.below C3.out) hl1 hl2).mono ?_
  rintro e w4 ⟨hb4, ⟨rfl, hno⟩ | ⟨av, f, rfl, hep, het, hf, hsm, hob⟩⟩
  · have C4 := hid (below_step C3.out hb4)
    have D4 := hid hb4
    have HNo := hid hno
    clear hb4 hno
    go_wp2_with fail
    refine (refMatch_any sv _ _ sig p t w4 (HS.out.kp (Kp.of_below C4.out)) (HP.out.kp (Kp.of_below C4.out)) (HI.out.kp (Kp.of_below C4.out)) hl1 (by omega)).mono ?_
    rintro e w5 ⟨hb5, ⟨rfl, _⟩ | ⟨b2, f2, rfl, h1, h2, h3, h4, _⟩⟩
    · have C5 := hid (below_step C4.out hb5)
      have D5 := hid (below_step D4.out hb5)
      clear hb5
      go_wp2_with fail
      refine (same5_any _ _ [] w5 (Row.nil (by simp [maxLen])) (Row.nil (by simp [maxLen]))).mono ?_
      rintro e w6 ⟨rfl, hb6⟩
      have C6 := hid (below_step C5.out hb6)
      have D6 := hid (below_step D5.out hb6)
      clear hb6
      go_wp2
      go_loopw [15] (fun iv wr => iv = .int .i64 0 ∧ wr = w6) (fun _ _ => 0)
      case atStart => exact ⟨rfl, rfl⟩
      case round =>
        obtain ⟨rfl, hw⟩ := hrel
        have hw8 := hw.symm
        subst hw8
        clear hw
        go_wp2_with fail
        refine (sameRow5_any _ _ p p w6 (HP2.out.kp (Kp.of_below D6.out)) (HP.out.kp (Kp.of_below C6.out))).mono ?_
        rintro e w7 ⟨rfl, n7, hw7⟩
        have C7 := hid (below_step C6.out (drawn_below hw7))
        have D7 := hid (below_step D6.out (drawn_below hw7))
        clear hw7
        rw [decide_eq_true rfl]
        go_wp2_with fail
        refine (sameRow5_any _ _ t t w7 (HT2.out.kp (Kp.of_below D7.out)) (HI.out.kp (Kp.of_below C7.out))).mono ?_
        rintro e w8 ⟨rfl, n8, hw8⟩
        have C8 := hid (below_step C7.out (drawn_below hw8))
        have D8 := hid (below_step D7.out (drawn_below hw8))
        clear hw8
        rw [decide_eq_true rfl]
        go_wp2_with fail
        refine (match_any sv v2 v3 sig p t w8 (HS.out.kp (Kp.of_below C8.out)) (HP2.out.kp (Kp.of_below D8.out)) (HT2.out.kp (Kp.of_below D8.out)) (HT.out.below C8.out) hl1 hl2).mono ?_
        rintro e w9 ⟨hb9, ⟨rfl, _⟩ | ⟨b2, f2, rfl, h1, h2, h3, h4, _⟩⟩
        · have C9 := hid (below_step C8.out hb9)
          clear hb9
          go_wp2_with fail
          refine (same5_any _ _ [] w9 (Row.nil (by simp [maxLen])) (Row.nil (by simp [maxLen]))).mono ?_
          rintro e w10 ⟨rfl, hb10⟩
          have C10 := hid (below_step C9.out hb10)
          clear hb10
          go_wp2
          go_ret
          exact ⟨rfl, C10.out⟩
        · exfalso
          rcases HNo.out with h | h | h
          · exact h h1
          · exact h h2
          · exact h f2 h3 h4
    · exfalso
      rcases HNo.out with h | h | h
      · exact h h1
      · exact h h2
      · exact h f2 h3 h4
  · have C4 := hid (below_step C3.out hb4)
    have D4 := hid hb4
    have HEp := hid hep
    have HEt := hid het
    have HF := hid hf
    have HSm := hid hsm
    have HOa := hid hob
    clear hb4 hep het hf hsm hob
    go_wp2_with fail
    refine (refMatch_any sv _ _ sig p t w4 (HS.out.kp (Kp.of_below C4.out)) (HP.out.kp (Kp.of_below C4.out)) (HI.out.kp (Kp.of_below C4.out)) hl1 (by omega)).mono ?_
    rintro e w5 ⟨hb5, ⟨rfl, hno⟩ | ⟨bv, f2, rfl, _, _, hf2, hsm2, hob2⟩⟩
    · exfalso
      rcases hno with h | h | h
      · exact h HEp.out
      · exact h HEt.out
      · exact h f HF.out HSm.out
    · rw [binds_unique hf2 HF.out hsm2 HSm.out] at hob2
      have C5 := hid (below_step C4.out hb5)
      have D5 := hid (below_step D4.out hb5)
      have K5 := hid hb5
      have HOb := hid hob2
      obtain ⟨BL, hBL⟩ : ∃ BL, BL = bindsL f p := ⟨_, rfl⟩
      rw [← hBL] at HOa HOb
      have HBL := hid hBL
      clear hb5 hf2 hsm2 hob2 hBL
      go_wp2_with fail
      refine (same5_any _ _ BL w5 (HOa.out.later K5.out).bs HOb.out.bs).mono ?_
      rintro e w6 ⟨rfl, hb6⟩
      have C6 := hid (below_step C5.out hb6)
      have D6 := hid (below_step D5.out hb6)
      have K6 := hid (below_step K5.out hb6)
      have HOb6 := hid (HOb.out.later hb6)
      clear hb6 K5 D5 HOb
      obtain ⟨us, xo, xc, hav, hxc1, hxc2, husl, hrow, hform⟩ := HOa.out.open K6.out
      subst hav
      have HRow := hid hrow
      have HForm := hid hform
      have HUl := hid husl
      clear hrow hform husl HOa
      go_wp2
      go_loopw [15] (fun iv wr => ∃ i : Nat, i ≤ BL.length ∧ iv = .int .i64 i ∧ Spl w3.heap.size w4.heap.size w6 wr ∧ ∀ (j : Nat) (u : Value) (ga : Nat), i ≤ j → xo = some ⟨ga, 0, none⟩ → us[j]? = some u → wr.cell? ⟨ga, j * 2 + 1, none⟩ = some u) (fun iv _ => BL.length - (intOf iv).toNat)
      case atStart =>
        refine ⟨0, Nat.zero_le _, rfl, Spl.refl _ _ _, fun j u ga _ e hu => ?_⟩
        have hjl := (List.getElem?_eq_some_iff.1 hu).1
        obtain ⟨ga', e', _, _, _, hc⟩ := HForm.out (by rw [← HUl.out]; omega)
        rw [e] at e'
        cases e'
        exact hc j u hu
      case round =>
        obtain ⟨i, hi, rfl, hsp, hcs2⟩ := hrel
        have HSp := hid hsp
        have HCs := hid hcs2
        clear hsp hcs2
        by_cases hil : i < BL.length
        · obtain ⟨ga, rfl, hsA, hga1, hga2, _⟩ := HForm.out (by omega)
          have HSA := hid hsA
          obtain ⟨u, hu⟩ : ∃ u, us[i]? = some u := ⟨_, List.getElem?_eq_getElem (by rw [HUl.out]; exact hil)⟩
          obtain ⟨x, hx⟩ : ∃ x, BL[i]? = some x := ⟨_, List.getElem?_eq_getElem hil⟩
          obtain ⟨hrow, hxl⟩ := HRow.out i u x hu hx
          obtain ⟨ro, rcp, rfl, hrc1, hrc2⟩ := hrow.form
          unfold maxLen at hrc2
          have y1 := HCs.out i _ ga (Nat.le_refl _) rfl hu
          have HRw := hid hrow
          clear hrow hu hx hsA
          generalize x.2.length = n1 at hxl hrc1 HRw y1
          obtain ⟨wo, hwo⟩ : ∃ X, X = wr := ⟨wr, rfl⟩
          rw [← hwo] at HSp HCs y1 ⊢
          clear hwo
          go_wp2_with fail
          go_loopw [16] (fun kv wx => ∃ k : Nat, k ≤ n1 ∧ kv = .int .i64 k ∧ Spl w3.heap.size w4.heap.size w6 wx ∧ wx.heap[ga]? = wo.heap[ga]?) (fun kv _ => n1 - (intOf kv).toNat)
          case atStart => exact ⟨0, Nat.zero_le _, rfl, HSp.out, rfl⟩
          case round =>
            obtain ⟨k, hk, rfl, hspx, hgx⟩ := hrel
            have HSx := hid hspx
            have HGx := hid hgx
            have z1 : wr.cell? ⟨ga, i * 2 + 1, none⟩ = some (.slice ro n1 rcp) := by rw [World.cell?_of_block hgx]; exact y1
            by_cases hkn : k < n1
            · obtain ⟨g1, rfl, hg1, hg2, hsh⟩ := (HRw.out.spl hspx).at hkn
              obtain ⟨⟨u1, hu1⟩, hf1⟩ := hsh.cell (Nat.lt_of_lt_of_le hkn hrc1)
              have hne : ga ≠ g1 := (hspx.shape _ _ _ HSA.out).ne hsh (by decide)
              clear hspx hgx hsh
              go_wp2
              go_roundw
              case rel => exact ⟨k + 1, by omega, by go_num, HSx.out.setCell (.inl ⟨hg1, hg2⟩) _ _, by rw [heap_setCell_other _ _ _ _ hne]; exact HGx.out⟩
              case measure => simp [intOf]; omega
            · have hke : k = n1 := by omega
              clear hspx hgx
              obtain ⟨g4, cap4, w4', hr4, hsh4, hc4, hm4, hg4, hsp4, hk4⟩ := append_spl 23 23 3 i1 _ 8 under_ints hi1 hy0 hy1 hy2 rfl (HRw.out.spl (HSx.out.trans (Spl.below (below_alloc (.cells #[.int .i64 98] 3))))) (ad := ⟨wr.heap.size, 0, none⟩) (c := 1) (cell_new rfl) rfl (by omega) (by unfold maxLen; omega)
              obtain ⟨hs4, hgp4⟩ := after_append HSx.out HGx.out hsp4 hk4 HSA.out (by decide)
              unfold maxLen at hm4
              have HR4 := hid hr4
              have HS4 := hid hs4
              have HG4 := hid hgp4
              obtain ⟨⟨q1, hq1⟩, hq2⟩ := (hs4.shape _ _ _ HSA.out).cell (k := i * 2 + 1) (by omega)
              have z2 := cell_old (o := .cells #[.int .i64 98] 3) z1
              have hgw : ga < wr.heap.size := World.block_lt_of_cell? _ _ z1
              clear hr4 hs4 hgp4 hsp4 hk4 hsh4 hg4
              go_wp2_with (first
                | (at_builtin; refine wpList_append_run rfl _ _ _ rfl _ _ rfl rfl HR4.out ?_))
              go_roundw
              case rel =>
                refine ⟨i + 1, by omega, by go_num, HS4.out.setCell (.inl ⟨hga1, hga2⟩) _ _, fun j u2 gb hj e hu2 => ?_⟩
                cases e
                rw [World.cell?_setCell_other _ _ _ _ (by simp <;> omega), World.cell?_of_block HG4.out]
                exact HCs.out j u2 ga (by omega) rfl hu2
              case measure => simp [intOf]; omega
        · have DW := hid (belowB_spl D6.out HSp.out)
          have HOb2 := hid (HOb6.out.spl HSp.out)
          have CW := hid (below_step C3.out DW.out)
          clear HCs
          go_wp2_with fail
          refine (sameRow5_any _ _ p p wr (HP2.out.kp (Kp.of_below DW.out)) (HP.out.kp (Kp.of_below CW.out))).mono ?_
          rintro e w7 ⟨rfl, n7, hw7⟩
          have C7 := hid (below_step CW.out (drawn_below hw7))
          have D7 := hid (below_step DW.out (drawn_below hw7))
          have HOb7 := hid (HOb2.out.later (drawn_below hw7))
          clear hw7
          rw [decide_eq_true rfl]
          go_wp2_with fail
          refine (sameRow5_any _ _ t t w7 (HT2.out.kp (Kp.of_below D7.out)) (HI.out.kp (Kp.of_below C7.out))).mono ?_
          rintro e w8 ⟨rfl, n8, hw8⟩
          have C8 := hid (below_step C7.out (drawn_below hw8))
          have D8 := hid (below_step D7.out (drawn_below hw8))
          have HOb8 := hid (HOb7.out.later (drawn_below hw8))
          clear hw8
          rw [decide_eq_true rfl]
          go_wp2_with fail
          refine (match_any sv v2 v3 sig p t w8 (HS.out.kp (Kp.of_below C8.out)) (HP2.out.kp (Kp.of_below D8.out)) (HT2.out.kp (Kp.of_below D8.out)) (HT.out.below C8.out) hl1 hl2).mono ?_
          rintro e w9 ⟨hb9, ⟨rfl, hno⟩ | ⟨cv, f9, rfl, _, _, hf9, hs9, ho9⟩⟩
          · exfalso
            rcases hno with h | h | h
            · exact h HEp.out
            · exact h HEt.out
            · exact h f HF.out HSm.out
          · rw [binds_unique hf9 HF.out hs9 HSm.out, ← HBL.out] at ho9
            have C9 := hid (below_step C8.out hb9)
            have HO9 := hid ho9
            have HOb9 := hid (HOb8.out.later hb9)
            clear hb9 hf9 hs9 ho9
            go_wp2_with fail
            refine (same5_any _ _ BL w9 HO9.out.bs HOb9.out.bs).mono ?_
            rintro e w10 ⟨rfl, hb10⟩
            have C10 := hid (below_step C9.out hb10)
            clear hb10
            go_wp2
            go_ret
            exact ⟨rfl, C10.out⟩

end Go.Proofs.YtcijfaijjpkdoaaDoor
