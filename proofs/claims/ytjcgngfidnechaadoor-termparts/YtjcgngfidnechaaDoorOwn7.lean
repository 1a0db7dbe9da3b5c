/- Texts of the proof, one behind the other. -/
import Derived.Test.YtjcgngfidnechaaDoorOwn6
import Derived.Test.YtjcgngfidnechaaDoorOwn3
import Derived.Deep.LoopGhost
/- The document's End and place walked. -/
namespace Go.Proofs.YtjcgngfidnechaaDoor
open Go.RowKit Go.Maps Go.BigFrame

theorem codeD_neg {sig : List Sy} {c e : Int} (h : codeD sig c = some e) (hc : c < 0) : e = -1 := by
  unfold codeD at h
  split at h
  · cases h
  · first
    | (rw [if_pos hc] at h; cases h; rfl)
    | (cases h; rfl)

theorem codeD_get {sig : List Sy} {c : Nat} {e : Int} (h : codeD sig (c : Int) = some e) : ∃ s, sig[c]? = some s ∧ e = s.2 - 1 := by
  unfold codeD at h
  rw [if_neg (by omega), if_neg (by omega), Int.toNat_natCast] at h
  cases hs : sig[c]? with
  | none => rw [hs] at h; cases h
  | some s =>
    rw [hs] at h
    cases h
    exact ⟨s, rfl, rfl⟩

set_option maxRecDepth 100000 in
set_option maxHeartbeats 1600000 in
theorem refEnd_any (sv v : Value) (sig : List Sy) (t : List Int) (k n : Nat) (w : World) (hs : Sg w sv sig) (h : Is w v t) (ha : ArOk sig) (hb : t.length * 8 ≤ 140737488351232) (hn : firstT sig 1 0 (t.drop k) = ((n : Int), 0)) :
    Calls Tryd.prog 42 #[sv, v, .int .i64 k] w fun e w' => e = .returned (.int .i64 ((k + n : Nat) : Int)) ∧ w' = w := by
  obtain ⟨so, sc, rfl, hso, hsc, _⟩ := Row.flat hs
  obtain ⟨ao, cap, rfl, hao, hca, q0⟩ := Row.flat h
  unfold maxLen at hca hsc
  have HS := hid hs
  have HT := hid h
  have HA := hid ha
  have HN := hid hn
  have hkl : k < t.length := by
    by_cases hk : k < t.length
    · exact hk
    · rw [List.drop_of_length_le (by omega)] at hn
      simp [firstT] at hn
  clear hs h q0 ha hn
  go_enter Tryd.func42, Tryd.ntmps42
  go_wp2
  go_loopw [2, 7] (fun a x wr => ∃ (j : Nat) (m : Int), a = .int .i64 ((k + j : Nat) : Int) ∧ x = .int .i64 m ∧ k + j ≤ t.length ∧ ((0 < m ∧ firstT sig m j (t.drop (k + j)) = ((n : Int), 0)) ∨ (m = 0 ∧ j = n)) ∧ m ≤ 1 + 1000 * (j : Int) ∧ wr = w) (fun a _ _ => t.length + 1 - (intOf a).toNat)
  case atStart => exact ⟨0, 1, rfl, rfl, by omega, .inl ⟨by omega, HN.out⟩, by omega, rfl⟩
  case round =>
    obtain ⟨j, m, rfl, rfl, hkj, hft, hm2, hw⟩ := hrel
    have hw8 := hw.symm
    subst hw8
    clear hw HN
    rcases hft with ⟨hm0, hft⟩ | ⟨rfl, rfl⟩
    · have hlt : k + j < t.length := by
        by_cases hk : k + j < t.length
        · exact hk
        · rw [List.drop_of_length_le (by omega)] at hft
          simp [firstT] at hft
      obtain ⟨g, off, c, rfl, hx1, hx2, hx3, hx4⟩ := HT.out.at hlt
      rw [drop_get hx1, firstT_cons] at hft
      cases hcd : codeD sig c with
      | none => rw [hcd] at hft; simp at hft
      | some e =>
        have hge := codeD_ge HA.out hcd
        have HD : Hid ((0 < m + e ∧ firstT sig (m + e) (j + 1) (t.drop (k + (j + 1))) = ((n : Int), 0)) ∨ (m + e = 0 ∧ j + 1 = n)) := by
          rw [hcd] at hft
          simp only at hft
          by_cases h0 : m + e = 0
          · rw [if_pos h0] at hft
            have := congrArg Prod.fst hft
            simp only at this
            exact .inr ⟨h0, by omega⟩
          · rw [if_neg h0] at hft
            exact .inl ⟨by omega, hft⟩
        clear hft
        have hwk : IntKind.i64.wrap ((k : Int) + (j : Int) + 1) = ((k + (j + 1) : Nat) : Int) := by rw [IntWalk.i64_in _ ⟨by omega, by omega⟩]; omega
        by_cases hc0 : c < 0
        · have he := codeD_neg hcd hc0
          subst he
          have hcn : ¬ 0 ≤ c := by omega
          have hwm : IntKind.i64.wrap (m - 1) = m + -1 := by rw [IntWalk.i64_in _ ⟨by omega, by omega⟩]; omega
          clear hcd hx1
          go_wp2
          go_roundw
          case rel => exact ⟨j + 1, m + -1, by go_num, rfl, by omega, HD.out, by omega, trivial⟩
          case measure => simp [intOf]; omega
        · obtain ⟨cn, rfl⟩ : ∃ cn : Nat, c = cn := ⟨c.toNat, by omega⟩
          have hcn : (0 : Int) ≤ (cn : Int) := by omega
          obtain ⟨s, hsg, he⟩ := codeD_get hcd
          have hcl := (List.getElem?_eq_some_iff.1 hsg).1
          obtain ⟨g2, off2, nm, ar, rfl, hs1, hs2, hs3, hs4, hs5, hs6⟩ := HS.out.at (k := cn) hcl
          rw [hsg] at hs1
          cases hs1
          have har := HA.out _ (List.mem_of_getElem? hsg)
          simp only at har he
          subst he
          have hwm1 : IntKind.i64.wrap (m - 1) = m - 1 := IntWalk.i64_in _ ⟨by omega, by omega⟩
          have hwm : IntKind.i64.wrap (m - 1 + ar) = m + (ar - 1) := by rw [IntWalk.i64_in _ ⟨by omega, by omega⟩]; omega
          clear hsg hx1 hcd
          go_wp2
          go_roundw
          case rel => exact ⟨j + 1, m + (ar - 1), by go_num, rfl, by omega, HD.out, by omega, trivial⟩
          case measure => simp [intOf]; omega
    · go_wp2
      go_ret
      exact ⟨rfl, rfl⟩

/-- What is wrong with a place. -/
theorem place_eq {sig : List Sy} {t : List Int} {p : Int} (h : termE sig t = 0) : placeE sig t p = if p < 0 ∨ (t.length : Int) ≤ p then 33 else 0 := by
  unfold placeE
  rw [if_pos h]
  unfold endP
  by_cases hp : p < 0 ∨ (t.length : Int) ≤ p
  · rw [if_pos hp, if_pos hp]
  · rw [if_neg hp, if_neg hp]
    obtain ⟨k, rfl⟩ : ∃ k : Nat, p = k := ⟨p.toNat, by omega⟩
    have hk : k < t.length := by omega
    obtain ⟨h1, h2⟩ := term_parts h
    obtain ⟨_, _, h3, _⟩ := at_place (sigE_ok h1) h2 hk
    rw [Int.toNat_natCast, h3]

theorem place_in {sig : List Sy} {t : List Int} {k : Nat} (h : termE sig t = 0) (hk : k < t.length) : placeE sig t k = 0 := by
  rw [place_eq h, if_neg (by omega)]

theorem place_end {sig : List Sy} {t : List Int} {k : Nat} (h : termE sig t = 0) (hk : k < t.length) : endP sig t k = (((k + nodes sig t k : Nat) : Int), 0) := by
  obtain ⟨h1, h2⟩ := term_parts h
  obtain ⟨_, _, h3, _⟩ := at_place (sigE_ok h1) h2 hk
  unfold endP
  rw [if_neg (by omega), Int.toNat_natCast, h3]
  simp only [Prod.mk.injEq, and_true]
  omega

theorem sub_eq {sig : List Sy} {t : List Int} {k : Nat} (h : termE sig t = 0) (hk : k < t.length) : subL sig t k = (t.drop k).take (nodes sig t k) := by
  unfold subL
  rw [if_pos (place_in h hk), place_end h hk, Int.toNat_natCast, Int.toNat_natCast, show k + nodes sig t k - k = nodes sig t k by omega]

set_option maxRecDepth 100000 in
set_option maxHeartbeats 800000 in
theorem refPlace_any (sv v : Value) (sig : List Sy) (t : List Int) (p : Int) (w : World) (hs : Sg w sv sig) (h : Is w v t) (hb : t.length * 8 ≤ 140737488351232) (hp1 : -9223372036854775808 ≤ p) (hp2 : p ≤ 9223372036854775807) :
    Calls Tryd.prog 41 #[sv, v, .int .i64 p] w fun e w' => e = .returned (.int .i64 (placeE sig t p)) ∧ Below w.heap.size w w' := by
  obtain ⟨ao, cap, rfl, hao, hca, q0⟩ := Row.flat h
  unfold maxLen at hca
  have HS := hid hs
  have HI := hid h
  clear hs h q0
  go_enter Tryd.func41, Tryd.ntmps41
  go_wp2_with fail
  refine (refCheck_any sv _ sig t w HS.out HI.out hb).mono ?_
  rintro e w1 ⟨rfl, hb1⟩
  have HB := hid hb1
  clear hb1
  by_cases he : termE sig t = 0
  · have HF := hid (place_eq (p := p) he)
    rw [he]
    clear he
    by_cases h0 : p < 0
    · have HG : Hid (placeE sig t p = 33) := by show _ = _; rw [HF.out, if_pos (.inl h0)]
      go_wp2
      go_ret
      exact ⟨ret1i HG.out.symm, HB.out⟩
    · by_cases h1 : (t.length : Int) ≤ p
      · have HG : Hid (placeE sig t p = 33) := by show _ = _; rw [HF.out, if_pos (.inr h1)]
        go_wp2
        go_ret
        exact ⟨ret1i HG.out.symm, HB.out⟩
      · have HG : Hid (placeE sig t p = 0) := by show _ = _; rw [HF.out, if_neg (by omega)]
        go_wp2
        go_ret
        exact ⟨ret1i HG.out.symm, HB.out⟩
  · have HF : Hid (placeE sig t p = termE sig t) := by show _ = _; unfold placeE; rw [if_neg he]
    generalize termE sig t = E at he HF ⊢
    have heb : (E == 0) = false := by simpa using he
    go_wp2
    go_ret
    exact ⟨ret1i HF.out.symm, HB.out⟩

end Go.Proofs.YtjcgngfidnechaaDoor

/- The document's Kids, Sub, Above, Vars walked. -/
namespace Go.Proofs.YtjcgngfidnechaaDoor
open Go.RowKit Go.Maps Go.BigFrame

/-- A symbol's arguments, where they stand. -/
theorem kids_parts {sig : List Sy} {t : List Int} {k : Nat} {c : Int} (h : placeE sig t k = 0) (hc : t[k]? = some c) (h0 : ¬ c < 0) :
    ∃ (us : List (List Int)) (q : List Int), us.length = arN sig c ∧ t.drop (k + 1) = us.flatten ++ q ∧ (∀ u ∈ us, rowE sig u = 0) ∧ kidsL sig t k = places (k + 1) (us.map List.length) := by
  obtain ⟨ha, hr, k', m, hk, hkl, hm1, hend, hkm, hsub, hrow⟩ := placeE_ok h
  obtain rfl : k = k' := by omega
  have hd := drop_get hc
  obtain ⟨m', rfl⟩ : ∃ m', m = m' + 1 := ⟨m - 1, by omega⟩
  rw [hd, List.take_succ_cons] at hsub hrow
  obtain ⟨us, u1, u2, u3, u4⟩ := kids_tree ha hrow h0
  refine ⟨us, (t.drop (k + 1)).drop m', u1, by rw [← u2, List.take_append_drop], u3, ?_⟩
  unfold kidsL
  rw [hsub, Int.toNat_natCast, u4]
  show kidsGo (k + 1) (us.flatMap (growR sig)) = _
  rw [kids_places, ← grow_map ha us u3, grow_flat ha us u3]

theorem kids_var {sig : List Sy} {t : List Int} {k : Nat} {c : Int} (h : placeE sig t k = 0) (hc : t[k]? = some c) (h0 : c < 0) : kidsL sig t k = [] := by
  rw [kids_eq h hc, if_pos h0]

theorem drop_next {us : List (List Int)} {i : Nat} {u : List Int} (h : us[i]? = some u) (q : List Int) : (us.drop i).flatten ++ q = u ++ ((us.drop (i + 1)).flatten ++ q) := by
  rw [drop_get h, List.flatten_cons, List.append_assoc]

theorem first_right {sig : List Sy} {u : List Int} (h : rowE sig u = 0) (q : List Int) : firstT sig 1 0 (u ++ q) = ((u.length : Int), 0) := first_more q u 1 0 _ (by rw [row_first.1 h])

theorem place_term {sig : List Sy} {t : List Int} {p : Int} (h : placeE sig t p = 0) : termE sig t = 0 := by
  unfold placeE at h
  by_cases ht : termE sig t = 0
  · exact ht
  · rw [if_neg ht] at h; exact h

set_option maxRecDepth 100000 in
set_option maxHeartbeats 1600000 in
theorem refKids_any (sv v : Value) (sig : List Sy) (t : List Int) (p : Int) (w : World) (hs : Sg w sv sig) (h : Is w v t) (hb : t.length * 8 ≤ 140737488351232) (hp1 : -9223372036854775808 ≤ p) (hp2 : p ≤ 9223372036854775807) :
    Calls Tryd.prog 23 #[sv, v, .int .i64 p] w fun e w' => ∃ v', e = .returned (.tuple #[v', .int .i64 (placeE sig t p)]) ∧ OwI w' w.heap.size v' (kidsL sig t p) ∧ Below w.heap.size w w' := by
  obtain ⟨so, sc, rfl, hso, hsc, _⟩ := Row.flat hs
  obtain ⟨ao, cap, rfl, hao, hca, q0⟩ := Row.flat h
  unfold maxLen at hca hsc
  have HS := hid hs
  have HI := hid h
  clear hs h q0
  go_enter Tryd.func23, Tryd.ntmps23
  go_wp2_with fail
  refine (refPlace_any _ _ sig t p w HS.out HI.out hb hp1 hp2).mono ?_
  rintro e w1 ⟨rfl, hb1⟩
  have HB := hid hb1
  clear hb1
  by_cases he : placeE sig t p = 0
  · obtain ⟨ha, _, k, _, hk, hkl, _⟩ := placeE_ok he
    subst hk
    have HE := hid he
    have HA := hid ha
    have HI1 := hid (HI.out.kp (Kp.of_below HB.out))
    have HS1 := hid (HS.out.kp (Kp.of_below HB.out))
    obtain ⟨g, off, c, rfl, hx1, hx2, hx3, hx4⟩ := HI1.out.at hkl
    rw [he]
    clear ha
    by_cases hc0 : c < 0
    · have HK := hid (kids_var he hx1 hc0)
      have hcn : ¬ 0 ≤ c := by omega
      clear he hx1
      go_wp2
      go_ret2
      exact ⟨_, by rw [HE.out]; rfl, by rw [HK.out]; exact nilI _ _, HB.out⟩
    · obtain ⟨us, q, u1, u2, u3, u4⟩ := kids_parts he hx1 hc0
      obtain ⟨cn, rfl⟩ : ∃ cn : Nat, c = cn := ⟨c.toNat, by omega⟩
      have hcn : (0 : Int) ≤ (cn : Int) := by omega
      have hcl : cn < sig.length := by
        have h1 := (term_parts (place_term he)).2
        have h2 := (at_place HA.out h1 hkl).2.2.1
        rw [drop_get hx1, firstT_cons] at h2
        cases hcd : codeD sig (cn : Int) with
        | none => rw [hcd] at h2; simp at h2
        | some e =>
          obtain ⟨s, hsg, _⟩ := codeD_get hcd
          exact (List.getElem?_eq_some_iff.1 hsg).1
      obtain ⟨g2, off2, nm, ar, rfl, hs1, hs2, hs3, hs4, hs5, hs6⟩ := HS1.out.at (k := cn) hcl
      have har := HA.out _ (List.mem_of_getElem? hs1)
      simp only at har
      have harn : us.length = ar.toNat := by rw [u1]; unfold arN; rw [Int.toNat_natCast, hs1]
      have HU2 := hid u2
      have HU3 := hid u3
      have HU4 := hid u4
      obtain ⟨an, rfl⟩ : ∃ an : Nat, ar = an := ⟨ar.toNat, by omega⟩
      rw [Int.toNat_natCast] at harn
      have hwk : IntKind.i64.wrap ((k : Int) + 1) = ((k + 1 : Nat) : Int) := by rw [IntWalk.i64_in _ ⟨by omega, by omega⟩]; omega
      clear he hx1 hs1 u1 u2 u3 u4
      go_wp2
      clear hwk
      go_loopw [9, 10, 11] (fun x kv iv wr => ∃ (i kk : Nat) (o : List Int), i ≤ an ∧ iv = .int .i64 i ∧ kv = .int .i64 kk ∧ t.drop kk = (us.drop i).flatten ++ q ∧ places (k + 1) (us.map List.length) = o ++ places kk ((us.drop i).map List.length) ∧ o.length = i ∧ OwI wr w1.heap.size x o ∧ Below w1.heap.size w1 wr) (fun _ _ iv _ => an - (intOf iv).toNat)
      case atStart => exact ⟨0, k + 1, [], Nat.zero_le _, rfl, rfl, HU2.out, rfl, rfl, nilI _ _, Below.refl _ _⟩
      case round =>
        obtain ⟨i, kk, o, hi, rfl, rfl, hdr, hpl, hol, how, hbl⟩ := hrel
        have HD := hid hdr
        have HP := hid hpl
        have HO := hid how
        have HBl := hid hbl
        have HOl := hid hol
        have hr2 := (Kp.of_below hbl).cell _ _ hx2
        have hr3 := (Kp.of_below hbl).cell _ _ hs3
        clear hdr hpl how hbl hol
        by_cases hlt : i < an
        · obtain ⟨u, hu⟩ : ∃ u, us[i]? = some u := ⟨_, List.getElem?_eq_getElem (by omega)⟩
          have hru := HU3.out u (List.mem_of_getElem? hu)
          have hd2 := HD.out
          rw [drop_next hu q] at hd2
          have hfe := first_right hru ((us.drop (i + 1)).flatten ++ q)
          rw [← hd2] at hfe
          have HFe := hid hfe
          have hkkl : kk < t.length := by
            by_cases hk : kk < t.length
            · exact hk
            · rw [List.drop_of_length_le (by omega)] at hfe
              simp [firstT] at hfe
          have HD2 : Hid (t.drop (kk + u.length) = (us.drop (i + 1)).flatten ++ q) := by
            show _ = _
            rw [← List.drop_drop, hd2, List.drop_left]
          have HP2 : Hid (places (k + 1) (us.map List.length) = (o ++ [(kk : Int)]) ++ places (kk + u.length) ((us.drop (i + 1)).map List.length)) := by
            show _ = _
            rw [HP.out, drop_get hu, List.map_cons, places, List.append_assoc]
            rfl
          obtain ⟨v6, w6, hr6, ho6, hg6, _⟩ := join_one 27 (c := (kk : Int)) HO.out (by omega) (by omega) HBl.out.size (by rw [HOl.out]; omega)
          have hb6 := (below_step HBl.out (below_alloc _)).grown hg6 (below_step HBl.out (below_alloc _)).size (fun j hj => own_blk HO.out.2 hj)
          have HR6 := hid hr6
          have HO6 := hid ho6
          have HB6 := hid hb6
          have HOl2 : Hid ((o ++ [(kk : Int)]).length = i + 1) := by show _ = _; rw [List.length_append, HOl.out]; rfl
          clear hd2 hfe hr6 ho6 hu hru hg6 hb6
          go_wp2_with (first
            | (at_builtin; refine wpList_append_run rfl _ _ _ rfl _ _ rfl rfl HR6.out ?_))
          refine (refEnd_any _ _ sig t kk u.length w6 (HS1.out.kp (Kp.of_below HB6.out)) (HI1.out.kp (Kp.of_below HB6.out)) HA.out hb HFe.out).mono ?_
          rintro e w9 ⟨rfl, hw9⟩
          have hw8 := hw9.symm
          subst hw8
          clear hw9
          go_wp2
          go_roundw
          case rel => exact ⟨i + 1, kk + u.length, o ++ [(kk : Int)], by omega, by go_num, by go_num, HD2.out, HP2.out, HOl2.out, HO6.out, HB6.out⟩
          case measure => simp [intOf]; omega
        · have hie : i = us.length := by omega
          have HF : Hid (kidsL sig t k = o) := by
            show _ = _
            rw [HU4.out, HP.out, hie, List.drop_length]
            simp [places]
          have HFo := hid (HO.out.mono HB.out.size)
          have HFb := hid (below_step HB.out HBl.out)
          clear hie
          go_wp2
          go_ret2
          exact ⟨_, by rw [HE.out]; rfl, by rw [HF.out]; exact HFo.out, HFb.out⟩
  · have HK := hid (kidsL_bad he)
    obtain ⟨E, hE⟩ : ∃ E, placeE sig t p = E := ⟨_, rfl⟩
    have HE := hid hE
    rw [hE] at he
    rw [hE]
    have heb : (E != 0) = true := by simpa using he
    clear hE
    go_wp2
    go_ret2
    exact ⟨_, by rw [HE.out]; rfl, by rw [HK.out]; exact nilI _ _, HB.out⟩

set_option maxRecDepth 100000 in
set_option maxHeartbeats 1600000 in
theorem refSub_any (sv v : Value) (sig : List Sy) (t : List Int) (p : Int) (w : World) (hs : Sg w sv sig) (h : Is w v t) (hb : t.length * 8 ≤ 140737488351232) (hp1 : -9223372036854775808 ≤ p) (hp2 : p ≤ 9223372036854775807) :
    Calls Tryd.prog 24 #[sv, v, .int .i64 p] w fun e w' => ∃ v', e = .returned (.tuple #[v', .int .i64 (placeE sig t p)]) ∧ OwI w' w.heap.size v' (subL sig t p) ∧ Below w.heap.size w w' := by
  obtain ⟨ao, cap, rfl, hao, hca, q0⟩ := Row.flat h
  unfold maxLen at hca
  have HS := hid hs
  have HI := hid h
  clear hs h q0
  go_enter Tryd.func24, Tryd.ntmps24
  go_wp2_with fail
  refine (refPlace_any _ _ sig t p w HS.out HI.out hb hp1 hp2).mono ?_
  rintro e w1 ⟨rfl, hb1⟩
  have HB := hid hb1
  clear hb1
  by_cases he : placeE sig t p = 0
  · obtain ⟨ha, hrt, k, _, hk, hkl, _⟩ := placeE_ok he
    subst hk
    obtain ⟨n1, n2, n3, _⟩ := at_place ha hrt hkl
    have HSub := hid (sub_eq (place_term he) hkl)
    have HE := hid he
    have HA := hid ha
    have HN := hid n3
    obtain ⟨n, hn⟩ : ∃ n, n = nodes sig t k := ⟨_, rfl⟩
    rw [← hn] at n1 n2 HN HSub
    obtain ⟨b, off, c0, rfl, _⟩ := HI.out.at (k := 0) (by omega)
    have hI3 := (HI.out.kp (Kp.of_below (b1 (o := .cells #[] 3) HB.out))).mid hkl n2
    have hI2 : Is (w1.alloc (.cells #[] 3)) (.slice (some ⟨b, off + k, none⟩) (k + n - k) (cap - k)) ((t.drop k).take n) := by rw [show k + n - k = n by omega]; exact hI3
    have hlm : ((t.drop k).take n).length = n := by rw [List.length_take, List.length_drop]; omega
    obtain ⟨va, w3, hr3, ho3, hg3⟩ := copy_ints 27 (base := w1.heap.size) (g := w1.heap.size) (empty_row (w := w1) 3 (Nat.le_refl _)) hI2 (below_alloc _).size (by rw [hlm]; omega)
    have HR3 := hid hr3
    have HO3 := hid (ho3.mono HB.out.size)
    have HB3 := hid (below_step HB.out (grown_below (below_alloc _) hg3 (Nat.le_refl _)))
    have hck : ¬ cap = k := by omega
    have hkc : k + n ≤ cap := by omega
    have hkc2 : k ≤ k + n := by omega
    rw [he]
    clear he ha hrt n3 hn hI2 hI3 hlm hr3 ho3 hg3
    go_wp2_with fail
    refine (refEnd_any _ _ sig t k n _ (HS.out.kp (Kp.of_below (b1 HB.out))) (HI.out.kp (Kp.of_below (b1 HB.out))) HA.out hb HN.out).mono ?_
    rintro e w9 ⟨rfl, hw9⟩
    have hw8 := hw9.symm
    subst hw8
    clear hw9
    go_wp2_with (first
      | (at_builtin; refine wpList_append_run rfl _ _ _ rfl _ _ rfl rfl HR3.out ?_))
    go_ret2
    exact ⟨_, by rw [HE.out]; rfl, by rw [HSub.out]; exact HO3.out, HB3.out⟩
  · have HK := hid (subL_bad he)
    obtain ⟨E, hE⟩ : ∃ E, placeE sig t p = E := ⟨_, rfl⟩
    have HE := hid hE
    rw [hE] at he
    rw [hE]
    have heb : (E != 0) = true := by simpa using he
    clear hE
    go_wp2
    go_ret2
    exact ⟨_, by rw [HE.out]; rfl, by rw [HK.out]; exact nilI _ _, HB.out⟩

/-- The places above a place, as they are told. -/
def aboveL (sig : List Sy) (t : List Int) (p : Int) : List Int := if placeE sig t p = 0 then (abD sig t p.toNat).map fun i : Nat => (i : Int) else []

set_option maxRecDepth 100000 in
set_option maxHeartbeats 1600000 in
theorem refAbove_any (sv v : Value) (sig : List Sy) (t : List Int) (p : Int) (w : World) (hs : Sg w sv sig) (h : Is w v t) (hb : t.length * 8 ≤ 140737488351232) (hp1 : -9223372036854775808 ≤ p) (hp2 : p ≤ 9223372036854775807) :
    Calls Tryd.prog 25 #[sv, v, .int .i64 p] w fun e w' => ∃ v', e = .returned (.tuple #[v', .int .i64 (placeE sig t p)]) ∧ OwI w' w.heap.size v' (aboveL sig t p) ∧ Below w.heap.size w w' := by
  have HS := hid hs
  have HI := hid h
  clear hs h
  go_enter Tryd.func25, Tryd.ntmps25
  go_wp2_with fail
  refine (refPlace_any _ _ sig t p w HS.out HI.out hb hp1 hp2).mono ?_
  rintro e w1 ⟨rfl, hb1⟩
  have HB := hid hb1
  clear hb1
  by_cases he : placeE sig t p = 0
  · obtain ⟨ha, hrt, k, _, hk, hkl, _⟩ := placeE_ok he
    subst hk
    have HAb : Hid (aboveL sig t k = ((List.range k).filter fun i => decide (k < i + nodes sig t i)).map fun i : Nat => (i : Int)) := by
      show _ = _
      unfold aboveL
      rw [if_pos he, Int.toNat_natCast]
      rfl
    have HE := hid he
    have HA := hid ha
    have HRt := hid hrt
    have HS1 := hid (HS.out.kp (Kp.of_below HB.out))
    have HI1 := hid (HI.out.kp (Kp.of_below HB.out))
    rw [he]
    clear he ha hrt
    go_wp2
    go_loopw [9, 10] (fun x iv wr => ∃ i : Nat, i ≤ k ∧ iv = .int .i64 i ∧ OwI wr w1.heap.size x (((List.range i).filter fun i => decide (k < i + nodes sig t i)).map fun i : Nat => (i : Int)) ∧ Below w1.heap.size w1 wr) (fun _ iv _ => k - (intOf iv).toNat)
    case atStart => exact ⟨0, Nat.zero_le _, rfl, nilI _ _, Below.refl _ _⟩
    case round =>
      obtain ⟨i, hi, rfl, how, hbl⟩ := hrel
      have HO := hid how
      have HBl := hid hbl
      clear how hbl
      by_cases hlt : i < k
      · obtain ⟨n1, n2, n3, _⟩ := at_place HA.out HRt.out (i := i) (by omega)
        have hfl : (((List.range i).filter fun i => decide (k < i + nodes sig t i)).map fun i : Nat => (i : Int)).length ≤ i := by
          rw [List.length_map]
          refine Nat.le_trans (List.length_filter_le _ _) ?_
          rw [List.length_range]
          exact Nat.le_refl _
        have hrs : (List.range (i + 1)).filter (fun i => decide (k < i + nodes sig t i)) = (List.range i).filter (fun i => decide (k < i + nodes sig t i)) ++ if k < i + nodes sig t i then [i] else [] := by
          rw [List.range_succ, List.filter_append]
          by_cases hk : k < i + nodes sig t i
          · rw [if_pos hk, List.filter_cons_of_pos (by simpa using hk)]
            rfl
          · rw [if_neg hk, List.filter_cons_of_neg (by simpa using hk)]
            rfl
        have HN := hid n3
        have HFl := hid hfl
        have HRs := hid hrs
        obtain ⟨n, hn⟩ : ∃ n, n = nodes sig t i := ⟨_, rfl⟩
        rw [← hn] at n1 n2 HN HRs
        clear n3 hn hfl hrs
        go_wp2_with fail
        refine (refEnd_any _ _ sig t i n wr (HS1.out.kp (Kp.of_below HBl.out)) (HI1.out.kp (Kp.of_below HBl.out)) HA.out hb HN.out).mono ?_
        rintro e w9 ⟨rfl, hw9⟩
        have hw8 := hw9.symm
        subst hw8
        clear hw9
        by_cases hgt : k < i + n
        · have HRs2 : Hid (((List.range (i + 1)).filter fun i => decide (k < i + nodes sig t i)).map (fun i : Nat => (i : Int)) = ((List.range i).filter fun i => decide (k < i + nodes sig t i)).map (fun i : Nat => (i : Int)) ++ [(i : Int)]) := by
            show _ = _
            rw [HRs.out, if_pos hgt, List.map_append]
            rfl
          obtain ⟨v6, w6, hr6, ho6, hg6, _⟩ := join_one 27 (c := (i : Int)) HO.out (by omega) (by omega) HBl.out.size (by have := HFl.out; omega)
          have hb6 := (below_step HBl.out (below_alloc _)).grown hg6 (below_step HBl.out (below_alloc _)).size (fun j hj => own_blk HO.out.2 hj)
          have HR6 := hid hr6
          have HO6 := hid ho6
          have HB6 := hid hb6
          have hgt2 : (k : Int) < ((i + n : Nat) : Int) := by omega
          clear hr6 ho6 hg6 hb6
          go_wp2_with (first
            | (at_builtin; refine wpList_append_run rfl _ _ _ rfl _ _ rfl rfl HR6.out ?_))
          go_roundw
          case rel => exact ⟨i + 1, by omega, by go_num, by rw [HRs2.out]; exact HO6.out, HB6.out⟩
          case measure => simp [intOf]; omega
        · have HRs2 : Hid ((List.range (i + 1)).filter (fun i => decide (k < i + nodes sig t i)) = (List.range i).filter (fun i => decide (k < i + nodes sig t i))) := by
            show _ = _
            rw [HRs.out, if_neg hgt, List.append_nil]
          have hgt2 : ¬ (k : Int) < ((i + n : Nat) : Int) := by omega
          go_wp2
          go_roundw
          case rel => exact ⟨i + 1, by omega, by go_num, by rw [HRs2.out]; exact HO.out, HBl.out⟩
          case measure => simp [intOf]; omega
      · have hik : i = k := by omega
        subst hik
        have HFo := hid (HO.out.mono HB.out.size)
        have HFb := hid (below_step HB.out HBl.out)
        go_wp2
        go_ret2
        exact ⟨_, by rw [HE.out]; rfl, by rw [HAb.out]; exact HFo.out, HFb.out⟩
  · have HK : Hid (aboveL sig t p = []) := by show _ = _; unfold aboveL; rw [if_neg he]
    obtain ⟨E, hE⟩ : ∃ E, placeE sig t p = E := ⟨_, rfl⟩
    have HE := hid hE
    rw [hE] at he
    rw [hE]
    have heb : (E != 0) = true := by simpa using he
    clear hE
    go_wp2
    go_ret2
    exact ⟨_, by rw [HE.out]; rfl, by rw [HK.out]; exact nilI _ _, HB.out⟩

end Go.Proofs.YtjcgngfidnechaaDoor

/- The places of a term are those of a tree, plainly. -/
namespace Go.Proofs.YtjcgngfidnechaaDoor
open Go.RowKit Go.Maps

theorem abD_mem {sig : List Sy} {t : List Int} {i a : Nat} (h : a ∈ abD sig t i) : a < i ∧ i < a + nodes sig t a := by
  unfold abD at h
  rw [List.mem_filter] at h
  exact ⟨List.mem_range.1 h.1, of_decide_eq_true h.2⟩

theorem mem_abD {sig : List Sy} {t : List Int} {i a : Nat} (h1 : a < i) (h2 : i < a + nodes sig t a) : a ∈ abD sig t i := by
  unfold abD
  rw [List.mem_filter]
  exact ⟨List.mem_range.2 h1, decide_eq_true h2⟩

theorem abD_rise (sig : List Sy) (t : List Int) (i : Nat) : (abD sig t i).Pairwise (· < ·) := by
  unfold abD
  exact List.Pairwise.filter _ List.pairwise_lt_range

/-- The root is above all others. -/
theorem abD_root {sig : List Sy} {t : List Int} (h : rowE sig t = 0) {i : Nat} (h0 : 0 < i) (hi : i < t.length) : (abD sig t i)[0]? = some 0 := by
  obtain ⟨j, rfl⟩ : ∃ j, i = 1 + j := ⟨i - 1, by omega⟩
  unfold abD
  rw [List.range_add, List.filter_append]
  have : (List.range 1).filter (fun a => decide (1 + j < a + nodes sig t a)) = [0] := by
    rw [show List.range 1 = [0] from rfl, List.filter_cons_of_pos (by rw [nodes_root h]; simp; omega)]
    rfl
  rw [this]
  rfl

/-- How often a place was counted ahead of a round. -/
def cntF (sig : List Sy) (t : List Int) (i j : Nat) : Nat := min i (j + nodes sig t j) - j

theorem cnt_next {sig : List Sy} (ha : ArOk sig) {t : List Int} (h : rowE sig t = 0) {i j : Nat} (hj : j < t.length) : cntF sig t (i + 1) j = cntF sig t i j + if j = i ∨ j ∈ abD sig t i then 1 else 0 := by
  have hn := (at_place ha h hj).1
  unfold cntF
  by_cases h1 : j = i ∨ j ∈ abD sig t i
  · rw [if_pos h1]
    rcases h1 with h1 | h1
    · omega
    · have := abD_mem h1
      omega
  · rw [if_neg h1]
    have h2 : ¬ (j < i ∧ i < j + nodes sig t j) := fun h9 => h1 (.inr (mem_abD h9.1 h9.2))
    have h3 : ¬ j = i := fun h9 => h1 (.inl h9)
    omega

theorem cnt_all {sig : List Sy} (ha : ArOk sig) {t : List Int} (h : rowE sig t = 0) {j : Nat} (hj : j < t.length) : cntF sig t t.length j = nodes sig t j := by
  have := (at_place ha h hj).2.1
  unfold cntF
  omega

theorem cnt_zero (sig : List Sy) (t : List Int) (j : Nat) : cntF sig t 0 j = 0 := by
  unfold cntF
  omega

/-- A row of numbers by a function. -/
def clF (n : Nat) (f : Nat → Nat) : List Int := (List.range n).map fun j => (f j : Int)

theorem clF_len (n : Nat) (f : Nat → Nat) : (clF n f).length = n := by simp [clF]

theorem clF_at {n : Nat} {f : Nat → Nat} {j : Nat} (h : j < n) : (clF n f)[j]? = some (f j : Int) := by
  unfold clF
  rw [List.getElem?_map, List.getElem?_range h]
  rfl

theorem clF_set {n : Nat} {f g : Nat → Nat} {a : Nat} (h : a < n) (hg : ∀ j, j < n → g j = if j = a then f a + 1 else f j) : (clF n f).set a ((f a : Int) + 1) = clF n g := by
  refine List.ext_getElem? fun j => ?_
  rw [List.getElem?_set]
  by_cases hj : j < n
  · rw [clF_at (f := f) hj, clF_at (f := g) hj, hg j hj]
    by_cases ha : a = j
    · subst ha
      rw [if_pos rfl, if_pos (by rw [clF_len]; exact h), if_pos rfl]
      simp
    · rw [if_neg ha, if_neg (fun e => ha e.symm)]
  · rw [if_neg (by omega), List.getElem?_eq_none (by rw [clF_len]; omega), List.getElem?_eq_none (by rw [clF_len]; omega)]

theorem clF_congr {n : Nat} {f g : Nat → Nat} (h : ∀ j, j < n → f j = g j) : clF n f = clF n g := by
  unfold clF
  refine List.map_congr_left fun j hj => ?_
  rw [h j (List.mem_range.1 hj)]

theorem clF_zero (n : Nat) (f : Nat → Nat) (h : ∀ j, f j = 0) : List.replicate n (0 : Int) = clF n f := by
  refine List.ext_getElem? fun j => ?_
  by_cases hj : j < n
  · rw [clF_at hj, h j, List.getElem?_replicate, if_pos hj]
    rfl
  · rw [List.getElem?_eq_none (by simp; omega), List.getElem?_eq_none (by rw [clF_len]; omega)]

/-- Behind the first k of the places above one. -/
def cntK (sig : List Sy) (t : List Int) (i k j : Nat) : Nat := cntF sig t i j + if j = i ∨ j ∈ (abD sig t i).take k then 1 else 0

theorem cntK_zero (sig : List Sy) (t : List Int) (i j : Nat) : cntK sig t i 0 j = if j = i then cntF sig t i i + 1 else cntF sig t i j := by
  unfold cntK
  rw [List.take_zero]
  by_cases h : j = i
  · subst h
    simp
  · simp [h]

theorem rise_not {l : List Nat} (h : l.Pairwise (· < ·)) {k a : Nat} (ha : l[k]? = some a) : a ∉ l.take k := by
  intro hm
  obtain ⟨j, hj, he⟩ := List.getElem_of_mem hm
  rw [List.length_take] at hj
  rw [List.getElem_take] at he
  have hk := (List.getElem?_eq_some_iff.1 ha)
  obtain ⟨hk, hk2⟩ := hk
  have := List.pairwise_iff_getElem.1 h j k (by omega) hk (by omega)
  omega

theorem cntK_next {sig : List Sy} {t : List Int} {i k a : Nat} (ha : (abD sig t i)[k]? = some a) (j : Nat) : cntK sig t i (k + 1) j = if j = a then cntK sig t i k a + 1 else cntK sig t i k j := by
  have h1 := rise_not (abD_rise sig t i) ha
  have h2 := abD_mem (List.mem_of_getElem? ha)
  unfold cntK
  rw [take_get ha]
  by_cases h : j = a
  · subst h
    have h3 : ¬ (j = i ∨ j ∈ (abD sig t i).take k) := fun h9 => by
      rcases h9 with h9 | h9
      · omega
      · exact h1 h9
    rw [if_pos (.inr (by simp)), if_pos rfl, if_neg h3]
  · rw [if_neg h]
    congr 1
    have : (j = i ∨ j ∈ (abD sig t i).take k ++ [a]) ↔ (j = i ∨ j ∈ (abD sig t i).take k) := by
      simp [h]
    simp only [this]

theorem cntK_all {sig : List Sy} (ha : ArOk sig) {t : List Int} (h : rowE sig t = 0) {i j : Nat} (hj : j < t.length) : cntK sig t i (abD sig t i).length j = cntF sig t (i + 1) j := by
  unfold cntK
  rw [List.take_length, cnt_next ha h hj]

theorem cntF_small (sig : List Sy) (t : List Int) (i j : Nat) : cntF sig t i j ≤ i := by
  unfold cntF
  omega

theorem cntK_small (sig : List Sy) (t : List Int) (i k j : Nat) : cntK sig t i k j ≤ i + 1 := by
  have := cntF_small sig t i j
  unfold cntK
  split <;> omega

/-- Terms one behind the other: what begins in them ends in them. -/
theorem in_flat {sig : List Sy} (ha : ArOk sig) : ∀ (us : List (List Int)) (q : List Int) (j : Nat), (∀ u ∈ us, rowE sig u = 0) → j < us.flatten.length → j + nodes sig (us.flatten ++ q) j ≤ us.flatten.length
  | [], q, j, _, hj => by simp at hj
  | v :: us, q, j, h, hj => by
    have hv := h v (by simp)
    rw [List.flatten_cons, List.length_append] at hj
    rw [List.flatten_cons, List.length_append, List.append_assoc]
    by_cases hjv : j < v.length
    · have h1 := at_place ha hv hjv
      rw [nodes_app ha hv hjv]
      omega
    · have h1 := in_flat ha us q (j - v.length) (fun u hu => h u (by simp [hu])) (by omega)
      have h2 := nodes_behind (sig := sig) v (us.flatten ++ q) (j - v.length)
      rw [show v.length + (j - v.length) = j by omega] at h2
      rw [h2]
      omega

/-- A node's arguments and its own size. -/
theorem kids_size {sig : List Sy} {t : List Int} {k : Nat} {c : Int} (h : placeE sig t k = 0) (hc : t[k]? = some c) (h0 : ¬ c < 0) :
    ∃ (us : List (List Int)) (q : List Int), us.length = arN sig c ∧ t.drop (k + 1) = us.flatten ++ q ∧ (∀ u ∈ us, rowE sig u = 0) ∧ kidsL sig t k = places (k + 1) (us.map List.length) ∧ nodes sig t k = 1 + us.flatten.length := by
  obtain ⟨ha, hr, k', m, hk, hkl, hm1, hend, hkm, hsub, hrow⟩ := placeE_ok h
  obtain rfl : k = k' := by omega
  have hd := drop_get hc
  have hmn : nodes sig t k = m := by
    have := place_end (place_term h) hkl
    rw [hend] at this
    have := congrArg Prod.fst this
    simp only at this
    omega
  obtain ⟨m', rfl⟩ : ∃ m', m = m' + 1 := ⟨m - 1, by omega⟩
  rw [hd, List.take_succ_cons] at hsub hrow
  obtain ⟨us, u1, u2, u3, u4⟩ := kids_tree ha hrow h0
  refine ⟨us, (t.drop (k + 1)).drop m', u1, by rw [← u2, List.take_append_drop], u3, ?_, ?_⟩
  · unfold kidsL
    rw [hsub, Int.toNat_natCast, u4]
    show kidsGo (k + 1) (us.flatMap (growR sig)) = _
    rw [kids_places, ← grow_map ha us u3, grow_flat ha us u3]
  · rw [hmn, ← u2, List.length_take, List.length_drop]
    omega

theorem flat_take_lt {us : List (List Int)} {k : Nat} (hk : k < us.length) (h : ∀ u ∈ us, 0 < u.length) : (us.take k).flatten.length < us.flatten.length := by
  have h1 : us.flatten = (us.take k).flatten ++ (us.drop k).flatten := by rw [← List.flatten_append, List.take_append_drop]
  rw [h1, List.length_append]
  rw [List.drop_eq_getElem_cons hk, List.flatten_cons, List.length_append]
  have := h us[k] (List.getElem_mem hk)
  omega

/-- What is above an argument. -/
theorem kid_above {sig : List Sy} {t : List Int} (h : termE sig t = 0) {i k : Nat} (hi : i < t.length) {x : Int} (hk : (kidsL sig t i)[k]? = some x) : ∃ n : Nat, x = n ∧ n < t.length ∧ abD sig t n = abD sig t i ++ [i] := by
  obtain ⟨hs, hr⟩ := term_parts h
  have ha := sigE_ok hs
  have hp := place_in h hi
  obtain ⟨c, hc⟩ : ∃ c, t[i]? = some c := ⟨_, List.getElem?_eq_getElem hi⟩
  by_cases h0 : c < 0
  · rw [kids_var hp hc h0] at hk
    simp at hk
  · obtain ⟨us, q, u1, u2, u3, u4, u5⟩ := kids_size hp hc h0
    rw [u4] at hk
    have hkl : k < us.length := by
      have := (List.getElem?_eq_some_iff.1 hk).1
      rw [places_len, List.length_map] at this
      exact this
    rw [places_at us (i + 1) k hkl] at hk
    simp only [Option.some.injEq] at hk
    have hlt := flat_take_lt hkl (fun u hu => by
      have := u3 u hu
      cases u with
      | nil => simp [rowE, firstT] at this
      | cons a u => simp)
    obtain ⟨_, hn2, _⟩ := at_place ha hr hi
    have hnl : i + 1 + (us.take k).flatten.length < i + nodes sig t i := by omega
    refine ⟨i + 1 + (us.take k).flatten.length, hk.symm, by omega, ?_⟩
    obtain ⟨d, hd⟩ : ∃ d, d = (us.take k).flatten.length := ⟨_, rfl⟩
    rw [← hd] at hnl ⊢
    unfold abD
    rw [List.range_add, List.range_add, List.filter_append, List.filter_append]
    have e1 : (List.range i).filter (fun j => decide (i + 1 + d < j + nodes sig t j)) = (List.range i).filter (fun j => decide (i < j + nodes sig t j)) := by
      refine List.filter_congr fun j hj => ?_
      have hj := List.mem_range.1 hj
      by_cases hh : i < j + nodes sig t j
      · have := lam ha hr (i := i) (j := j) (by omega) (by omega) hh
        rw [decide_eq_true hh, decide_eq_true (by omega)]
      · rw [decide_eq_false hh, decide_eq_false (by omega)]
    have e2 : ((List.range 1).map (i + ·)).filter (fun j => decide (i + 1 + d < j + nodes sig t j)) = [i] := by
      rw [show (List.range 1).map (i + ·) = [i] from rfl, List.filter_cons_of_pos (by simp; omega)]
      rfl
    have e3 : ((List.range d).map (i + 1 + ·)).filter (fun j => decide (i + 1 + d < j + nodes sig t j)) = [] := by
      rw [List.filter_eq_nil_iff]
      intro j hj
      obtain ⟨e, he, rfl⟩ := List.mem_map.1 hj
      have he := List.mem_range.1 he
      have h6 : t.drop (i + 1) = (us.take k).flatten ++ ((us.drop k).flatten ++ q) := by
        rw [u2, ← List.append_assoc, ← List.flatten_append, List.take_append_drop]
      have h7 := in_flat ha (us.take k) ((us.drop k).flatten ++ q) e (fun u hu => u3 u (List.mem_of_mem_take hu)) (by omega)
      rw [← h6, nodes_drop] at h7
      simp
      omega
    rw [e1, e2, e3, List.append_nil]

/-- How many arguments a node has. -/
theorem kids_count {sig : List Sy} {t : List Int} {k : Nat} {c : Int} (h : placeE sig t k = 0) (hc : t[k]? = some c) : (kidsL sig t k).length = if c < 0 then 0 else arN sig c := by
  by_cases h0 : c < 0
  · rw [if_pos h0, kids_var h hc h0]
    rfl
  · obtain ⟨us, q, u1, u2, u3, u4, u5⟩ := kids_size h hc h0
    rw [if_neg h0, u4, places_len, List.length_map, u1]

end Go.Proofs.YtjcgngfidnechaaDoor

/- placesAbove walked. -/
namespace Go.Proofs.YtjcgngfidnechaaDoor
open Go.RowKit Go.Maps

theorem abv_here (T : Tr) (p : Nat) : abv T p p = [] := by
  cases T with
  | var => simp [abv]
  | app ts => unfold abv; rw [if_pos rfl]

theorem sizes_drop {ts : List Tr} {j : Nat} {t : Tr} (h : ts[j]? = some t) : sizes (ts.drop j) = t.size + sizes (ts.drop (j + 1)) := by
  rw [drop_get h]
  simp only [sizes]

theorem sizes_pos {ts : List Tr} {j : Nat} (h : 0 < sizes (ts.drop j)) : j < ts.length := by
  by_cases hj : j < ts.length
  · exact hj
  · rw [List.drop_of_length_le (by omega)] at h
    simp [sizes] at h

theorem abvs_next {ts : List Tr} {j p q : Nat} {t : Tr} (h : ts[j]? = some t) : abvs (ts.drop j) p q = if p + t.size ≤ q then abvs (ts.drop (j + 1)) (p + t.size) q else abv t p q := by
  rw [drop_get h]
  rfl

set_option maxRecDepth 100000 in
set_option maxHeartbeats 3200000 in
theorem placesAbove_any (u : Value) (T : Tr) (A : Nat → Prop) (q : Nat) (w : World) (ht : TV w A u T) (hA : ∀ b, A b → b < w.heap.size) (hq : q < T.size) (hl : T.size * 8 ≤ 140737488355328) :
    Calls Tryd.prog 40 #[u, .int .i64 q] w fun e w' => ∃ v', e = .returned v' ∧ OwI w' w.heap.size v' (abv T 0 q) ∧ Below w.heap.size w w' := by
  have HA := hid hA
  have HT := hid ht
  clear hA ht
  go_enter Tryd.func40, Tryd.ntmps40
  go_wp2
  go_loopg [5, 6, 7] q (fun k x nv pv wr => ∃ (p : Nat) (S : Tr) (ab : List Int), pv = .int .i64 p ∧ p ≤ q ∧ q < p + S.size ∧ p + S.size ≤ T.size ∧ q - p ≤ k ∧ TV w A nv S ∧ abv T 0 q = ab ++ abv S p q ∧ ab.length ≤ p ∧ OwI wr w.heap.size x ab ∧ Below w.heap.size w wr)
  case atStart => exact ⟨0, T, [], rfl, Nat.zero_le _, by omega, by omega, by omega, HT.out, rfl, Nat.le_refl _, nilI _ _, Below.refl _ _⟩
  case round =>
    obtain ⟨p, S, ab, rfl, hpq, hqs, hst, hgk, htv, hab, hal, how, hbl⟩ := hrel
    have HOw := hid how
    have HB := hid hbl
    have HAb := hid hab
    clear how hbl hab HT
    by_cases hpe : p = q
    · subst hpe
      have HF : Hid (abv T 0 p = ab) := by show _ = _; rw [HAb.out, abv_here, List.append_nil]
      have hne : ((p : Int) != (p : Int)) = false := by simp
      go_wp2
      go_ret
      exact ⟨_, rfl, by rw [HF.out]; exact HOw.out, HB.out⟩
    · cases S with
      | var => simp only [Tr.size] at hqs; omega
      | app ts =>
        unfold TV at htv
        obtain ⟨b, a, cp, rfl, hb, h3, h4, h5, h6, h7⟩ := htv
        simp only [Tr.size] at hqs hst
        unfold maxLen at h6
        have hlt0 : 0 < ts.length := sizes_pos (j := 0) (by rw [List.drop_zero]; omega)
        have hne : ((p : Int) != (q : Int)) = true := by rw [bne_iff_ne]; omega
        have h3r := (HB.out.cell (p := ⟨b, 0, none⟩) (HA.out b hb)).trans h3
        obtain ⟨g, off, rfl, hAg, htvs⟩ : ∃ g off, a = some ⟨g, off, none⟩ ∧ A g ∧ TVs w A g off ts := by
          rcases h7 with h | h
          · rw [h] at hlt0; simp at hlt0
          · exact h
        have HTs := hid htvs
        have HAg := hid hAg
        have hwp : IntKind.i64.wrap ((p : Int) + 1) = ((p + 1 : Nat) : Int) := by rw [IntWalk.i64_in _ ⟨by omega, by omega⟩]; omega
        have HAp : Hid (abv T 0 q = (ab ++ [(p : Int)]) ++ abvs ts (p + 1) q) := by
          show _ = _
          rw [HAb.out, abv, if_neg hpe, List.append_assoc]
          rfl
        obtain ⟨v6, w6, hr6, ho6, hg6, _⟩ := join_one 27 (c := (p : Int)) HOw.out (by omega) (by omega) HB.out.size (by omega)
        have hb6 := (below_step HB.out (below_alloc _)).grown hg6 (Nat.le_trans HB.out.size (below_alloc _).size) (fun j hj => own_blk HOw.out.2 hj)
        have HR6 := hid hr6
        have HO6 := hid ho6
        have HB6 := hid hb6
        have hc6 := (HB6.out.cell (p := ⟨b, 0, none⟩) (HA.out b hb)).trans h3
        have has := as_app (.pointer (some ⟨b, 0, none⟩)) 54 false
        simp only [Bool.false_eq_true, if_false] at has
        clear h7 htvs hAg h3r h4 hr6 ho6 hg6 hb6 HAb HOw HB h3
        go_wp2_with (first
          | (at_builtin; refine wpList_append_run rfl _ _ _ rfl _ _ rfl rfl HR6.out ?_))
        clear has hwp hc6 HR6 hne
        go_loopg [7, 8] ts.length (fun k pv av wr => ∃ (j p2 : Nat), j < ts.length ∧ pv = .int .i64 p2 ∧ av = .slice (some ⟨g, off + j, none⟩) (ts.length - j) (cp - j) ∧ p + 1 ≤ p2 ∧ p2 ≤ q ∧ q < p2 + sizes (ts.drop j) ∧ p2 + sizes (ts.drop j) ≤ T.size ∧ ts.length - j ≤ k ∧ abvs ts (p + 1) q = abvs (ts.drop j) p2 q ∧ Below w6.heap.size w6 wr)
        case atStart => exact ⟨0, p + 1, hlt0, rfl, rfl, Nat.le_refl _, by omega, by rw [List.drop_zero]; omega, by rw [List.drop_zero]; omega, by omega, rfl, Below.refl _ _⟩
        case round =>
          obtain ⟨j, p2, hj, rfl, rfl, hp2, hp2q, hq2, hst2, hgk2, hab2, hbl2⟩ := hrel
          have HB2 := hid hbl2
          have HA2 := hid hab2
          obtain ⟨t, htk⟩ : ∃ t, ts[j]? = some t := ⟨_, List.getElem?_eq_getElem hj⟩
          obtain ⟨uv, hcu, htv⟩ := HTs.out.get htk
          have hcell : wr.cell? ⟨g, off + j, none⟩ = some uv := (HB2.out.cell (p := ⟨g, off + j, none⟩) (Nat.lt_of_lt_of_le (HA.out g HAg.out) HB6.out.size)).trans ((HB6.out.cell (p := ⟨g, off + j, none⟩) (HA.out g HAg.out)).trans hcu)
          have hsd := sizes_drop htk
          have hnx : abvs ts (p + 1) q = if p2 + t.size ≤ q then abvs (ts.drop (j + 1)) (p2 + t.size) q else abv t p2 q := by rw [HA2.out, abvs_next htk]
          have HNx := hid hnx
          have hlj : 0 < ts.length - j := by omega
          clear hab2 hbl2 hcu htk hnx HA2
          by_cases hfar : p2 + t.size ≤ q
          · have HNf : Hid (abvs ts (p + 1) q = abvs (ts.drop (j + 1)) (p2 + t.size) q) := by show _ = _; rw [HNx.out, if_pos hfar]
            have hj2 : j + 1 < ts.length := sizes_pos (by omega)
            have hcj : ¬ cp - j = 1 := by omega
            have hcj1 : 1 ≤ cp - j := by omega
            have hlj1 : 1 ≤ ts.length - j := by omega
            have HCp : Hid (cp - j - 1 = cp - (j + 1)) := by show _ = _; omega
            have HLn : Hid (ts.length - j - 1 = ts.length - (j + 1)) := by show _ = _; omega
            have hts := t.pos
            clear HNx
            cases t with
            | var =>
              unfold TV at htv
              subst htv
              simp only [Tr.size] at hfar hsd hts HNf
              have hw1 : IntKind.i64.wrap ((p2 : Int) + 1) = ((p2 + 1 : Nat) : Int) := by rw [IntWalk.i64_in _ ⟨by omega, by omega⟩]; omega
              have hge : ((p2 + 1 : Nat) : Int) ≤ (q : Int) := by omega
              go_wp2_with fail
              refine (varNodes_any _).mono ?_
              rintro e w2 ⟨rfl, hb2⟩
              have HB3 := hid (below_step HB2.out hb2)
              have hcell2 := (Kp.of_below hb2).cell _ _ hcell
              clear hb2 hcell
              go_wp2_with fail
              refine (varNodes_any _).mono ?_
              rintro e w3 ⟨rfl, hb3⟩
              have HB4 := hid (below_step HB3.out hb3)
              clear hb3 hcell2
              go_wp2
              go_roundg (ts.length - (j + 1))
              case measure => omega
              case rel => exact ⟨j + 1, p2 + 1, hj2, by go_num, by rw [← HCp.out, ← HLn.out]; rfl, by omega, by omega, by omega, by omega, Nat.le_refl _, HNf.out, HB4.out⟩
            | app rs =>
              unfold TV at htv
              obtain ⟨b2, a2, cp2, rfl, hb2, _, h4, _, _, _⟩ := htv
              have h4r : wr.cell? ⟨b2, 1, none⟩ = _ := (HB2.out.cell (p := ⟨b2, 1, none⟩) (Nat.lt_of_lt_of_le (HA.out b2 hb2) HB6.out.size)).trans ((HB6.out.cell (p := ⟨b2, 1, none⟩) (HA.out b2 hb2)).trans h4)
              simp only [Tr.size] at hfar hsd hts HNf
              obtain ⟨Z, hZ⟩ : ∃ Z, Z = 1 + sizes rs := ⟨_, rfl⟩
              rw [← hZ] at hfar hsd hts HNf h4r
              have hw1 : IntKind.i64.wrap ((p2 : Int) + (Z : Int)) = ((p2 + Z : Nat) : Int) := by rw [IntWalk.i64_in _ ⟨by omega, by omega⟩]; omega
              have hge : ((p2 + Z : Nat) : Int) ≤ (q : Int) := by omega
              clear h4 hZ
              go_wp2_with fail
              refine (appNodes_any b2 _ _ h4r).mono ?_
              rintro e w2 ⟨rfl, hw2⟩
              have hw8 := hw2.symm
              subst hw8
              clear hw2
              go_wp2_with fail
              refine (appNodes_any b2 _ _ h4r).mono ?_
              rintro e w3 ⟨rfl, hw3⟩
              have hw8 := hw3.symm
              subst hw8
              clear hw3 h4r hcell
              go_wp2
              go_roundg (ts.length - (j + 1))
              case measure => omega
              case rel => exact ⟨j + 1, p2 + Z, hj2, by go_num, by rw [← HCp.out, ← HLn.out]; rfl, by omega, by omega, by omega, by omega, Nat.le_refl _, HNf.out, HB2.out⟩
          · have HNf : Hid (abv T 0 q = (ab ++ [(p : Int)]) ++ abv t p2 q) := by show _ = _; rw [HAp.out, HNx.out, if_neg hfar]
            have HTv := hid htv
            have hts := t.pos
            clear HNx
            cases t with
            | var =>
              unfold TV at htv
              subst htv
              simp only [Tr.size] at hfar hsd hts
              have hw1 : IntKind.i64.wrap ((p2 : Int) + 1) = ((p2 + 1 : Nat) : Int) := by rw [IntWalk.i64_in _ ⟨by omega, by omega⟩]; omega
              have hge : ¬ ((p2 + 1 : Nat) : Int) ≤ (q : Int) := by omega
              go_wp2_with fail
              refine (varNodes_any _).mono ?_
              rintro e w2 ⟨rfl, hb2⟩
              have HB3 := hid (below_step HB6.out (below_step HB2.out hb2))
              have HO3 := hid (HO6.out.later (below_step HB2.out hb2))
              have hcell2 := (Kp.of_below hb2).cell _ _ hcell
              clear hb2 hcell
              go_wp2
              go_roundg (q - p2)
              case measure => omega
              case rel => exact ⟨p2, .var, ab ++ [(p : Int)], rfl, hp2q, by simp only [Tr.size]; omega, by simp only [Tr.size]; omega, Nat.le_refl _, HTv.out, HNf.out, by rw [List.length_append, List.length_singleton]; omega, HO3.out, HB3.out⟩
            | app rs =>
              unfold TV at htv
              obtain ⟨b2, a2, cp2, rfl, hb2, _, h4, _, _, _⟩ := htv
              have h4r : wr.cell? ⟨b2, 1, none⟩ = _ := (HB2.out.cell (p := ⟨b2, 1, none⟩) (Nat.lt_of_lt_of_le (HA.out b2 hb2) HB6.out.size)).trans ((HB6.out.cell (p := ⟨b2, 1, none⟩) (HA.out b2 hb2)).trans h4)
              simp only [Tr.size] at hfar hsd hts
              obtain ⟨Z, hZ⟩ : ∃ Z, Z = 1 + sizes rs := ⟨_, rfl⟩
              rw [← hZ] at hfar hsd hts h4r
              have HZ := hid hZ
              have hw1 : IntKind.i64.wrap ((p2 : Int) + (Z : Int)) = ((p2 + Z : Nat) : Int) := by rw [IntWalk.i64_in _ ⟨by omega, by omega⟩]; omega
              have hge : ¬ ((p2 + Z : Nat) : Int) ≤ (q : Int) := by omega
              have HB3 := hid (below_step HB6.out HB2.out)
              have HO3 := hid (HO6.out.later HB2.out)
              clear h4 hZ
              go_wp2_with fail
              refine (appNodes_any b2 _ _ h4r).mono ?_
              rintro e w2 ⟨rfl, hw2⟩
              have hw8 := hw2.symm
              subst hw8
              clear hw2 h4r
              go_wp2
              go_roundg (q - p2)
              case measure => omega
              case rel => exact ⟨p2, .app rs, ab ++ [(p : Int)], rfl, hp2q, by simp only [Tr.size]; rw [← HZ.out]; omega, by simp only [Tr.size]; rw [← HZ.out]; omega, Nat.le_refl _, HTv.out, HNf.out, by rw [List.length_append, List.length_singleton]; omega, HO3.out, HB3.out⟩

end Go.Proofs.YtjcgngfidnechaaDoor
