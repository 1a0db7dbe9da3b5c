/- The document's Kids, Sub, Above, Vars walked. -/
import Derived.Test.YtjcgngfidnechaaDoorTRefP
import Derived.Test.YtjcgngfidnechaaDoorTSpl
import Derived.Deep.LoopGhost
namespace Go.Proofs.YtjcgngfidnechaaDoor
open Go.RowKit Go.Maps Go.BigFrame

/-- A symbol's arguments, where they stand. -/
theorem kids_parts {sig : List Sy} {t : List Int} {k : Nat} {c : Int} (h : placeE sig t k = 0) (hc : t[k]? = some c) (h0 : ¬ c < 0) :
    ∃ (us : List (List Int)) (q : List Int), us.length = arN sig c ∧ t.drop (k + 1) = us.flatten ++ q ∧ (∀ u ∈ us, rowE sig u = 0) ∧ kidsL sig t k = places (k + 1) (us.map List.length) := by
  obtain ⟨ha, hr, k', m, hk, hkl, hm1, hend, hkm, hsub, hrow⟩ := placeE_ok h
  obtain rfl : k = k' := by omega
  have hd := drop_get hc
  obtain ⟨m', rfl⟩ : ∃ m', m = m' + 1 := ⟨m - 1, by omega⟩
  rw [hd, List.take_succ_cons] at hsub hrow
  obtain ⟨us, u1, u2, u3, u4⟩ := kids_tree ha hrow h0
  refine ⟨us, (t.drop (k + 1)).drop m', u1, by rw [← u2, List.take_append_drop], u3, ?_⟩
  unfold kidsL
  rw [hsub, Int.toNat_natCast, u4]
  show kidsGo (k + 1) (us.flatMap (growR sig)) = _
  rw [kids_places, ← grow_map ha us u3, grow_flat ha us u3]

theorem kids_var {sig : List Sy} {t : List Int} {k : Nat} {c : Int} (h : placeE sig t k = 0) (hc : t[k]? = some c) (h0 : c < 0) : kidsL sig t k = [] := by
  rw [kids_eq h hc, if_pos h0]

theorem drop_next {us : List (List Int)} {i : Nat} {u : List Int} (h : us[i]? = some u) (q : List Int) : (us.drop i).flatten ++ q = u ++ ((us.drop (i + 1)).flatten ++ q) := by
  rw [drop_get h, List.flatten_cons, List.append_assoc]

theorem first_right {sig : List Sy} {u : List Int} (h : rowE sig u = 0) (q : List Int) : firstT sig 1 0 (u ++ q) = ((u.length : Int), 0) := first_more q u 1 0 _ (by rw [row_first.1 h])

theorem place_term {sig : List Sy} {t : List Int} {p : Int} (h : placeE sig t p = 0) : termE sig t = 0 := by
  unfold placeE at h
  by_cases ht : termE sig t = 0
  · exact ht
  · rw [if_neg ht] at h; exact h

set_option maxRecDepth 100000 in
set_option maxHeartbeats 1600000 in
theorem refKids_any (sv v : Value) (sig : List Sy) (t : List Int) (p : Int) (w : World) (hs : Sg w sv sig) (h : Is w v t) (hb : t.length * 8 ≤ 140737488351232) (hp1 : -9223372036854775808 ≤ p) (hp2 : p ≤ 9223372036854775807) :
    Calls Tryd.prog 23 #[sv, v, .int .i64 p] w fun e w' => ∃ v', e = .returned (.tuple #[v', .int .i64 (placeE sig t p)]) ∧ OwI w' w.heap.size v' (kidsL sig t p) ∧ Below w.heap.size w w' := by
  obtain ⟨so, sc, rfl, hso, hsc, _⟩ := Row.flat hs
  obtain ⟨ao, cap, rfl, hao, hca, q0⟩ := Row.flat h
  unfold maxLen at hca hsc
  have HS := hid hs
  have HI := hid h
  clear hs h q0
  go_enter Tryd.func23, Tryd.ntmps23
  go_wp2_with fail
  refine (refPlace_any _ _ sig t p w HS.out HI.out hb hp1 hp2).mono ?_
  rintro e w1 ⟨rfl, hb1⟩
  have HB := hid hb1
  clear hb1
  by_cases he : placeE sig t p = 0
  · obtain ⟨ha, _, k, _, hk, hkl, _⟩ := placeE_ok he
    subst hk
    have HE := hid he
    have HA := hid ha
    have HI1 := hid (HI.out.kp (Kp.of_below HB.out))
    have HS1 := hid (HS.out.kp (Kp.of_below HB.out))
    obtain ⟨g, off, c, rfl, hx1, hx2, hx3, hx4⟩ := HI1.out.at hkl
    rw [he]
    clear ha
    by_cases hc0 : c < 0
    · have HK := hid (kids_var he hx1 hc0)
      have hcn : ¬ 0 ≤ c := by omega
      clear he hx1
      go_wp2
      go_ret2
      exact ⟨_, by rw [HE.out]; rfl, by rw [HK.out]; exact nilI _ _, HB.out⟩
    · obtain ⟨us, q, u1, u2, u3, u4⟩ := kids_parts he hx1 hc0
      obtain ⟨cn, rfl⟩ : ∃ cn : Nat, c = cn := ⟨c.toNat, by omega⟩
      have hcn : (0 : Int) ≤ (cn : Int) := by omega
      have hcl : cn < sig.length := by
        have h1 := (term_parts (place_term he)).2
        have h2 := (at_place HA.out h1 hkl).2.2.1
        rw [drop_get hx1, firstT_cons] at h2
        cases hcd : codeD sig (cn : Int) with
        | none => rw [hcd] at h2; simp at h2
        | some e =>
          obtain ⟨s, hsg, _⟩ := codeD_get hcd
          exact (List.getElem?_eq_some_iff.1 hsg).1
      obtain ⟨g2, off2, nm, ar, rfl, hs1, hs2, hs3, hs4, hs5, hs6⟩ := HS1.out.at (k := cn) hcl
      have har := HA.out _ (List.mem_of_getElem? hs1)
      simp only at har
      have harn : us.length = ar.toNat := by rw [u1]; unfold arN; rw [Int.toNat_natCast, hs1]
      have HU2 := hid u2
      have HU3 := hid u3
      have HU4 := hid u4
      obtain ⟨an, rfl⟩ : ∃ an : Nat, ar = an := ⟨ar.toNat, by omega⟩
      rw [Int.toNat_natCast] at harn
      have hwk : IntKind.i64.wrap ((k : Int) + 1) = ((k + 1 : Nat) : Int) := by rw [IntWalk.i64_in _ ⟨by omega, by omega⟩]; omega
      clear he hx1 hs1 u1 u2 u3 u4
      go_wp2
      clear hwk
      go_loopw [9, 10, 11] (fun x kv iv wr => ∃ (i kk : Nat) (o : List Int), i ≤ an ∧ iv = .int .i64 i ∧ kv = .int .i64 kk ∧ t.drop kk = (us.drop i).flatten ++ q ∧ places (k + 1) (us.map List.length) = o ++ places kk ((us.drop i).map List.length) ∧ o.length = i ∧ OwI wr w1.heap.size x o ∧ Below w1.heap.size w1 wr) (fun _ _ iv _ => an - (intOf iv).toNat)
      case atStart => exact ⟨0, k + 1, [], Nat.zero_le _, rfl, rfl, HU2.out, rfl, rfl, nilI _ _, Below.refl _ _⟩
      case round =>
        obtain ⟨i, kk, o, hi, rfl, rfl, hdr, hpl, hol, how, hbl⟩ := hrel
        have HD := hid hdr
        have HP := hid hpl
        have HO := hid how
        have HBl := hid hbl
        have HOl := hid hol
        have hr2 := (Kp.of_below hbl).cell _ _ hx2
        have hr3 := (Kp.of_below hbl).cell _ _ hs3
        clear hdr hpl how hbl hol
        by_cases hlt : i < an
        · obtain ⟨u, hu⟩ : ∃ u, us[i]? = some u := ⟨_, List.getElem?_eq_getElem (by omega)⟩
          have hru := HU3.out u (List.mem_of_getElem? hu)
          have hd2 := HD.out
          rw [drop_next hu q] at hd2
          have hfe := first_right hru ((us.drop (i + 1)).flatten ++ q)
          rw [← hd2] at hfe
          have HFe := hid hfe
          have hkkl : kk < t.length := by
            by_cases hk : kk < t.length
            · exact hk
            · rw [List.drop_of_length_le (by omega)] at hfe
              simp [firstT] at hfe
          have HD2 : Hid (t.drop (kk + u.length) = (us.drop (i + 1)).flatten ++ q) := by
            show _ = _
            rw [← List.drop_drop, hd2, List.drop_left]
          have HP2 : Hid (places (k + 1) (us.map List.length) = (o ++ [(kk : Int)]) ++ places (kk + u.length) ((us.drop (i + 1)).map List.length)) := by
            show _ = _
            rw [HP.out, drop_get hu, List.map_cons, places, List.append_assoc]
            rfl
          obtain ⟨v6, w6, hr6, ho6, hg6, _⟩ := join_one 27 (c := (kk : Int)) HO.out (by omega) (by omega) HBl.out.size (by rw [HOl.out]; omega)
          have hb6 := (below_step HBl.out (below_alloc _)).grown hg6 (below_step HBl.out (below_alloc _)).size (fun j hj => own_blk HO.out.2 hj)
          have HR6 := hid hr6
          have HO6 := hid ho6
          have HB6 := hid hb6
          have HOl2 : Hid ((o ++ [(kk : Int)]).length = i + 1) := by show _ = _; rw [List.length_append, HOl.out]; rfl
          clear hd2 hfe hr6 ho6 hu hru hg6 hb6
          go_wp2_with (first
            | (at_builtin; refine wpList_append_run rfl _ _ _ rfl _ _ rfl rfl HR6.out ?_))
          refine (refEnd_any _ _ sig t kk u.length w6 (HS1.out.kp (Kp.of_below HB6.out)) (HI1.out.kp (Kp.of_below HB6.out)) HA.out hb HFe.out).mono ?_
          rintro e w9 ⟨rfl, hw9⟩
          have hw8 := hw9.symm
          subst hw8
          clear hw9
          go_wp2
          go_roundw
          case rel => exact ⟨i + 1, kk + u.length, o ++ [(kk : Int)], by omega, by go_num, by go_num, HD2.out, HP2.out, HOl2.out, HO6.out, HB6.out⟩
          case measure => simp [intOf]; omega
        · have hie : i = us.length := by omega
          have HF : Hid (kidsL sig t k = o) := by
            show _ = _
            rw [HU4.out, HP.out, hie, List.drop_length]
            simp [places]
          have HFo := hid (HO.out.mono HB.out.size)
          have HFb := hid (below_step HB.out HBl.out)
          clear hie
          go_wp2
          go_ret2
          exact ⟨_, by rw [HE.out]; rfl, by rw [HF.out]; exact HFo.out, HFb.out⟩
  · have HK := hid (kidsL_bad he)
    obtain ⟨E, hE⟩ : ∃ E, placeE sig t p = E := ⟨_, rfl⟩
    have HE := hid hE
    rw [hE] at he
    rw [hE]
    have heb : (E != 0) = true := by simpa using he
    clear hE
    go_wp2
    go_ret2
    exact ⟨_, by rw [HE.out]; rfl, by rw [HK.out]; exact nilI _ _, HB.out⟩

set_option maxRecDepth 100000 in
set_option maxHeartbeats 1600000 in
theorem refSub_any (sv v : Value) (sig : List Sy) (t : List Int) (p : Int) (w : World) (hs : Sg w sv sig) (h : Is w v t) (hb : t.length * 8 ≤ 140737488351232) (hp1 : -9223372036854775808 ≤ p) (hp2 : p ≤ 9223372036854775807) :
    Calls Tryd.prog 24 #[sv, v, .int .i64 p] w fun e w' => ∃ v', e = .returned (.tuple #[v', .int .i64 (placeE sig t p)]) ∧ OwI w' w.heap.size v' (subL sig t p) ∧ Below w.heap.size w w' := by
  obtain ⟨ao, cap, rfl, hao, hca, q0⟩ := Row.flat h
  unfold maxLen at hca
  have HS := hid hs
  have HI := hid h
  clear hs h q0
  go_enter Tryd.func24, Tryd.ntmps24
  go_wp2_with fail
  refine (refPlace_any _ _ sig t p w HS.out HI.out hb hp1 hp2).mono ?_
  rintro e w1 ⟨rfl, hb1⟩
  have HB := hid hb1
  clear hb1
  by_cases he : placeE sig t p = 0
  · obtain ⟨ha, hrt, k, _, hk, hkl, _⟩ := placeE_ok he
    subst hk
    obtain ⟨n1, n2, n3, _⟩ := at_place ha hrt hkl
    have HSub := hid (sub_eq (place_term he) hkl)
    have HE := hid he
    have HA := hid ha
    have HN := hid n3
    obtain ⟨n, hn⟩ : ∃ n, n = nodes sig t k := ⟨_, rfl⟩
    rw [← hn] at n1 n2 HN HSub
    obtain ⟨b, off, c0, rfl, _⟩ := HI.out.at (k := 0) (by omega)
    have hI3 := (HI.out.kp (Kp.of_below (b1 (o := .cells #[] 3) HB.out))).mid hkl n2
    have hI2 : Is (w1.alloc (.cells #[] 3)) (.slice (some ⟨b, off + k, none⟩) (k + n - k) (cap - k)) ((t.drop k).take n) := by rw [show k + n - k = n by omega]; exact hI3
    have hlm : ((t.drop k).take n).length = n := by rw [List.length_take, List.length_drop]; omega
    obtain ⟨va, w3, hr3, ho3, hg3⟩ := copy_ints 27 (base := w1.heap.size) (g := w1.heap.size) (empty_row (w := w1) 3 (Nat.le_refl _)) hI2 (below_alloc _).size (by rw [hlm]; omega)
    have HR3 := hid hr3
    have HO3 := hid (ho3.mono HB.out.size)
    have HB3 := hid (below_step HB.out (grown_below (below_alloc _) hg3 (Nat.le_refl _)))
    have hck : ¬ cap = k := by omega
    have hkc : k + n ≤ cap := by omega
    have hkc2 : k ≤ k + n := by omega
    rw [he]
    clear he ha hrt n3 hn hI2 hI3 hlm hr3 ho3 hg3
    go_wp2_with fail
    refine (refEnd_any _ _ sig t k n _ (HS.out.kp (Kp.of_below (b1 HB.out))) (HI.out.kp (Kp.of_below (b1 HB.out))) HA.out hb HN.out).mono ?_
    rintro e w9 ⟨rfl, hw9⟩
    have hw8 := hw9.symm
    subst hw8
    clear hw9
    go_wp2_with (first
      | (at_builtin; refine wpList_append_run rfl _ _ _ rfl _ _ rfl rfl HR3.out ?_))
    go_ret2
    exact ⟨_, by rw [HE.out]; rfl, by rw [HSub.out]; exact HO3.out, HB3.out⟩
  · have HK := hid (subL_bad he)
    obtain ⟨E, hE⟩ : ∃ E, placeE sig t p = E := ⟨_, rfl⟩
    have HE := hid hE
    rw [hE] at he
    rw [hE]
    have heb : (E != 0) = true := by simpa using he
    clear hE
    go_wp2
    go_ret2
    exact ⟨_, by rw [HE.out]; rfl, by rw [HK.out]; exact nilI _ _, HB.out⟩

/-- The places above a place, as they are told. -/
def aboveL (sig : List Sy) (t : List Int) (p : Int) : List Int := if placeE sig t p = 0 then (abD sig t p.toNat).map fun i : Nat => (i : Int) else []

set_option maxRecDepth 100000 in
set_option maxHeartbeats 1600000 in
theorem refAbove_any (sv v : Value) (sig : List Sy) (t : List Int) (p : Int) (w : World) (hs : Sg w sv sig) (h : Is w v t) (hb : t.length * 8 ≤ 140737488351232) (hp1 : -9223372036854775808 ≤ p) (hp2 : p ≤ 9223372036854775807) :
    Calls Tryd.prog 25 #[sv, v, .int .i64 p] w fun e w' => ∃ v', e = .returned (.tuple #[v', .int .i64 (placeE sig t p)]) ∧ OwI w' w.heap.size v' (aboveL sig t p) ∧ Below w.heap.size w w' := by
  have HS := hid hs
  have HI := hid h
  clear hs h
  go_enter Tryd.func25, Tryd.ntmps25
  go_wp2_with fail
  refine (refPlace_any _ _ sig t p w HS.out HI.out hb hp1 hp2).mono ?_
  rintro e w1 ⟨rfl, hb1⟩
  have HB := hid hb1
  clear hb1
  by_cases he : placeE sig t p = 0
  · obtain ⟨ha, hrt, k, _, hk, hkl, _⟩ := placeE_ok he
    subst hk
    have HAb : Hid (aboveL sig t k = ((List.range k).filter fun i => decide (k < i + nodes sig t i)).map fun i : Nat => (i : Int)) := by
      show _ = _
      unfold aboveL
      rw [if_pos he, Int.toNat_natCast]
      rfl
    have HE := hid he
    have HA := hid ha
    have HRt := hid hrt
    have HS1 := hid (HS.out.kp (Kp.of_below HB.out))
    have HI1 := hid (HI.out.kp (Kp.of_below HB.out))
    rw [he]
    clear he ha hrt
    go_wp2
    go_loopw [9, 10] (fun x iv wr => ∃ i : Nat, i ≤ k ∧ iv = .int .i64 i ∧ OwI wr w1.heap.size x (((List.range i).filter fun i => decide (k < i + nodes sig t i)).map fun i : Nat => (i : Int)) ∧ Below w1.heap.size w1 wr) (fun _ iv _ => k - (intOf iv).toNat)
    case atStart => exact ⟨0, Nat.zero_le _, rfl, nilI _ _, Below.refl _ _⟩
    case round =>
      obtain ⟨i, hi, rfl, how, hbl⟩ := hrel
      have HO := hid how
      have HBl := hid hbl
      clear how hbl
      by_cases hlt : i < k
      · obtain ⟨n1, n2, n3, _⟩ := at_place HA.out HRt.out (i := i) (by omega)
        have hfl : (((List.range i).filter fun i => decide (k < i + nodes sig t i)).map fun i : Nat => (i : Int)).length ≤ i := by
          rw [List.length_map]
          refine Nat.le_trans (List.length_filter_le _ _) ?_
          rw [List.length_range]
          exact Nat.le_refl _
        have hrs : (List.range (i + 1)).filter (fun i => decide (k < i + nodes sig t i)) = (List.range i).filter (fun i => decide (k < i + nodes sig t i)) ++ if k < i + nodes sig t i then [i] else [] := by
          rw [List.range_succ, List.filter_append]
          by_cases hk : k < i + nodes sig t i
          · rw [if_pos hk, List.filter_cons_of_pos (by simpa using hk)]
            rfl
          · rw [if_neg hk, List.filter_cons_of_neg (by simpa using hk)]
            rfl
        have HN := hid n3
        have HFl := hid hfl
        have HRs := hid hrs
        obtain ⟨n, hn⟩ : ∃ n, n = nodes sig t i := ⟨_, rfl⟩
        rw [← hn] at n1 n2 HN HRs
        clear n3 hn hfl hrs
        go_wp2_with fail
        refine (refEnd_any _ _ sig t i n wr (HS1.out.kp (Kp.of_below HBl.out)) (HI1.out.kp (Kp.of_below HBl.out)) HA.out hb HN.out).mono ?_
        rintro e w9 ⟨rfl, hw9⟩
        have hw8 := hw9.symm
        subst hw8
        clear hw9
        by_cases hgt : k < i + n
        · have HRs2 : Hid (((List.range (i + 1)).filter fun i => decide (k < i + nodes sig t i)).map (fun i : Nat => (i : Int)) = ((List.range i).filter fun i => decide (k < i + nodes sig t i)).map (fun i : Nat => (i : Int)) ++ [(i : Int)]) := by
            show _ = _
            rw [HRs.out, if_pos hgt, List.map_append]
            rfl
          obtain ⟨v6, w6, hr6, ho6, hg6, _⟩ := join_one 27 (c := (i : Int)) HO.out (by omega) (by omega) HBl.out.size (by have := HFl.out; omega)
          have hb6 := (below_step HBl.out (below_alloc _)).grown hg6 (below_step HBl.out (below_alloc _)).size (fun j hj => own_blk HO.out.2 hj)
          have HR6 := hid hr6
          have HO6 := hid ho6
          have HB6 := hid hb6
          have hgt2 : (k : Int) < ((i + n : Nat) : Int) := by omega
          clear hr6 ho6 hg6 hb6
          go_wp2_with (first
            | (at_builtin; refine wpList_append_run rfl _ _ _ rfl _ _ rfl rfl HR6.out ?_))
          go_roundw
          case rel => exact ⟨i + 1, by omega, by go_num, by rw [HRs2.out]; exact HO6.out, HB6.out⟩
          case measure => simp [intOf]; omega
        · have HRs2 : Hid ((List.range (i + 1)).filter (fun i => decide (k < i + nodes sig t i)) = (List.range i).filter (fun i => decide (k < i + nodes sig t i))) := by
            show _ = _
            rw [HRs.out, if_neg hgt, List.append_nil]
          have hgt2 : ¬ (k : Int) < ((i + n : Nat) : Int) := by omega
          go_wp2
          go_roundw
          case rel => exact ⟨i + 1, by omega, by go_num, by rw [HRs2.out]; exact HO.out, HBl.out⟩
          case measure => simp [intOf]; omega
      · have hik : i = k := by omega
        subst hik
        have HFo := hid (HO.out.mono HB.out.size)
        have HFb := hid (below_step HB.out HBl.out)
        go_wp2
        go_ret2
        exact ⟨_, by rw [HE.out]; rfl, by rw [HAb.out]; exact HFo.out, HFb.out⟩
  · have HK : Hid (aboveL sig t p = []) := by show _ = _; unfold aboveL; rw [if_neg he]
    obtain ⟨E, hE⟩ : ∃ E, placeE sig t p = E := ⟨_, rfl⟩
    have HE := hid hE
    rw [hE] at he
    rw [hE]
    have heb : (E != 0) = true := by simpa using he
    clear hE
    go_wp2
    go_ret2
    exact ⟨_, by rw [HE.out]; rfl, by rw [HK.out]; exact nilI _ _, HB.out⟩

end Go.Proofs.YtjcgngfidnechaaDoor
