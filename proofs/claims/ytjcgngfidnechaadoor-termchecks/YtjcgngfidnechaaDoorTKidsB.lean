/- Kids and Sub walked. -/
import Derived.Test.YtjcgngfidnechaaDoorTEnd
import Derived.Test.YtjcgngfidnechaaDoorTApplyB
namespace Go.Proofs.YtjcgngfidnechaaDoor
open Go.RowKit Go.Maps

theorem empty_ints (w : World) {base : Nat} (hb : base ≤ w.heap.size) : (w.alloc (.cells #[] 3)).ownsRow base 3 1 (.slice (some ⟨w.heap.size, 0, none⟩) 0 0) 0 [] :=
  ⟨rfl, .inr ⟨w.heap.size, 0, #[], rfl, hb, heap_alloc_new _ _, Nat.le_refl _, by simp [maxLen], by simp, by simp⟩⟩

set_option maxRecDepth 100000 in
set_option maxHeartbeats 800000 in
theorem cloneI_any (v : Value) (t : List Int) (w : World) (h : Is w v t) (h0 : 0 < t.length) (hl : t.length * 8 ≤ 140737488355328) :
    Calls Tryd.prog 39 #[v] w fun e w' => ∃ v', e = .returned v' ∧ OwI w' w.heap.size v' t ∧ Below w.heap.size w w' := by
  have hq : ∀ (W : World) (a : Option Addr) (n c n' c' : Nat), (binOp .eql 27 (.slice a n c) (.slice none n' c')).run Tryd.prog W = .ok (.bool a.isNone) W := fun W a n c n' c' => Lib.run_eql_slice_nil W _ _ a n c n' c' under_ints
  obtain ⟨ao, cap, rfl, hao, hca, q0⟩ := Row.flat h
  obtain ⟨g, off, c0, rfl, _⟩ := h.at h0
  obtain ⟨v', w', hr, ho, hg⟩ := join_ints 27 (w := w.alloc (.cells #[] 3)) (base := w.heap.size) (x := .slice (some ⟨w.heap.size, 0, none⟩) 0 0) (xs := []) ⟨fun k x hk => (by simp at hk), empty_ints w (Nat.le_refl _)⟩ (h.kp (Kp.of_below (below_alloc _))) (below_alloc _).size (by simp; omega)
  rw [List.nil_append] at ho
  have HR := hid hr
  have HO := hid ho
  have HB := hid (grown_below (below_alloc _) hg (Nat.le_refl _))
  clear hr ho hg q0 h
  go_enter Tryd.func39, Tryd.ntmps39
  go_wp2_with (first
    | (at_builtin; refine wpList_append_run rfl _ _ _ rfl _ _ rfl rfl HR.out ?_))
  go_ret
  exact ⟨_, rfl, HO.out, HB.out⟩

/-- What is wrong with a term and a place; the term there; its arguments' places. -/
def placeE (sig : List Sy) (t : List Int) (p : Int) : Int := if termE sig t = 0 then (endP sig t p).2 else termE sig t

def subL (sig : List Sy) (t : List Int) (p : Int) : List Int := if placeE sig t p = 0 then (t.drop p.toNat).take ((endP sig t p).1.toNat - p.toNat) else []

def kidsL (sig : List Sy) (t : List Int) (p : Int) : List Int := match growR sig (subL sig t p) with | [T] => kidsR p.toNat T | _ => []

theorem placeE_ok {sig : List Sy} {t : List Int} {p : Int} (h : placeE sig t p = 0) : ArOk sig ∧ rowE sig t = 0 ∧ ∃ k m : Nat, p = k ∧ k < t.length ∧ 1 ≤ m ∧ endP sig t p = (((k + m : Nat) : Int), 0) ∧ k + m ≤ t.length ∧ subL sig t p = (t.drop k).take m ∧ rowE sig ((t.drop k).take m) = 0 := by
  have h0 := h
  unfold placeE at h
  by_cases ht : termE sig t = 0
  · rw [if_pos ht] at h
    have hsg : sigE sig = 0 := by
      unfold termE at ht
      by_cases hs : sigE sig = 0
      · exact hs
      · rw [if_neg hs] at ht; exact ht
    have hrw : rowE sig t = 0 := by unfold termE at ht; rw [if_pos hsg] at ht; exact ht
    obtain ⟨k, m, h1, h2, h3, h4, h5, h6⟩ := endP_ok (Prod.ext rfl h : endP sig t p = ((endP sig t p).1, 0))
    refine ⟨sigE_ok hsg, hrw, k, m, h1, h2, h3, Prod.ext h4 h, h5, ?_, h6⟩
    unfold subL
    rw [if_pos h0, h4, h1, Int.toNat_natCast, Int.toNat_natCast, show k + m - k = m by omega]
  · rw [if_neg ht] at h
    exact absurd h ht

theorem kidsL_bad {sig : List Sy} {t : List Int} {p : Int} (h : placeE sig t p ≠ 0) : kidsL sig t p = [] := by
  unfold kidsL subL
  rw [if_neg h]
  rfl

theorem subL_bad {sig : List Sy} {t : List Int} {p : Int} (h : placeE sig t p ≠ 0) : subL sig t p = [] := by
  unfold subL
  rw [if_neg h]

set_option maxRecDepth 100000 in
set_option maxHeartbeats 800000 in
theorem sub_any (sv v : Value) (sig : List Sy) (t : List Int) (p : Int) (w : World) (hs : Sg w sv sig) (h : Is w v t) (hT : Tabs w) (hb : t.length * 8 ≤ 140737488351232) (hp1 : -9223372036854775808 ≤ p) (hp2 : p ≤ 9223372036854775807) :
    Calls Tryd.prog 21 #[sv, v, .int .i64 p] w fun e w' => ∃ v', e = .returned (.tuple #[v', .int .i64 (placeE sig t p)]) ∧ OwI w' w.heap.size v' (subL sig t p) ∧ Below w.heap.size w w' := by
  have HS := hid hs
  have HI := hid h
  have HT := hid hT
  have HP := hid (And.intro hp1 hp2)
  clear hs h hT hp1 hp2
  go_enter Tryd.func21, Tryd.ntmps21
  go_wp2_with fail
  refine (check_any sv v sig t w HS.out HI.out HT.out hb).mono ?_
  rintro e w1 ⟨rfl, hb1⟩
  have HB1 := hid hb1
  clear hb1
  by_cases hte : termE sig t = 0
  · have HPl : Hid (placeE sig t p = (endP sig t p).2) := by show _ = _; unfold placeE; rw [if_pos hte]
    have ha : ArOk sig := by
      unfold termE at hte
      by_cases hs : sigE sig = 0
      · exact sigE_ok hs
      · rw [if_neg hs] at hte; exact absurd hte hs
    have HA := hid ha
    rw [hte]
    clear hte ha
    go_wp2_with fail
    refine (endOf_any sv v sig t p w1 (HS.out.kp (Kp.of_below HB1.out)) (HI.out.kp (Kp.of_below HB1.out)) HA.out hb HP.out.1 HP.out.2).mono ?_
    rintro e w2 ⟨rfl, hw2⟩
    have hw8 := hw2.symm
    subst hw8
    clear hw2
    by_cases he : (endP sig t p).2 = 0
    · obtain ⟨_, _, k, m, hk, hkl, hm1, hend, hkm, hsub, hrow⟩ := placeE_ok (HPl.out.trans he)
      subst hk
      have HE := hid (HPl.out.trans he)
      have HSub := hid hsub
      have hIm := HI.out.kp (Kp.of_below HB1.out)
      obtain ⟨ao, cap, rfl, hao, hca, q0⟩ := Row.flat HI.out
      obtain ⟨b, off, c0, rfl, _⟩ := HI.out.at (k := 0) (by omega)
      unfold maxLen at hca
      have hI2 := hIm.mid hkl hkm
      have hlm : ((t.drop k).take m).length = m := by rw [List.length_take, List.length_drop]; omega
      have HCl := hid (cloneI_any _ _ _ hI2 (by omega) (by rw [hlm]; omega))
      have hck : ¬ cap = k := by omega
      have hkm2 : k + m - k = m := by omega
      have hkc : k + m ≤ cap := by omega
      have hkc2 : k ≤ k + m := by omega
      rw [hend]
      clear hIm q0 hI2 hlm he hend hsub hrow
      go_wp2_with fail
      refine HCl.out.mono ?_
      rintro e w2 ⟨v', rfl, ho, hb2⟩
      have HO := hid (ho.mono HB1.out.size)
      have HB2 := hid (below_step HB1.out hb2)
      clear ho hb2
      go_wp2
      go_ret2
      exact ⟨_, by rw [HE.out]; rfl, by rw [HSub.out]; exact HO.out, HB2.out⟩
    · have HNe := hid (fun h => he (HPl.out.symm.trans h) : placeE sig t p ≠ 0)
      generalize (endP sig t p).2 = E at he HPl ⊢
      generalize (endP sig t p).1 = E1
      have heb : (E != 0) = true := by simpa using he
      go_wp2
      go_ret2
      exact ⟨_, by rw [HPl.out]; rfl, by rw [subL_bad HNe.out]; exact nilI _ _, HB1.out⟩
  · have HPl : Hid (placeE sig t p = termE sig t) := by show _ = _; unfold placeE; rw [if_neg hte]
    have HNe := hid (fun h => hte (HPl.out.symm.trans h) : placeE sig t p ≠ 0)
    generalize termE sig t = E at hte HPl ⊢
    have heb : (E != 0) = true := by simpa using hte
    go_wp2
    go_ret2
    exact ⟨_, by rw [HPl.out]; rfl, by rw [subL_bad HNe.out]; exact nilI _ _, HB1.out⟩

set_option maxRecDepth 100000 in
set_option maxHeartbeats 800000 in
theorem kids_any (sv v : Value) (sig : List Sy) (t : List Int) (p : Int) (w : World) (hs : Sg w sv sig) (h : Is w v t) (hT : Tabs w) (hb : t.length * 16 ≤ 140737488351232) (hp1 : -9223372036854775808 ≤ p) (hp2 : p ≤ 9223372036854775807) :
    Calls Tryd.prog 20 #[sv, v, .int .i64 p] w fun e w' => ∃ v', e = .returned (.tuple #[v', .int .i64 (placeE sig t p)]) ∧ OwI w' w.heap.size v' (kidsL sig t p) ∧ Below w.heap.size w w' := by
  have HS := hid hs
  have HI := hid h
  have HT := hid hT
  have HP := hid (And.intro hp1 hp2)
  clear hs h hT hp1 hp2
  go_enter Tryd.func20, Tryd.ntmps20
  go_wp2_with fail
  refine (check_any sv v sig t w HS.out HI.out HT.out (by omega)).mono ?_
  rintro e w1 ⟨rfl, hb1⟩
  have HB1 := hid hb1
  clear hb1
  by_cases hte : termE sig t = 0
  · have HPl : Hid (placeE sig t p = (endP sig t p).2) := by show _ = _; unfold placeE; rw [if_pos hte]
    have ha : ArOk sig := by
      unfold termE at hte
      by_cases hs : sigE sig = 0
      · exact sigE_ok hs
      · rw [if_neg hs] at hte; exact absurd hte hs
    have HA := hid ha
    rw [hte]
    clear hte ha
    go_wp2_with fail
    refine (endOf_any sv v sig t p w1 (HS.out.kp (Kp.of_below HB1.out)) (HI.out.kp (Kp.of_below HB1.out)) HA.out (by omega) HP.out.1 HP.out.2).mono ?_
    rintro e w2 ⟨rfl, hw2⟩
    have hw8 := hw2.symm
    subst hw8
    clear hw2
    by_cases he : (endP sig t p).2 = 0
    · obtain ⟨_, _, k, m, hk, hkl, hm1, hend, hkm, hsub, hrow⟩ := placeE_ok (HPl.out.trans he)
      subst hk
      have HE := hid (HPl.out.trans he)
      have HSub := hid hsub
      have hIm := HI.out.kp (Kp.of_below HB1.out)
      obtain ⟨ao, cap, rfl, hao, hca, q0⟩ := Row.flat HI.out
      obtain ⟨b, off, c0, rfl, _⟩ := HI.out.at (k := 0) (by omega)
      unfold maxLen at hca
      have hI2 := hIm.mid hkl hkm
      have hlm : ((t.drop k).take m).length = m := by rw [List.length_take, List.length_drop]; omega
      have HGr := hid (grow_any sv _ sig _ _ (HS.out.kp (Kp.of_below HB1.out)) hI2 HA.out hrow (by rw [hlm]; omega))
      have hck : ¬ cap = k := by omega
      have hkm2 : k + m - k = m := by omega
      have hkc : k + m ≤ cap := by omega
      have hkc2 : k ≤ k + m := by omega
      rw [hend]
      clear hIm q0 hI2 hlm he hend hsub hrow
      go_wp2_with fail
      refine HGr.out.mono ?_
      rintro e w2 ⟨u, T, A, rfl, hgr, htv, hA, hb2⟩
      have HKl : Hid (kidsL sig t k = kidsR k T) := by show _ = _; unfold kidsL; rw [HSub.out, hgr, Int.toNat_natCast]
      have hsz : T.size = m := by
        have h1 := growR_sizes sig ((t.drop k).take m)
        rw [hgr, List.length_take, List.length_drop] at h1
        simp only [sizes] at h1
        omega
      have HKd := hid (kidsOf_any u T A k w2 htv (fun b hb => (hA b hb).2) (by omega) (by omega))
      have HB2 := hid (below_step HB1.out hb2)
      clear hgr htv hA hb2 hsz HGr
      go_wp2_with fail
      refine HKd.out.mono ?_
      rintro e w3 ⟨v', rfl, ho, hb3⟩
      have HO := hid (ho.mono HB2.out.size)
      have HB3 := hid (below_step HB2.out hb3)
      clear ho hb3 HKd
      go_wp2
      go_ret2
      exact ⟨_, by rw [HE.out]; rfl, by rw [HKl.out]; exact HO.out, HB3.out⟩
    · have HNe := hid (fun h => he (HPl.out.symm.trans h) : placeE sig t p ≠ 0)
      generalize (endP sig t p).2 = E at he HPl ⊢
      generalize (endP sig t p).1 = E1
      have heb : (E != 0) = true := by simpa using he
      go_wp2
      go_ret2
      exact ⟨_, by rw [HPl.out]; rfl, by rw [kidsL_bad HNe.out]; exact nilI _ _, HB1.out⟩
  · have HPl : Hid (placeE sig t p = termE sig t) := by show _ = _; unfold placeE; rw [if_neg hte]
    have HNe := hid (fun h => hte (HPl.out.symm.trans h) : placeE sig t p ≠ 0)
    generalize termE sig t = E at hte HPl ⊢
    have heb : (E != 0) = true := by simpa using hte
    go_wp2
    go_ret2
    exact ⟨_, by rw [HPl.out]; rfl, by rw [kidsL_bad HNe.out]; exact nilI _ _, HB1.out⟩

end Go.Proofs.YtjcgngfidnechaaDoor
