/- Texts of the proof, one behind the other. -/
import Derived.Test.YtgpbnbmjgcchfaaGreatDoorOwn11
import Derived.Test.YtgpbnbmjgcchfaaGreatDoorOwn12
import Derived.Test.YtgpbnbmjgcchfaaGreatDoorOwn13
import Derived.Test.YtgpbnbmjgcchfaaGreatDoorOwn8
import Derived.Test.YtgpbnbmjgcchfaaGreatDoorOwn4
import Derived.Test.YtgpbnbmjgcchfaaGreatDoorOwn3
import Derived.Shelf.Strings.Prefix
/- Match of package match walked. -/
namespace Go.Proofs.YtgpbnbmjgcchfaaGreatDoor
open Go.RowKit Go.Maps

theorem piece_le {f : Int → Option (List Int)} {p : List Int} {c : Int} (h : c ∈ p) : (piece f c).length ≤ (laidL f p).length := by
  obtain ⟨a, b, rfl⟩ := List.append_of_mem h
  rw [laidL_app, laidL_cons, List.length_append, List.length_append]
  omega

theorem metM_len : ∀ (t m : List Int), (metA m t).length ≤ m.length + t.length
  | [], m => by simp [metA]
  | c :: t, m => by
    unfold metA
    split
    · have := metM_len t m
      simp only [List.length_cons]
      omega
    · have := metM_len t (m ++ [c])
      simp only [List.length_append, List.length_cons, List.length_nil] at this ⊢
      omega

theorem varsM_len (t : List Int) : (varsL t).length ≤ t.length := by
  unfold varsL
  rw [List.length_map]
  have := metM_len t []
  simpa using this

theorem wf_whole {sig : List Sy} {p : List Int} {P : Tr} (hr : rowE sig p = 0) (hg : growR sig p = [P]) : Wf sig p P 0 ∧ P.size = p.length := by
  refine ⟨⟨p, [], by simp, hr, hg⟩, ?_⟩
  have h := growR_sizes sig p
  rw [hg] at h
  simpa [sizes] using h

theorem row_ne {sig : List Sy} {p : List Int} (hr : rowE sig p = 0) : 0 < p.length := by
  cases p with
  | nil => simp [rowE, firstT] at hr
  | cons c p => simp

/-- The binds that a match tells. -/
def bindsL (f : Int → Option (List Int)) (p : List Int) : List Bd := (sortI (varsL p)).map fun n => (n, (f n).getD [])

theorem rs_two {w : World} {pv tv : Value} {p t : List Int} (hp : Is w pv p) (ht : Is w tv t) (h1 : p.length * 8 ≤ 140737488351232) (h2 : t.length * 8 ≤ 140737488351232) : Rs (w.alloc (.cells #[pv, tv] 26)) (.slice (some ⟨w.heap.size, 0, none⟩) 2 2) [p, t] := by
  have hk := Kp.of_below (below_alloc (w := w) (.cells #[pv, tv] 26))
  refine ⟨_, 2, rfl, Nat.le_refl _, by simp [maxLen], fun _ => ⟨w.heap.size, 0, rfl, by simp, fun k x hx => ?_⟩⟩
  match k, hx with
  | 0, hx =>
    simp at hx
    subst hx
    exact ⟨h1, pv, cell_new rfl, hp.kp hk⟩
  | 1, hx =>
    simp at hx
    subst hx
    exact ⟨h2, tv, cell_new rfl, ht.kp hk⟩
  | k + 2, hx => simp at hx

/-- What the walk wants of the binds that were found. -/
theorem found {sig : List Sy} {p t : List Int} {w : World} {L : List (Int × Value)} {R : List (Int × List Int)} (hlr : Lr w L R) (hky : Ky sig p R) (hs : Sm (fun n => R.lookup n) p t) (ht : t.length * 8 ≤ 140737488351232) : ∀ x ∈ varsL p, ∃ v u, L.lookup x = some v ∧ R.lookup x = some u ∧ Is w v u ∧ 0 < u.length ∧ u.length * 8 ≤ 140737488351232 := fun x hx => by
  obtain ⟨c, hc, h0, rfl⟩ := mem_varsL.1 hx
  have hne := hs.1 c hc h0
  cases hl : L.lookup (-1 - c) with
  | none => exact absurd ((hlr _).2 hl) hne
  | some v =>
    obtain ⟨u, hu, hi⟩ := (hlr _).1 v hl
    refine ⟨v, u, rfl, hu, hi, row_ne (hky _ _ hu).1, ?_⟩
    have h9 := piece_le (f := fun n => R.lookup n) hc
    rw [hs.2] at h9
    have e9 : piece (fun n => R.lookup n) c = u := by unfold piece; rw [if_pos h0]; show (R.lookup (-1 - c)).getD [c] = u; rw [hu]; rfl
    rw [e9] at h9
    omega

set_option maxRecDepth 100000 in
set_option maxHeartbeats 1600000 in
theorem match_any (sv pv tv : Value) (sig : List Sy) (p t : List Int) (w : World) (hs : Sg w sv sig) (hp : Is w pv p) (ht : Is w tv t) (hT : Tabs w) (hl1 : p.length * 32 ≤ 140737488351232) (hl2 : t.length * 16 ≤ 140737488351232) :
    Calls Tryz.prog 40 #[sv, pv, tv] w fun e w' => Below w.heap.size w w' ∧ ((e = .returned (.tuple #[.slice none 0 0, .bool false]) ∧ (termE sig p ≠ 0 ∨ termE sig t ≠ 0 ∨ ∀ f, Rt sig f → ¬ Sm f p t)) ∨
      ∃ v f, e = .returned (.tuple #[v, .bool true]) ∧ termE sig p = 0 ∧ termE sig t = 0 ∧ Rt sig f ∧ Sm f p t ∧ OBW w.heap.size w' v (bindsL f p)) := by
  obtain ⟨ap, cp, hpv, _⟩ := hp.flatI
  subst hpv
  obtain ⟨at', ct, htv, _⟩ := ht.flatI
  subst htv
  have HS := hid hs
  have HP := hid hp
  have HT := hid ht
  have HTa := hid hT
  clear hs hp ht hT
  go_enter Tryz.func40, Tryz.ntmps40
  go_wp2_with fail
  refine (areTerms_any sv _ sig [p, t] _ (HS.out.kp (Kp.of_below (below_alloc _))) (rs_two HP.out HT.out (by omega) (by omega)) (HTa.out.below (below_alloc _))).mono ?_
  rintro e w1 ⟨rfl, hb1⟩
  have hB1 := below_step (below_alloc _) hb1
  have HB1 := hid hB1
  clear hb1
  by_cases hc : termE sig p = 0 ∧ termE sig t = 0
  · obtain ⟨hcp, hct⟩ := hc
    have htb : termsB sig [p, t] = true := by simp [termsB, hcp, hct]
    rw [htb]
    have hse : sigE sig = 0 := by
      unfold termE at hcp
      by_cases h : sigE sig = 0
      · exact h
      · rw [if_neg h] at hcp; exact hcp
    have hrp : rowE sig p = 0 := by unfold termE at hcp; rw [if_pos hse] at hcp; exact hcp
    have hrt : rowE sig t = 0 := by unfold termE at hct; rw [if_pos hse] at hct; exact hct
    have hao := sigE_ok hse
    have HCp := hid hcp
    have HCt := hid hct
    have HAo := hid hao
    have HRp := hid hrp
    have HRt := hid hrt
    obtain ⟨b1, o1, _, e1, _⟩ := HP.out.at (row_ne hrp)
    obtain ⟨b2, o2, _, e2, _⟩ := HT.out.at (row_ne hrt)
    subst e1
    subst e2
    clear htb hcp hct hse hrp hrt hao hB1
    go_wp2_with fail
    refine (growM_any sv b1 o1 cp sig p w1 (HS.out.kp (Kp.of_below HB1.out)) (HP.out.kp (Kp.of_below HB1.out)) HAo.out HRp.out (by omega)).mono ?_
    rintro e w2 ⟨v1, P, A1, rfl, hg1, ht1, hA1, hb2⟩
    have HB2 := hid (below_step HB1.out hb2)
    have HG1 := hid hg1
    have HT1 := hid ht1
    have HA1 := hid hA1
    clear hg1 ht1 hA1 hb2
    go_wp2_with fail
    refine (growM_any sv b2 o2 ct sig t w2 (HS.out.kp (Kp.of_below HB2.out)) (HT.out.kp (Kp.of_below HB2.out)) HAo.out HRt.out (by omega)).mono ?_
    rintro e w3 ⟨v2, T, A2, rfl, hg2, ht2, hA2, hb3⟩
    have HB3 := hid (below_step HB2.out hb3)
    have HG2 := hid hg2
    have HT2 := hid ht2
    have HA2 := hid hA2
    have HT1' : Hid (TP w3 (fun b => A1 b ∨ A2 b) (cdS b1 o1 cp) v1 P 0) := HT1.out.keep (fun b o x _ h => (Kp.of_below hb3).cell _ _ h) (fun b h => .inl h)
    have HT2' : Hid (TP w3 (fun b => A1 b ∨ A2 b) (cdS b2 o2 ct) v2 T 0) := HT2.out.keep (fun b o x _ h => h) (fun b h => .inr h)
    have HAA : Hid (∀ b, (A1 b ∨ A2 b) → b < w3.heap.size) := fun b h => by
      rcases h with h | h
      · exact Nat.lt_of_lt_of_le (HA1.out b h).2 hb3.size
      · exact (HA2.out b h).2
    clear hg2 ht2 hA2 hb3 HT1 HT2
    go_wp2_with fail
    refine (boundRows_any sig HAo.out b1 o1 cp b2 o2 ct p t (fun b => A1 b ∨ A2 b) v1 v2 P T w3 (HP.out.kp (Kp.of_below HB3.out)) (HT.out.kp (Kp.of_below HB3.out)) HT1'.out HT2'.out HAA.out (wf_whole HRp.out HG1.out).1 (wf_whole HRt.out HG2.out).1 (wf_whole HRp.out HG1.out).2 (wf_whole HRt.out HG2.out).2 (by omega)).mono ?_
    rintro e w4 ⟨hb4, ⟨rfl, hno⟩ | ⟨L, R, rfl, hm, hlr, hky, hsm⟩⟩
    · have HB4 := hid (below_step HB3.out hb4)
      have HNo := hid hno
      clear hb4 hno
      go_wp2
      go_ret2
      exact ⟨HB4.out, .inl ⟨rfl, .inr (.inr HNo.out)⟩⟩
    · have HB4 := hid (below_step HB3.out hb4)
      have HM := hid hm
      have HKy := hid hky
      have HSm := hid hsm
      have HFo : Hid (∀ x ∈ varsL p, ∃ v u, L.lookup x = some v ∧ R.lookup x = some u ∧ Is w4 v u ∧ 0 < u.length ∧ u.length * 8 ≤ 140737488351232) := fun x hx => by
        obtain ⟨v, u, k1, k2, k3, k4, k5⟩ := found hlr hky hsm (by omega) x hx
        exact ⟨v, u, k1, k2, k3.kp (Kp.of_below hb4), k4, k5⟩
      have hbm := hm.lt
      clear hb4 hm hlr hky hsm
      go_wp2_with fail
      refine (vars_any _ p w4 (HP.out.kp (Kp.of_below HB4.out)) (by omega)).mono ?_
      rintro e w5 ⟨v5, rfl, ho5, hb5⟩
      have HO5 := hid ho5
      have HB5 := hid hb5
      clear ho5 hb5
      go_wp2_with fail
      refine (risingBinds_any (fun n => R.lookup n) w3.heap.size L v5 (varsL p) w4 w5 HB5.out HO5.out (HM.out.later HB5.out) hbm HFo.out (by have := varsM_len p; omega)).mono ?_
      rintro e w6 ⟨v6, rfl, ho6, hb6⟩
      have HO6 := hid ho6
      have HB6 := hid (below_step HB4.out hb6)
      clear ho6 hb6
      go_wp2
      go_ret2
      exact ⟨HB6.out, .inr ⟨_, fun n => R.lookup n, rfl, HCp.out, HCt.out, fun n u hu => (HKy.out n u hu).1, HSm.out, HO6.out.mono HB4.out.size⟩⟩
  · have htb : termsB sig [p, t] = false := by
      unfold termsB
      rw [List.all_eq_false]
      by_cases h : termE sig p = 0
      · exact ⟨t, by simp, by simp; exact fun h2 => hc ⟨h, h2⟩⟩
      · exact ⟨p, by simp, by simpa using h⟩
    have HC : Hid (termE sig p ≠ 0 ∨ termE sig t ≠ 0 ∨ ∀ f, Rt sig f → ¬ Sm f p t) := by
      by_cases h : termE sig p = 0
      · exact .inr (.inl fun h2 => hc ⟨h, h2⟩)
      · exact .inl h
    rw [htb]
    clear htb hc hB1
    go_wp2
    go_ret2
    exact ⟨HB1.out, .inl ⟨rfl, HC.out⟩⟩

end Go.Proofs.YtgpbnbmjgcchfaaGreatDoor

/- What Check of package system asks ahead of the rules. -/
namespace Go.Proofs
open Go.Shelf Go.RowKit Go.Lib

def Tryz.sufLay_ren : Go.Shelf.Ren := ⟨fun | 100 => 109 | 207 => 128 | n => n, fun | 9 => 9 | 4 => 4 | 3 => 3 | n => n, fun | n => n⟩
theorem Tryz.sufLay : Go.Proofs.Lays.n100 Tryz.prog Tryz.sufLay_ren := {
  mixed := by kernel_rfl
  f100 := Tryz.func109.trans (congrArg some (by kernel_rfl))
  f207 := Tryz.func128.trans (congrArg some (by kernel_rfl))
  t3 := Tryz.underlying3
  a3 := Tryz.isAgg3
  z3 := Tryz.sizeOf3
  v3 := Tryz.zeroValue3
  t4 := Tryz.underlying4
  a4 := Tryz.isAgg4
  z4 := Tryz.sizeOf4
  v4 := Tryz.zeroValue4
  t9 := Tryz.underlying9
  a9 := Tryz.isAgg9
  z9 := Tryz.sizeOf9
  v9 := Tryz.zeroValue9 }

end Go.Proofs

namespace Go.Proofs.YtgpbnbmjgcchfaaGreatDoor
open Go.RowKit Go.Maps Go.BigFrame

/-- Whether a name ends with a mark. -/
def sufB (s : ByteArray) : Bool := Lib.hasSuffix s.data.toList "#".toUTF8.data.toList

set_option maxRecDepth 100000 in
theorem isMarked_any (s : ByteArray) (a : Int) (w : World) (hs : s.size ≤ maxLen) :
    Calls Tryz.prog 98 #[.agg #[.string s, .int .i64 a]] w fun e w' => e = .returned (.bool (sufB s)) ∧ Below w.heap.size w w' := by
  have cT : ∀ W, Calls Tryz.prog 109 #[.string s, .string "#".toUTF8] W fun e w' => e = .returned (.bool (sufB s)) ∧ w' = W := fun W => Any.strings_HasSuffix Tryz.sufLay s "#".toUTF8 W hs
  have HT := hid cT
  clear cT
  generalize sufB s = B at HT ⊢
  go_enter Tryz.func98, Tryz.ntmps98
  go_wp2_with fail
  refine (HT.out _).mono ?_
  rintro e w9 ⟨rfl, hw9⟩
  have hw8 := hw9.symm
  subst hw8
  clear hw9
  go_wp2
  go_ret
  exact ⟨rfl, below_alloc _⟩

set_option maxRecDepth 100000 in
set_option maxHeartbeats 800000 in
theorem indexMarked_any (sv : Value) (sig : List Sy) (w : World) (hs : Sg w sv sig) :
    Calls Tryz.prog 108 #[sv, .func (.func 98) #[] #[]] w fun e w' => ∃ n : Int, e = .returned (.int .i64 n) ∧ decide (0 ≤ n) = (sig.any fun s => sufB s.1) ∧ Below w.heap.size w w' := by
  obtain ⟨so, sc, rfl, hso, hsc, _⟩ := Row.flat hs
  unfold maxLen at hsc
  have HS := hid hs
  clear hs
  go_enter Tryz.func108, Tryz.ntmps108
  go_wp2
  go_loopw [8] (fun i wr => ∃ k : Nat, k ≤ sig.length ∧ i = .int .i64 k ∧ (sig.take k).any (fun s => sufB s.1) = false ∧ Below w.heap.size w wr) (fun i _ => sig.length - (intOf i).toNat)
  case atStart => exact ⟨0, Nat.zero_le _, rfl, by simp, Below.refl _ _⟩
  case round =>
    obtain ⟨k, hk, rfl, hno, hbl⟩ := hrel
    have HNo := hid hno
    have HB := hid hbl
    clear hno
    by_cases hlt : k < sig.length
    · obtain ⟨g, off, s, a, rfl, hm, hc0, hc1, ha1, ha2, hs3⟩ := (HS.out.kp (Kp.of_below hbl)).at hlt
      have HM := hid hm
      clear hm hbl
      go_wp2_with fail
      refine (isMarked_any s a wr (by unfold maxLen; omega)).mono ?_
      rintro e w2 ⟨rfl, hb2⟩
      have HB2 := hid (below_step HB.out hb2)
      clear hb2 hc0 hc1
      cases hmk : sufB s with
      | true =>
        have HF : Hid ((sig.any fun s => sufB s.1) = true) := by
          show _ = _
          rw [List.any_eq_true]
          exact ⟨_, List.mem_of_getElem? HM.out, hmk⟩
        clear hmk
        go_wp2
        go_ret
        exact ⟨_, rfl, by rw [HF.out]; simp, HB2.out⟩
      | false =>
        have HF : Hid ((sig.take (k + 1)).any (fun s => sufB s.1) = false) := by
          show _ = _
          rw [take_get HM.out, List.any_append, HNo.out]
          simp [hmk]
        clear hmk
        go_wp2
        go_roundw
        case rel => exact ⟨k + 1, by omega, by go_num, HF.out, HB2.out⟩
        case measure => simp only [intOf]; omega
    · have HF : Hid ((sig.any fun s => sufB s.1) = false) := by
        have h9 := HNo.out
        rw [List.take_of_length_le (by omega)] at h9
        exact h9
      go_wp2
      go_ret
      exact ⟨-1, rfl, by rw [HF.out]; rfl, HB.out⟩

set_option maxRecDepth 100000 in
theorem containsMarked_any (sv : Value) (sig : List Sy) (w : World) (hs : Sg w sv sig) :
    Calls Tryz.prog 97 #[sv, .func (.func 98) #[] #[]] w fun e w' => e = .returned (.bool (sig.any fun s => sufB s.1)) ∧ Below w.heap.size w w' := by
  have HC := hid (indexMarked_any sv sig w hs)
  clear hs
  generalize (sig.any fun s => sufB s.1) = B at HC ⊢
  go_enter Tryz.func97, Tryz.ntmps97
  go_wp2_with fail
  refine HC.out.mono ?_
  rintro e w2 ⟨n, rfl, hn, hb2⟩
  have HN := hid hn
  clear hn
  go_wp2
  go_ret
  exact ⟨ret1b HN.out, hb2⟩

/-- What is wrong with a system ahead of its rules. -/
def aheadE (sig : List Sy) (n : Nat) : Int := if sigE sig = 0 then (if 64 < sig.length then 37 else if (sig.any fun s => sufB s.1) then 34 else if 64 < n then 70 else 0) else sigE sig

set_option maxRecDepth 100000 in
set_option maxHeartbeats 800000 in
theorem checkAhead_any (sv : Value) (ro : Option Addr) (n rc : Nat) (sig : List Sy) (w : World) (hs : Sg w sv sig) (hT : Tabs w) (hn : n ≤ 9223372036854775807) :
    Calls Tryz.prog 80 #[.agg #[sv, .slice ro n rc]] w fun e w' => e = .returned (.int .i64 (aheadE sig n)) ∧ Below w.heap.size w w' := by
  obtain ⟨so, sc, rfl, hso, hsc, _⟩ := Row.flat hs
  unfold maxLen at hsc
  have HS := hid hs
  have HT := hid hT
  clear hs hT
  go_enter Tryz.func80, Tryz.ntmps80
  go_wp2_with fail
  refine (checkSig_any _ sig _ (HS.out.kp (Kp.of_below (below_alloc _))) (HT.out.below (below_alloc _))).mono ?_
  rintro e w1 ⟨rfl, hb1⟩
  obtain ⟨hd0, hd1, hbl1⟩ := box2 hb1
  have HB1 := hid hbl1
  clear hb1 hbl1
  by_cases he : sigE sig = 0
  · rw [he]
    by_cases h64 : 64 < sig.length
    · have HF : Hid (aheadE sig n = 37) := by show _ = _; unfold aheadE; rw [if_pos he, if_pos h64]
      clear he
      have hd : decide ((64 : Int) < (sig.length : Int)) = true := by simpa using (show (64 : Int) < (sig.length : Int) by omega)
      go_wp2
      go_ret
      exact ⟨ret1i HF.out.symm, HB1.out⟩
    · have hd : decide ((64 : Int) < (sig.length : Int)) = false := by simpa using (show ¬ (64 : Int) < (sig.length : Int) by omega)
      have HE := hid he
      have H64 := hid h64
      clear he
      go_wp2_with fail
      refine (containsMarked_any _ sig w1 (HS.out.kp (Kp.of_below HB1.out))).mono ?_
      rintro e w2 ⟨rfl, hb2⟩
      have HB2 := hid (below_step HB1.out hb2)
      have hd1' := (Kp.of_below hb2).cell _ _ hd1
      clear hb2 hd0 hd1
      cases hm : (sig.any fun s => sufB s.1) with
      | true =>
        have HF : Hid (aheadE sig n = 34) := by show _ = _; unfold aheadE; rw [if_pos HE.out, if_neg H64.out, if_pos hm]
        go_wp2
        go_ret
        exact ⟨ret1i HF.out.symm, HB2.out⟩
      | false =>
        by_cases hn64 : 64 < n
        · have HF : Hid (aheadE sig n = 70) := by show _ = _; unfold aheadE; rw [if_pos HE.out, if_neg H64.out, hm, if_neg (by simp), if_pos hn64]
          have hdn : decide ((64 : Int) < (n : Int)) = true := by simpa using (show (64 : Int) < (n : Int) by omega)
          go_wp2
          go_ret
          exact ⟨ret1i HF.out.symm, HB2.out⟩
        · have HF : Hid (aheadE sig n = 0) := by show _ = _; unfold aheadE; rw [if_pos HE.out, if_neg H64.out, hm, if_neg (by simp), if_neg hn64]
          have hdn : decide ((64 : Int) < (n : Int)) = false := by simpa using (show ¬ (64 : Int) < (n : Int) by omega)
          go_wp2
          go_ret
          exact ⟨ret1i HF.out.symm, HB2.out⟩
  · have HF : Hid (aheadE sig n = sigE sig) := by show _ = _; unfold aheadE; rw [if_neg he]
    generalize sigE sig = E at he HF ⊢
    have hne : (E != 0) = true := by simpa using he
    go_wp2
    go_ret
    exact ⟨ret1i HF.out.symm, HB1.out⟩

end Go.Proofs.YtgpbnbmjgcchfaaGreatDoor

/- Canon, plainly: it is blind to a renaming, and numbers what it numbered the same again. -/
namespace Go.Proofs.YtgpbnbmjgcchfaaGreatDoor
open Go.RowKit Go.Maps

/-- A code whose variable has another number. -/
def reC (f : Int → Int) (c : Int) : Int := if c < 0 then -1 - f (-1 - c) else c
def reK (f : Int → Int) (m : Met) : Met := m.map fun p => (f p.1, p.2)

theorem reK_lookup {f : Int → Int} {S : Int → Prop} (hf : ∀ a b, S a → S b → f a = f b → a = b) (n : Int) (hn : S n) : ∀ m : Met, (∀ p ∈ m, S p.1) → (reK f m).lookup (f n) = m.lookup n
  | [], _ => rfl
  | (k, i) :: m, h => by
    show List.lookup (f n) ((f k, i) :: reK f m) = _
    rw [List.lookup_cons, List.lookup_cons]
    have hk := h _ (.head _)
    by_cases e : n = k
    · subst e
      simp
    · rw [show (n == k) = false by simpa using e, show (f n == f k) = false by simp; exact fun e2 => e (hf n k hn hk e2)]
      exact reK_lookup hf n hn m (fun p hp => h p (.tail _ hp))

theorem numN_re {f : Int → Int} {S : Int → Prop} (hf : ∀ a b, S a → S b → f a = f b → a = b) (m : Met) (n : Int) (hm : ∀ p ∈ m, S p.1) (hn : S n) :
    numN (reK f m) (f n) = ((numN m n).1, reK f (numN m n).2) ∧ ∀ p ∈ (numN m n).2, S p.1 := by
  unfold numN
  rw [reK_lookup hf n hn m hm]
  cases m.lookup n with
  | some i => exact ⟨rfl, hm⟩
  | none =>
    refine ⟨by simp [reK], fun p hp => ?_⟩
    cases hp with
    | head => exact hn
    | tail _ hp => exact hm p hp

theorem renG_re {f : Int → Int} {S : Int → Prop} (hf : ∀ a b, S a → S b → f a = f b → a = b) (h0 : ∀ a, S a → 0 ≤ f a) : ∀ (t : List Int) (m : Met), (∀ p ∈ m, S p.1) → (∀ c ∈ t, c < 0 → S (-1 - c)) →
    renG numN (reK f m) (t.map (reC f)) = ((renG numN m t).1, reK f (renG numN m t).2) ∧ ∀ p ∈ (renG numN m t).2, S p.1
  | [], m, hm, _ => ⟨rfl, hm⟩
  | c :: t, m, hm, ht => by
    by_cases hc : c < 0
    · have hs := ht c (.head _) hc
      obtain ⟨e1, e2⟩ := numN_re hf m (-1 - c) hm hs
      obtain ⟨e3, e4⟩ := renG_re hf h0 t (numN m (-1 - c)).2 e2 (fun x hx => ht x (.tail _ hx))
      have hr : reC f c = -1 - f (-1 - c) := by unfold reC; rw [if_pos hc]
      have hneg : -1 - f (-1 - c) < 0 := by have := h0 _ hs; omega
      rw [List.map_cons, hr]
      simp only [renG, if_pos hneg, if_pos hc, show -1 - (-1 - f (-1 - c)) = f (-1 - c) by omega, e1, e3]
      exact ⟨trivial, e4⟩
    · obtain ⟨e3, e4⟩ := renG_re hf h0 t m hm (fun x hx => ht x (.tail _ hx))
      have hr : reC f c = c := by unfold reC; rw [if_neg hc]
      rw [List.map_cons, hr]
      simp only [renG, if_neg hc, e3]
      exact ⟨trivial, e4⟩

theorem canG_re {f : Int → Int} {S : Int → Prop} (hf : ∀ a b, S a → S b → f a = f b → a = b) (h0 : ∀ a, S a → 0 ≤ f a) : ∀ (l : List (List Int)) (m : Met), (∀ p ∈ m, S p.1) → (∀ t ∈ l, ∀ c ∈ t, c < 0 → S (-1 - c)) →
    canG (reK f m) (l.map fun t => t.map (reC f)) = canG m l
  | [], _, _, _ => rfl
  | t :: l, m, hm, hl => by
    obtain ⟨e1, e2⟩ := renG_re hf h0 t m hm (hl t (.head _))
    rw [List.map_cons]
    simp only [canG, e1]
    rw [canG_re hf h0 l _ e2 (fun x hx => hl x (.tail _ hx))]

/-- A row shifted is a row renamed. -/
theorem canL_shift (d : Int) (l : List (List Int)) (hl : ∀ t ∈ l, ∀ c ∈ t, c < 0 → 0 ≤ -1 - c + d) : canL (l.map fun t => t.map fun c => if c < 0 then c - d else c) = canL l := by
  have h := canG_re (f := fun n => n + d) (S := fun n => 0 ≤ n + d) (fun a b _ _ e => by omega) (fun a h => h) l [] (fun p hp => (by cases hp)) hl
  have e : (fun t : List Int => t.map (reC fun n => n + d)) = fun t => t.map fun c => if c < 0 then c - d else c := by
    funext t
    congr 1
    funext c
    unfold reC
    by_cases hc : c < 0
    · rw [if_pos hc, if_pos hc]
      show -1 - (-1 - c + d) = c - d
      omega
    · rw [if_neg hc, if_neg hc]
  rw [e] at h
  exact h

/-- What is met behind all rows. -/
def canS : Met → List (List Int) → Met
  | m, [] => m
  | m, t :: l => canS (renG numN m t).2 l

/-- What one holds the other holds. -/
def Ext (m m' : Met) : Prop := ∀ n i, m.lookup n = some i → m'.lookup n = some i

theorem ext_num (m : Met) (n : Int) : Ext m (numN m n).2 := fun k i hk => by
  unfold numN
  cases hn : m.lookup n with
  | some j => exact hk
  | none =>
    have e : k ≠ n := fun e => by rw [e, hn] at hk; cases hk
    show List.lookup k ((n, (m.length : Int)) :: m) = _
    rw [List.lookup_cons, show (k == n) = false by simpa using e]
    exact hk

theorem val_num (m : Met) (n : Int) : (numN m n).2.lookup n = some (numN m n).1 := by
  unfold numN
  cases hn : m.lookup n with
  | some j => exact hn
  | none =>
    show List.lookup n ((n, (m.length : Int)) :: m) = _
    rw [List.lookup_cons, show (n == n) = true by simp]

theorem ext_ren : ∀ (t : List Int) (m : Met), Ext m (renG numN m t).2
  | [], _ => fun _ _ h => h
  | c :: t, m => fun n i h => by
    unfold renG
    split
    · exact ext_ren t _ n i (ext_num m (-1 - c) n i h)
    · exact ext_ren t m n i h

theorem ext_can : ∀ (l : List (List Int)) (m : Met), Ext m (canS m l)
  | [], _ => fun _ _ h => h
  | t :: l, m => fun n i h => ext_can l _ n i (ext_ren t m n i h)

/-- The number that a variable has in the end. -/
def numF (F : Met) (n : Int) : Int := (F.lookup n).getD 0

theorem ren_map (F : Met) : ∀ (t : List Int) (m : Met), Ext (renG numN m t).2 F → (renG numN m t).1 = t.map (reC (numF F)) ∧ ∀ c ∈ t, c < 0 → (F.lookup (-1 - c)).isSome = true
  | [], _, _ => ⟨rfl, fun c hc => (by cases hc)⟩
  | c :: t, m, h => by
    by_cases hc : c < 0
    · have e : renG numN m (c :: t) = ((-1 - (numN m (-1 - c)).1) :: (renG numN (numN m (-1 - c)).2 t).1, (renG numN (numN m (-1 - c)).2 t).2) := by simp only [renG, if_pos hc]
      rw [e] at h
      obtain ⟨h1, h2⟩ := ren_map F t (numN m (-1 - c)).2 h
      have hv := h _ _ (ext_ren t _ _ _ (val_num m (-1 - c)))
      refine ⟨?_, fun x hx hx0 => ?_⟩
      · rw [e, List.map_cons, ← h1]
        simp only [reC, if_pos hc, numF, hv, Option.getD_some]
      · cases hx with
        | head => rw [hv]; rfl
        | tail _ hx => exact h2 x hx hx0
    · have e : renG numN m (c :: t) = (c :: (renG numN m t).1, (renG numN m t).2) := by simp only [renG, if_neg hc]
      rw [e] at h
      obtain ⟨h1, h2⟩ := ren_map F t m h
      refine ⟨?_, fun x hx hx0 => ?_⟩
      · rw [e, List.map_cons, ← h1]
        simp only [reC, if_neg hc]
      · cases hx with
        | head => exact absurd hx0 hc
        | tail _ hx => exact h2 x hx hx0

theorem can_map (F : Met) : ∀ (l : List (List Int)) (m : Met), Ext (canS m l) F → canG m l = (l.map fun t => t.map (reC (numF F))) ∧ ∀ t ∈ l, ∀ c ∈ t, c < 0 → (F.lookup (-1 - c)).isSome = true
  | [], _, _ => ⟨rfl, fun t ht => (by cases ht)⟩
  | t :: l, m, h => by
    obtain ⟨h1, h2⟩ := can_map F l (renG numN m t).2 h
    obtain ⟨h3, h4⟩ := ren_map F t m (fun n i hn => h n i (ext_can l _ n i hn))
    refine ⟨by rw [List.map_cons, ← h1, ← h3]; rfl, fun x hx => ?_⟩
    cases hx with
    | head => exact h4
    | tail _ hx => exact h2 x hx

/-- Unlike variables have unlike numbers, none below 0, none from the count on. -/
def Apt (m : Met) : Prop := (∀ a b i, m.lookup a = some i → m.lookup b = some i → a = b) ∧ ∀ p ∈ m, 0 ≤ p.2 ∧ p.2 < (m.length : Int)

theorem apt_num {m : Met} (h : Apt m) (n : Int) : Apt (numN m n).2 := by
  refine ⟨?_, (numN_in h.2).2⟩
  unfold numN
  cases hn : m.lookup n with
  | some j => exact h.1
  | none =>
    intro a b i ha hb
    rw [List.lookup_cons] at ha hb
    by_cases ea : a = n
    · by_cases eb : b = n
      · rw [ea, eb]
      · subst ea
        rw [show (b == a) = false by simpa using eb] at hb
        simp at ha
        have := h.2 _ (lookup_mem hb)
        simp only at this
        omega
    · rw [show (a == n) = false by simpa using ea] at ha
      by_cases eb : b = n
      · subst eb
        simp at hb
        have := h.2 _ (lookup_mem ha)
        simp only at this
        omega
      · rw [show (b == n) = false by simpa using eb] at hb
        exact h.1 a b i ha hb

theorem apt_ren : ∀ (t : List Int) (m : Met), Apt m → Apt (renG numN m t).2
  | [], _, h => h
  | c :: t, m, h => by
    unfold renG
    split
    · exact apt_ren t _ (apt_num h _)
    · exact apt_ren t m h

theorem apt_can : ∀ (l : List (List Int)) (m : Met), Apt m → Apt (canS m l)
  | [], _, h => h
  | t :: l, m, h => apt_can l _ (apt_ren t m h)

/-- Canon of what Canon numbered is the same. -/
theorem canL_again (l : List (List Int)) : canL (canL l) = canL l := by
  have hA : Apt (canS [] l) := apt_can l [] ⟨fun a b i h => (by cases h), fun p hp => (by cases hp)⟩
  obtain ⟨h1, h2⟩ := can_map (canS [] l) l [] (fun _ _ h => h)
  have h3 := canG_re (f := numF (canS [] l)) (S := fun n => ((canS [] l).lookup n).isSome = true) (fun a b ha hb e => by
    obtain ⟨i, hi⟩ := Option.isSome_iff_exists.1 ha
    obtain ⟨j, hj⟩ := Option.isSome_iff_exists.1 hb
    simp only [numF, hi, hj, Option.getD_some] at e
    subst e
    exact hA.1 a b i hi hj) (fun a ha => by
    obtain ⟨i, hi⟩ := Option.isSome_iff_exists.1 ha
    simp only [numF, hi, Option.getD_some]
    exact (hA.2 _ (lookup_mem hi)).1) l [] (fun p hp => (by cases hp)) h2
  unfold canL
  rw [h1]
  rw [h1] at h3
  exact h3

end Go.Proofs.YtgpbnbmjgcchfaaGreatDoor

/- Canon as the document numbers: by a row of the codes met. -/
namespace Go.Proofs.YtgpbnbmjgcchfaaGreatDoor
open Go.RowKit Go.Maps

/-- The number of a variable by a row of codes met, and the row then. -/
def docN (met : List Int) (n : Int) : Int × List Int := if -1 - n ∈ met then ((met.idxOf (-1 - n) : Nat), met) else ((met.length : Nat), met ++ [-1 - n])

def canD : List Int → List (List Int) → List (List Int)
  | _, [] => []
  | met, t :: l => (renG docN met t).1 :: canD (renG docN met t).2 l

/-- The map and the row hold the same. -/
def Rel (m : Met) (met : List Int) : Prop := m.length = met.length ∧ ∀ n : Int, m.lookup n = if -1 - n ∈ met then some ((met.idxOf (-1 - n) : Nat) : Int) else none

theorem rel_num {m : Met} {met : List Int} (h : Rel m met) (n : Int) : (numN m n).1 = (docN met n).1 ∧ Rel (numN m n).2 (docN met n).2 := by
  unfold numN docN
  rw [h.2 n]
  by_cases hn : -1 - n ∈ met
  · rw [if_pos hn, if_pos hn]
    exact ⟨rfl, h⟩
  · rw [if_neg hn, if_neg hn]
    refine ⟨by show ((m.length : Nat) : Int) = _; rw [h.1], ?_, fun k => ?_⟩
    · show ((n, (m.length : Int)) :: m).length = (met ++ [-1 - n]).length
      rw [List.length_cons, List.length_append, h.1]
      rfl
    · show List.lookup k ((n, (m.length : Int)) :: m) = if -1 - k ∈ met ++ [-1 - n] then some (((met ++ [-1 - n]).idxOf (-1 - k) : Nat) : Int) else none
      rw [List.lookup_cons]
      by_cases e : k = n
      · subst e
        rw [show (k == k) = true by simp, if_pos (by simp), List.idxOf_append, if_neg hn, h.1]
        simp
      · rw [show (k == n) = false by simpa using e]
        show List.lookup k m = _
        rw [h.2 k]
        by_cases hk : -1 - k ∈ met
        · rw [if_pos hk, if_pos (List.mem_append_left _ hk), List.idxOf_append, if_pos hk]
        · rw [if_neg hk, if_neg (by
            intro hh
            rcases List.mem_append.1 hh with hh | hh
            · exact hk hh
            · simp at hh
              omega)]

theorem rel_ren : ∀ (t : List Int) {m : Met} {met : List Int}, Rel m met → (renG numN m t).1 = (renG docN met t).1 ∧ Rel (renG numN m t).2 (renG docN met t).2
  | [], _, _, h => ⟨rfl, h⟩
  | c :: t, m, met, h => by
    by_cases hc : c < 0
    · obtain ⟨h1, h2⟩ := rel_num h (-1 - c)
      obtain ⟨h3, h4⟩ := rel_ren t h2
      simp only [renG, if_pos hc]
      exact ⟨by rw [h1, h3], h4⟩
    · obtain ⟨h3, h4⟩ := rel_ren t h
      simp only [renG, if_neg hc]
      exact ⟨by rw [h3], h4⟩

theorem rel_can : ∀ (l : List (List Int)) {m : Met} {met : List Int}, Rel m met → canG m l = canD met l
  | [], _, _, _ => rfl
  | t :: l, m, met, h => by
    obtain ⟨h1, h2⟩ := rel_ren t h
    unfold canG canD
    rw [h1, rel_can l h2]

/-- Both number alike. -/
theorem canL_doc (l : List (List Int)) : canL l = canD [] l := rel_can l ⟨rfl, fun n => (by simp)⟩

end Go.Proofs.YtgpbnbmjgcchfaaGreatDoor

/- When two rules number their variables alike, plainly. -/
namespace Go.Proofs.YtgpbnbmjgcchfaaGreatDoor
open Go.RowKit Go.Maps

theorem metA_app : ∀ (a b m : List Int), metA m (a ++ b) = metA (metA m a) b
  | [], b, m => rfl
  | c :: a, b, m => by
    by_cases h : 0 ≤ c ∨ c ∈ m
    · have e1 : metA m (c :: a) = metA m a := by conv => lhs; unfold metA; rw [if_pos h]
      have e2 : metA m (c :: (a ++ b)) = metA m (a ++ b) := by conv => lhs; unfold metA; rw [if_pos h]
      rw [List.cons_append, e1, e2, metA_app a b m]
    · have e1 : metA m (c :: a) = metA (m ++ [c]) a := by conv => lhs; unfold metA; rw [if_neg h]
      have e2 : metA m (c :: (a ++ b)) = metA (m ++ [c]) (a ++ b) := by conv => lhs; unfold metA; rw [if_neg h]
      rw [List.cons_append, e1, e2, metA_app a b (m ++ [c])]

theorem metA_ext : ∀ (a m : List Int), ∃ r, metA m a = m ++ r
  | [], m => ⟨[], by simp [metA]⟩
  | c :: a, m => by
    unfold metA
    split
    · exact metA_ext a m
    · obtain ⟨r, hr⟩ := metA_ext a (m ++ [c])
      exact ⟨c :: r, by rw [hr]; simp⟩

theorem metA_neg : ∀ (a m : List Int), (∀ c ∈ m, c < 0) → ∀ c ∈ metA m a, c < 0
  | [], m, h, c, hc => h c hc
  | d :: a, m, h, c, hc => by
    unfold metA at hc
    split at hc
    · exact metA_neg a m h c hc
    · rename_i hn
      refine metA_neg a (m ++ [d]) (fun e he => ?_) c hc
      rcases List.mem_append.1 he with he | he
      · exact h e he
      · simp at he
        subst he
        omega

theorem metA_mem : ∀ (a m : List Int) (c : Int), c ∈ metA m a ↔ c ∈ m ∨ (c ∈ a ∧ c < 0)
  | [], m, c => by simp [metA]
  | d :: a, m, c => by
    unfold metA
    split
    · rename_i hd
      rw [metA_mem a m c]
      constructor
      · rintro (h | ⟨h, h0⟩)
        · exact .inl h
        · exact .inr ⟨by simp [h], h0⟩
      · rintro (h | ⟨h, h0⟩)
        · exact .inl h
        · rcases List.mem_cons.1 h with rfl | h
          · rcases hd with hd | hd
            · omega
            · exact .inl hd
          · exact .inr ⟨h, h0⟩
    · rename_i hd
      rw [metA_mem a (m ++ [d]) c]
      constructor
      · rintro (h | ⟨h, h0⟩)
        · rcases List.mem_append.1 h with h | h
          · exact .inl h
          · simp at h
            subst h
            exact .inr ⟨by simp, by omega⟩
        · exact .inr ⟨by simp [h], h0⟩
      · rintro (h | ⟨h, h0⟩)
        · exact .inl (by simp [h])
        · rcases List.mem_cons.1 h with rfl | h
          · exact .inl (by simp)
          · exact .inr ⟨h, h0⟩

theorem met_once : ∀ (t m : List Int), m.Nodup → (metA m t).Nodup
  | [], m, h => h
  | c :: t, m, h => by
    unfold metA
    split
    · exact met_once t m h
    · rename_i hn
      refine met_once t (m ++ [c]) ?_
      rw [List.nodup_append]
      refine ⟨h, by simp, ?_⟩
      intro a ha b hb e
      simp at hb
      subst hb
      subst e
      exact hn (.inr ha)

/-- A code by its number among those met. -/
def numC (F : List Int) (c : Int) : Int := if c < 0 then -1 - ((F.idxOf c : Nat) : Int) else c

theorem doc_ren : ∀ (t met F : List Int), (∃ r, F = metA met t ++ r) → (renG docN met t).1 = t.map (numC F) ∧ (renG docN met t).2 = metA met t
  | [], met, F, _ => ⟨rfl, rfl⟩
  | c :: t, met, F, h => by
    by_cases hc : c < 0
    · have e0 : -1 - (-1 - c) = c := by omega
      by_cases hm : c ∈ met
      · have e1 : metA met (c :: t) = metA met t := by conv => lhs; unfold metA; rw [if_pos (.inr hm)]
        rw [e1] at h
        obtain ⟨h1, h2⟩ := doc_ren t met F h
        have e2 : docN met (-1 - c) = (((met.idxOf c : Nat) : Int), met) := by unfold docN; rw [e0, if_pos hm]
        simp only [renG, if_pos hc, e2, h1, h2, e1, List.map_cons, and_true, List.cons.injEq]
        obtain ⟨r, hr⟩ := h
        obtain ⟨r2, hr2⟩ := metA_ext t met
        have e3 : numC F c = -1 - ((met.idxOf c : Nat) : Int) := by
          unfold numC
          rw [if_pos hc, hr, hr2, List.append_assoc, List.idxOf_append, if_pos hm]
        rw [e3]
      · have e1 : metA met (c :: t) = metA (met ++ [c]) t := by conv => lhs; unfold metA; rw [if_neg (fun h9 => h9.elim (fun h8 => absurd h8 (by omega)) hm)]
        rw [e1] at h
        obtain ⟨h1, h2⟩ := doc_ren t (met ++ [c]) F h
        have e2 : docN met (-1 - c) = (((met.length : Nat) : Int), met ++ [c]) := by unfold docN; rw [e0, if_neg hm]
        simp only [renG, if_pos hc, e2, h1, h2, e1, List.map_cons, and_true, List.cons.injEq]
        obtain ⟨r, hr⟩ := h
        obtain ⟨r2, hr2⟩ := metA_ext t (met ++ [c])
        have e3 : numC F c = -1 - ((met.length : Nat) : Int) := by
          unfold numC
          rw [if_pos hc, hr, hr2, List.append_assoc, List.idxOf_append, if_pos (by simp), List.idxOf_append, if_neg hm]
          simp
        rw [e3]
    · have e1 : metA met (c :: t) = metA met t := by conv => lhs; unfold metA; rw [if_pos (.inl (by omega))]
      rw [e1] at h
      obtain ⟨h1, h2⟩ := doc_ren t met F h
      have e3 : numC F c = c := by unfold numC; rw [if_neg hc]
      simp only [renG, if_neg hc, h1, h2, e1, e3, List.map_cons, and_true]

theorem can_two (p q : List Int) : canL [p, q] = [p.map (numC (metA [] (p ++ q))), q.map (numC (metA [] (p ++ q)))] := by
  rw [canL_doc]
  simp only [canD]
  obtain ⟨r, hr⟩ := metA_ext q (metA [] p)
  obtain ⟨h1, h2⟩ := doc_ren p [] (metA [] (p ++ q)) ⟨r, by rw [metA_app]; exact hr⟩
  rw [h2]
  obtain ⟨h3, _⟩ := doc_ren q (metA [] p) (metA [] (p ++ q)) ⟨[], by rw [metA_app, List.append_nil]⟩
  rw [h1, h3]

/-- What the document asks of two rows of one length. -/
structure Alike (x y V W : List Int) : Prop where
  codes : ∀ (i : Nat) (a b : Int), x[i]? = some a → y[i]? = some b → (0 ≤ a ∨ 0 ≤ b) → a = b
  many : V.length = W.length
  met : ∀ (i k : Nat) (a b v w : Int), x[i]? = some a → y[i]? = some b → V[k]? = some v → W[k]? = some w → (a = v ↔ b = w)

theorem idx_of {V : List Int} (h : V.Nodup) {k : Nat} {v : Int} (hk : V[k]? = some v) : V.idxOf v = k := by
  obtain ⟨h1, rfl⟩ := List.getElem?_eq_some_iff.1 hk
  exact h.idxOf_getElem k h1

theorem idx_get {V : List Int} {v : Int} (h : v ∈ V) : V[V.idxOf v]? = some v := by
  rw [List.getElem?_eq_getElem (List.idxOf_lt_length_of_mem h), List.getElem_idxOf]

theorem num_neg {F : List Int} {c : Int} : numC F c < 0 ↔ c < 0 := by
  unfold numC
  split <;> omega

theorem alike_le {x y : List Int} (h : x.map (numC (metA [] x)) = y.map (numC (metA [] y))) : (metA [] x).length ≤ (metA [] y).length := by
  by_cases h0 : (metA [] x).length = 0
  · omega
  · obtain ⟨k, hk⟩ : ∃ k, (metA [] x).length = k + 1 := ⟨(metA [] x).length - 1, by omega⟩
    obtain ⟨v, hv⟩ : ∃ v, (metA [] x)[k]? = some v := ⟨_, List.getElem?_eq_getElem (by omega)⟩
    have hm := List.mem_of_getElem? hv
    have hx := (metA_mem x [] v).1 hm
    simp at hx
    obtain ⟨i, hi⟩ := List.getElem?_of_mem hx.1
    have e1 : (y.map (numC (metA [] y)))[i]? = some (numC (metA [] x) v) := by rw [← h, List.getElem?_map, hi]; rfl
    rw [List.getElem?_map] at e1
    cases hy : y[i]? with
    | none => rw [hy] at e1; simp at e1
    | some b =>
      rw [hy] at e1
      simp at e1
      have hb : b < 0 := by
        have h1 : numC (metA [] y) b < 0 := by rw [e1]; exact num_neg.2 hx.2
        exact num_neg.1 h1
      unfold numC at e1
      rw [if_pos hb, if_pos hx.2, idx_of (met_once x [] (by simp)) hv] at e1
      have h2 := List.idxOf_lt_length_of_mem ((metA_mem y [] b).2 (.inr ⟨List.mem_of_getElem? hy, hb⟩))
      omega

theorem alike_iff {x y : List Int} (hl : x.length = y.length) : x.map (numC (metA [] x)) = y.map (numC (metA [] y)) ↔ Alike x y (metA [] x) (metA [] y) := by
  have nx := met_once x [] (by simp)
  have ny := met_once y [] (by simp)
  constructor
  · intro h
    have pt : ∀ (i : Nat) (a b : Int), x[i]? = some a → y[i]? = some b → numC (metA [] x) a = numC (metA [] y) b := fun i a b ha hb => by
      have h1 := congrArg (fun l => l[i]?) h
      simp only [List.getElem?_map, ha, hb, Option.map_some, Option.some.injEq] at h1
      exact h1
    refine ⟨fun i a b ha hb h0 => ?_, ?_, fun i k a b v w ha hb hv hw => ?_⟩
    · have h1 := pt i a b ha hb
      have h2 : ¬ a < 0 ∧ ¬ b < 0 := by
        have h3 : a < 0 ↔ b < 0 := ⟨fun h9 => num_neg.1 (h1 ▸ num_neg.2 h9), fun h9 => num_neg.1 (h1.symm ▸ num_neg.2 h9)⟩
        omega
      unfold numC at h1
      rwa [if_neg h2.1, if_neg h2.2] at h1
    · have h1 := alike_le h
      have h2 := alike_le h.symm
      omega
    · have h1 := pt i a b ha hb
      have h3 : a < 0 ↔ b < 0 := ⟨fun h9 => num_neg.1 (h1 ▸ num_neg.2 h9), fun h9 => num_neg.1 (h1.symm ▸ num_neg.2 h9)⟩
      have hv0 := metA_neg x [] (by simp) v (List.mem_of_getElem? hv)
      have hw0 := metA_neg y [] (by simp) w (List.mem_of_getElem? hw)
      by_cases h0 : a < 0
      · have hb0 := h3.1 h0
        unfold numC at h1
        rw [if_pos h0, if_pos hb0] at h1
        have i1 := idx_get ((metA_mem x [] a).2 (.inr ⟨List.mem_of_getElem? ha, h0⟩))
        have i2 := idx_get ((metA_mem y [] b).2 (.inr ⟨List.mem_of_getElem? hb, hb0⟩))
        constructor
        · rintro rfl
          have e1 := idx_of nx hv
          have e2 : (metA [] y).idxOf b = k := by omega
          rw [e2, hw] at i2
          exact (Option.some.inj i2).symm
        · rintro rfl
          have e1 := idx_of ny hw
          have e2 : (metA [] x).idxOf a = k := by omega
          rw [e2, hv] at i1
          exact (Option.some.inj i1).symm
      · constructor
        · rintro rfl; exact absurd hv0 h0
        · rintro rfl; exact absurd (h3.2 hw0) h0
  · intro h
    refine List.ext_getElem? fun i => ?_
    rw [List.getElem?_map, List.getElem?_map]
    by_cases hi : i < x.length
    · have ha : x[i]? = some x[i] := List.getElem?_eq_getElem hi
      have hb : y[i]? = some (y[i]'(by omega)) := List.getElem?_eq_getElem (by omega)
      generalize x[i] = a at ha
      generalize (y[i]'(by omega)) = b at hb
      rw [ha, hb]
      simp only [Option.map_some, Option.some.injEq]
      by_cases h0 : 0 ≤ a ∨ 0 ≤ b
      · have := h.codes i a b ha hb h0
        subst this
        unfold numC
        rw [if_neg (by omega), if_neg (by omega)]
      · have i1 := idx_get ((metA_mem x [] a).2 (.inr ⟨List.mem_of_getElem? ha, by omega⟩))
        have hk := (List.getElem?_eq_some_iff.1 i1).1
        have hw : (metA [] y)[(metA [] x).idxOf a]? = some ((metA [] y)[(metA [] x).idxOf a]'(by rw [← h.many]; exact hk)) := List.getElem?_eq_getElem _
        have h2 := (h.met i _ a b a _ ha hb i1 hw).1 rfl
        rw [← h2] at hw
        have h3 := idx_of ny hw
        unfold numC
        rw [if_pos (by omega), if_pos (by omega), h3]
    · rw [List.getElem?_eq_none (by omega), List.getElem?_eq_none (by omega)]
      rfl

theorem can_iff {p q r s : List Int} : canL [p, q] = canL [r, s] ↔ p.length = r.length ∧ q.length = s.length ∧ Alike (p ++ q) (r ++ s) (metA [] (p ++ q)) (metA [] (r ++ s)) := by
  rw [can_two, can_two]
  constructor
  · intro h
    simp only [List.cons.injEq, and_true] at h
    have h1 := congrArg List.length h.1
    have h2 := congrArg List.length h.2
    simp only [List.length_map] at h1 h2
    refine ⟨h1, h2, (alike_iff (by simp [h1, h2])).1 ?_⟩
    rw [List.map_append, List.map_append, h.1, h.2]
  · rintro ⟨h1, h2, h3⟩
    have h4 := (alike_iff (by simp [h1, h2])).2 h3
    rw [List.map_append, List.map_append] at h4
    obtain ⟨h5, h6⟩ := List.append_inj h4 (by simp [h1])
    rw [h5, h6]

end Go.Proofs.YtgpbnbmjgcchfaaGreatDoor

/- hasFree of package system walked. -/
namespace Go.Proofs.YtgpbnbmjgcchfaaGreatDoor
open Go.RowKit Go.Maps Go.BigFrame

set_option maxRecDepth 100000 in
set_option maxHeartbeats 800000 in
theorem freeClosure_any (x : Int) (c b : Nat) (L : List (Int × Value)) (w : World) (hc : w.cell? ⟨c, 0, none⟩ = some (.map (some b))) (hm : MapV w b L) (hu : ∀ n v, L.lookup n = some v → v = .agg #[]) (h1 : -9223372036854775808 ≤ x) (h2 : x ≤ 9223372036854775807) :
    Calls Tryz.prog 111 #[.int .i64 x, .pointer (some ⟨c, 0, none⟩)] w fun e w' => e = .returned (.bool (!(L.lookup x).isSome)) ∧ Below w.heap.size w w' := by
  have hlk := hm.look under_set (zero_unit w) h1 h2
  have hg : (L.lookup x).getD (.agg #[]) = .agg #[] := by
    cases hx : L.lookup x with
    | none => rfl
    | some v => exact hu x v hx
  rw [hg] at hlk
  have HLk := hid hlk
  clear hm hlk hg hu
  cases hl : (L.lookup x).isSome with
  | true =>
    rw [hl] at HLk
    go_enter Tryz.func111, Tryz.ntmps111
    go_wp2_with (first
      | (at_lookup; refine wpList_lookup_run rfl _ _ _ _ rfl _ _ _ rfl rfl HLk.out ?_))
    all_goals (go_ret; exact ⟨rfl, below_alloc _⟩)
  | false =>
    rw [hl] at HLk
    go_enter Tryz.func111, Tryz.ntmps111
    go_wp2_with (first
      | (at_lookup; refine wpList_lookup_run rfl _ _ _ _ rfl _ _ _ rfl rfl HLk.out ?_))
    all_goals (go_ret; exact ⟨rfl, below_alloc _⟩)

set_option maxRecDepth 100000 in
set_option maxHeartbeats 800000 in
theorem indexFree_any (vv : Value) (xs : List Int) (c b : Nat) (L : List (Int × Value)) (w : World) (hv : Is w vv xs) (hc : w.cell? ⟨c, 0, none⟩ = some (.map (some b))) (hm : MapV w b L) (hu : ∀ n v, L.lookup n = some v → v = .agg #[]) :
    Calls Tryz.prog 129 #[vv, .func (.func 111) #[] #[.pointer (some ⟨c, 0, none⟩)]] w fun e w' => ∃ n : Int, e = .returned (.int .i64 n) ∧ decide (0 ≤ n) = (xs.any fun x => !(L.lookup x).isSome) ∧ Below w.heap.size w w' := by
  obtain ⟨ao, cap, rfl, hao, hca, _⟩ := Row.flat hv
  unfold maxLen at hca
  have HV := hid hv
  have HC := hid hc
  have HM := hid hm
  have HU := hid hu
  clear hv hc hm hu
  go_enter Tryz.func129, Tryz.ntmps129
  go_wp2
  go_loopw [8] (fun i wr => ∃ k : Nat, k ≤ xs.length ∧ i = .int .i64 k ∧ (xs.take k).any (fun x => !(L.lookup x).isSome) = false ∧ Below w.heap.size w wr) (fun i _ => xs.length - (intOf i).toNat)
  case atStart => exact ⟨0, Nat.zero_le _, rfl, by simp, Below.refl _ _⟩
  case round =>
    obtain ⟨k, hk, rfl, hno, hbl⟩ := hrel
    have HNo := hid hno
    have HB := hid hbl
    clear hno
    by_cases hlt : k < xs.length
    · obtain ⟨g, off, x, rfl, hx1, hx2, hx3, hx4⟩ := (HV.out.kp (Kp.of_below hbl)).at hlt
      have HX := hid hx1
      clear hx1 hbl
      go_wp2_with fail
      refine (freeClosure_any x c b L wr ((Kp.of_below HB.out).cell _ _ HC.out) (HM.out.later HB.out) HU.out hx3 hx4).mono ?_
      rintro e w2 ⟨rfl, hb2⟩
      have HB2 := hid (below_step HB.out hb2)
      clear hb2 hx2
      cases hl : (L.lookup x).isSome with
      | false =>
        have HF : Hid ((xs.any fun x => !(L.lookup x).isSome) = true) := by
          show _ = _
          rw [List.any_eq_true]
          exact ⟨x, List.mem_of_getElem? HX.out, by rw [hl]; rfl⟩
        clear hl
        go_wp2
        go_ret
        exact ⟨_, rfl, by rw [HF.out]; simp, HB2.out⟩
      | true =>
        have HF : Hid ((xs.take (k + 1)).any (fun x => !(L.lookup x).isSome) = false) := by
          show _ = _
          rw [take_get HX.out, List.any_append, HNo.out]
          simp [hl]
        clear hl
        go_wp2
        go_roundw
        case rel => exact ⟨k + 1, by omega, by go_num, HF.out, HB2.out⟩
        case measure => simp only [intOf]; omega
    · have HF : Hid ((xs.any fun x => !(L.lookup x).isSome) = false) := by
        have h9 := HNo.out
        rw [List.take_of_length_le (by omega)] at h9
        exact h9
      go_wp2
      go_ret
      exact ⟨-1, rfl, by rw [HF.out]; rfl, HB.out⟩

set_option maxRecDepth 100000 in
theorem containsFree_any (vv : Value) (xs : List Int) (c b : Nat) (L : List (Int × Value)) (w : World) (hv : Is w vv xs) (hc : w.cell? ⟨c, 0, none⟩ = some (.map (some b))) (hm : MapV w b L) (hu : ∀ n v, L.lookup n = some v → v = .agg #[]) :
    Calls Tryz.prog 110 #[vv, .func (.func 111) #[] #[.pointer (some ⟨c, 0, none⟩)]] w fun e w' => e = .returned (.bool (xs.any fun x => !(L.lookup x).isSome)) ∧ Below w.heap.size w w' := by
  have HC := hid (indexFree_any vv xs c b L w hv hc hm hu)
  clear hv hc hm hu
  generalize (xs.any fun x => !(L.lookup x).isSome) = B at HC ⊢
  go_enter Tryz.func110, Tryz.ntmps110
  go_wp2_with fail
  refine HC.out.mono ?_
  rintro e w2 ⟨n, rfl, hn, hb2⟩
  have HN := hid hn
  clear hn
  go_wp2
  go_ret
  exact ⟨ret1b HN.out, hb2⟩

/-- Whether the right side has a variable that the left one has not. -/
def freeB (l r : List Int) : Bool := (varsL r).any fun x => !decide (x ∈ varsL l)

theorem varsL_len (t : List Int) : (varsL t).length ≤ t.length := by
  unfold varsL
  rw [List.length_map]
  have h : ∀ (t m : List Int), (metA m t).length ≤ m.length + t.length := fun t => by
    induction t with
    | nil => intro m; simp [metA]
    | cons c t ih =>
      intro m
      unfold metA
      split
      · have := ih m
        simp only [List.length_cons]
        omega
      · have := ih (m ++ [c])
        simp only [List.length_append, List.length_cons, List.length_nil] at this ⊢
        omega
  simpa using h t []

theorem vars_onceS (t : List Int) : (varsL t).Nodup := by
  unfold varsL
  refine List.Pairwise.map _ ?_ (met_once t [] (by simp))
  intro a b hab e
  omega

set_option maxRecDepth 100000 in
set_option maxHeartbeats 1600000 in
theorem hasFree_any (lv rv : Value) (l r : List Int) (w : World) (hl : Is w lv l) (hr : Is w rv r) (h1 : l.length * 8 ≤ 140737488351232) (h2 : r.length * 8 ≤ 140737488351232) :
    Calls Tryz.prog 99 #[.agg #[lv, rv]] w fun e w' => e = .returned (.bool (freeB l r)) ∧ Below w.heap.size w w' := by
  obtain ⟨a1, c1, e1, _⟩ := hl.flatI
  subst e1
  obtain ⟨a2, c2, e2, _⟩ := hr.flatI
  subst e2
  have HL := hid hl
  have HR := hid hr
  clear hl hr
  have hmm := @run_makeMap Tryz.prog
  obtain ⟨w0, hw0⟩ : ∃ X, X = ((w.alloc (.cells #[.slice a1 l.length c1, .slice a2 r.length c2] 64)).alloc (.map #[] 0)).alloc (.cells #[.map (some (w.heap.size + 1))] 146) := ⟨_, rfl⟩
  have hn1 : (w.alloc (.cells #[.slice a1 l.length c1, .slice a2 r.length c2] 64)).heap.size = w.heap.size + 1 := World.size_alloc _ _
  have hn2 : ((w.alloc (.cells #[.slice a1 l.length c1, .slice a2 r.length c2] 64)).alloc (.map #[] 0)).heap.size = w.heap.size + 1 + 1 := by rw [World.size_alloc, hn1]
  have C0 : Hid (Below w.heap.size w w0) := by rw [hw0]; exact below_step (below_step (below_alloc _) (below_alloc _)) (below_alloc _)
  have HM0 : Hid (MapV w0 (w.heap.size + 1) []) := by
    have h9 := (MapV.made (w.alloc (.cells #[.slice a1 l.length c1, .slice a2 r.length c2] 64))).later (below_alloc (.cells #[.map (some (w.heap.size + 1))] 146))
    rw [hn1, ← hw0] at h9
    exact h9
  have HCm : Hid (w0.cell? ⟨w.heap.size + 1 + 1, 0, none⟩ = some (.map (some (w.heap.size + 1)))) := by
    show _ = _
    rw [hw0, ← hn2]
    exact cell_new rfl
  have HC1 : Hid (w0.cell? ⟨w.heap.size, 1, none⟩ = some (.slice a2 r.length c2)) := by
    show _ = _
    rw [hw0]
    exact (Kp.of_below (below_step (below_alloc (.map #[] 0)) (below_alloc _))).cell _ _ (cell_new rfl)
  clear hn1 hn2
  go_enter Tryz.func99, Tryz.ntmps99
  go_wp2_with fail
  rw [← hw0]
  clear hw0
  refine (vars_any _ l w0 (HL.out.kp (Kp.of_below C0.out)) h1).mono ?_
  rintro e w1 ⟨v1, rfl, ho1, hb1⟩
  obtain ⟨vo, vc, hv1, hvc1, hvc2⟩ := ho1.shape
  subst hv1
  unfold maxLen at hvc2
  have C1 := hid (below_step C0.out hb1)
  have HM1 := hid (HM0.out.later hb1)
  have HCm1 := hid ((Kp.of_below hb1).cell _ _ HCm.out)
  have HC11 := hid ((Kp.of_below hb1).cell _ _ HC1.out)
  have HV1 := hid ho1.is
  have HOn := hid (vars_onceS l)
  have HMe : Hid (freeB l r = ((varsL r).any fun x => !decide (x ∈ varsL l))) := rfl
  have hvl : (varsL l).length ≤ 17592186043904 := by have := varsL_len l; omega
  clear ho1 hb1 HM0 HCm HC1 hmm
  generalize varsL l = V at HV1 HOn HMe hvl hvc1 ⊢
  go_wp2
  go_loopw [11] (fun iv wr => ∃ (k : Nat) (L : List (Int × Value)), k ≤ V.length ∧ L.length = k ∧ iv = .int .i64 k ∧ MapV wr (w.heap.size + 1) L ∧ (∀ n, (L.lookup n).isSome = decide (n ∈ V.take k)) ∧ (∀ n v, L.lookup n = some v → v = .agg #[]) ∧ Kp w1 wr ∧ Below w.heap.size w wr) (fun iv _ => V.length - (intOf iv).toNat)
  case atStart => exact ⟨0, [], Nat.zero_le _, rfl, rfl, HM1.out, fun n => (by simp), fun n v h => (by cases h), Kp.refl _, C1.out⟩
  case round =>
    obtain ⟨k, L, hk, hLk, rfl, hm, hlo, hu, hkp, hbl⟩ := hrel
    have HM := hid hm
    have HLo := hid hlo
    have HU := hid hu
    have HKp := hid hkp
    have HB := hid hbl
    have HLk := hid hLk
    have hcm := hkp.cell _ _ HCm1.out
    clear hm hlo hu hLk
    by_cases hlt : k < V.length
    · obtain ⟨g, off, x, rfl, hx1, hx2, hx3, hx4⟩ := (HV1.out.kp hkp).at hlt
      have hno : L.lookup x = none := by
        cases hq : L.lookup x with
        | none => rfl
        | some v =>
          have h9 := HLo.out x
          rw [hq] at h9
          have h8 : x ∈ V.take k := by simpa using h9.symm
          obtain ⟨j, hj⟩ := List.getElem?_of_mem h8
          have hjl := (List.getElem?_eq_some_iff.1 hj).1
          rw [List.length_take] at hjl
          rw [List.getElem?_take_of_lt (by omega)] at hj
          exfalso
          have h7 := (List.getElem_inj HOn.out (h₀ := (List.getElem?_eq_some_iff.1 hj).1) (h₁ := (List.getElem?_eq_some_iff.1 hx1).1)).1 (by rw [(List.getElem?_eq_some_iff.1 hj).2, (List.getElem?_eq_some_iff.1 hx1).2])
          omega
      obtain ⟨w4, hr4, hm4, hg4⟩ := HM.out.store under_set hx3 hx4 hno (by rw [HLk.out]; unfold maxLen; omega) (.agg #[])
      have HR4 := hid hr4
      have HM4 := hid hm4
      obtain ⟨es, clock, hes⟩ := HM.out.isMap
      have HK4 := hid (hkp.trans (Kp.of_map hg4 hes))
      have HB4 : Hid (Below w.heap.size w w4) := hbl.grown hg4 hbl.size (fun j hj => by cases hj; exact Nat.le_succ _)
      have HLo4 : Hid (∀ n, (List.lookup n ((x, Value.agg #[]) :: L)).isSome = decide (n ∈ V.take (k + 1))) := fun n => by
        rw [List.lookup_cons, take_get hx1]
        by_cases e : n = x
        · subst e
          simp
        · rw [show (n == x) = false by simpa using e]
          simp only [List.mem_append, List.mem_singleton, e, or_false]
          exact HLo.out n
      have HU4 : Hid (∀ n v, List.lookup n ((x, Value.agg #[]) :: L) = some v → v = .agg #[]) := fun n v hv => by
        rw [List.lookup_cons] at hv
        by_cases e : n = x
        · subst e
          simp at hv
          exact hv.symm
        · rw [show (n == x) = false by simpa using e] at hv
          exact HU.out n v hv
      clear hr4 hm4 hg4 hes hx1 hno hbl hkp
      go_wp2_with (first
        | (at_mapUpdate; refine wpList_mapUpdate_run rfl _ _ _ _ rfl _ _ _ rfl rfl rfl HR4.out ?_))
      go_roundw
      case rel => exact ⟨k + 1, _, hlt, by rw [List.length_cons, HLk.out], by go_num, HM4.out, HLo4.out, HU4.out, HK4.out, HB4.out⟩
      case measure => simp only [intOf]; omega
    · have hc1' := hkp.cell _ _ HC11.out
      have HLo2 : Hid (∀ n, (!(L.lookup n).isSome) = !decide (n ∈ V)) := fun n => by
        have h9 := HLo.out n
        rw [List.take_of_length_le (by omega)] at h9
        rw [h9]
      clear hbl hkp
      go_wp2_with fail
      refine (vars_any _ r wr (HR.out.kp (Kp.of_below HB.out)) h2).mono ?_
      rintro e w5 ⟨v5, rfl, ho5, hb5⟩
      have HV5 := hid ho5.is
      have HB5 := hid (below_step HB.out hb5)
      have HM5 := hid (HM.out.later hb5)
      have HC5 := hid ((Kp.of_below hb5).cell _ _ hcm)
      clear ho5 hb5 hcm hc1'
      go_wp2_with fail
      refine (containsFree_any _ (varsL r) _ _ L w5 HV5.out HC5.out HM5.out HU.out).mono ?_
      rintro e w6 ⟨rfl, hb6⟩
      have HB6 := hid (below_step HB5.out hb6)
      have HF : Hid (((varsL r).any fun x => !(L.lookup x).isSome) = freeB l r) := by
        show _ = _
        rw [HMe.out]
        congr 1
        funext x
        exact HLo2.out x
      rw [HF.out]
      clear hb6 HF
      go_wp2
      go_ret
      exact ⟨rfl, HB6.out⟩

end Go.Proofs.YtgpbnbmjgcchfaaGreatDoor
