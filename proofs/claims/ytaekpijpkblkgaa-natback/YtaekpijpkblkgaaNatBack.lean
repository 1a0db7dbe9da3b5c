/- Proved: for every row of limbs and every text the law NatBack answers true (what is written is read again, and what is read is written again), and its arguments read afterwards as before. No condition. -/
import Derived.Test.YtaekpijpkblkgaaFrame
import Derived.Test.YtaekpijpkblkgaaRefParse
namespace Go.Proofs.Ytaekpijpkblkgaa
open Go.ChangeShapes Go.WideShapes Go.ChangeAt Go.RowKit
open Go.ChangeMaps (open_string shut_string)

theorem mk_toList (a : List UInt8) : (ByteArray.mk a.toArray).data.toList = a := by simp
theorem mk_size (a : List UInt8) : (ByteArray.mk a.toArray).size = a.length := by simp [ByteArray.size]

theorem text_back {xs : List Nat} (hl : Lim xs) (hr : rightB xs = true) : parseE (dec (val xs)) = 0 ∧ parseL (dec (val xs)) = xs := by
  have h1 := limbs_val_of_right hl hr
  have h2 := length_le_of_right hr
  unfold parseE parseL resE resL
  rw [numB_dec, numV_dec, h1]
  simp [h2]

theorem text_len {xs : List Nat} (hl : Lim xs) (hr : rightB xs = true) : (textS xs).length ≤ 700 := by
  unfold textS
  rw [hr, if_pos rfl]
  unfold dec
  by_cases h : val xs = 0
  · rw [if_pos h]; simp
  · rw [if_neg h, List.length_map, List.length_reverse]
    have h1 := tens_length_limbs hl
    have h2 := length_le_of_right hr
    omega

theorem parse_ok {L : List UInt8} (h : parseE L = 0) : numB L = true ∧ (limbs (numV L)).length ≤ 64 := by
  unfold parseE resE at h
  cases hn : numB L
  · simp [hn] at h
  · refine ⟨rfl, ?_⟩
    rw [hn, if_pos rfl] at h
    by_cases h64 : (limbs (numV L)).length ≤ 64
    · exact h64
    · simp [h64] at h

theorem back_text {L : List UInt8} (h : parseE L = 0) : textS (parseL L) = L ∧ textE (parseL L) = 0 ∧ rightB (parseL L) = true := by
  obtain ⟨hn, h64⟩ := parse_ok h
  have hp : parseL L = limbs (numV L) := by unfold parseL resL; rw [hn, if_pos rfl, if_pos h64]
  have hr : rightB (limbs (numV L)) = true := by rw [rightB_limbs]; simpa using h64
  rw [hp]
  unfold textS textE
  rw [hr, if_pos rfl, if_pos rfl, val_limbs, dec_numV hn]
  exact ⟨rfl, rfl, rfl⟩

theorem parseL_nil {L : List UInt8} (h : ¬ parseE L = 0) : parseL L = [] := by
  unfold parseL resL
  cases hn : numB L
  · simp
  · by_cases h64 : (limbs (numV L)).length ≤ 64
    · exact absurd (by unfold parseE resE; rw [hn, if_pos rfl, if_pos h64]) h
    · rw [if_pos rfl, if_neg h64]

set_option maxHeartbeats 1600000 in
theorem natBack_any (va : Value) (xs : List Nat) (s : ByteArray) (w : World) (ha : Sl w va xs) (hs : s.size ≤ maxLen) :
    Calls Try.prog 7 #[va, .string s] w fun e w' => e = .returned (.bool true) ∧ Below w.heap.size w w' := by
  have hs2 := hs
  unfold maxLen at hs2
  go_enter Try.func7, Try.ntmps7
  go_wp2_with fail
  refine (shown_any _).mono ?_
  rintro e w0 ⟨rfl, hb_0⟩
  have sa_0 := ha.later hb_0
  clear ha
  go_wp2_with fail
  refine (text_any _ _ _ sa_0).mono ?_
  rintro e w1 ⟨rfl, hb⟩
  have sa_1 := sa_0.later hb
  have hb_1 := bnext hb_0 hb
  clear hb hb_0 sa_0
  go_wp2_with fail
  refine (refRight_any _ _ _ sa_1).mono ?_
  rintro e w2 ⟨rfl, hw2⟩
  have sa_2 : Sl w2 va xs := by rw [hw2]; exact sa_1
  have hb_2 : Below w.heap.size w w2 := by rw [hw2]; exact hb_1
  clear hw2 sa_1 hb_1
  cases hr : rightB xs
  · have hT0 : textE xs = 10 := by simp [textE, hr]
    rw [hT0]
    clear hT0
    go_wp2_with fail
    refine (parse_any _ _ hs).mono ?_
    rintro e w3 ⟨vc, rfl, oc, hb⟩
    have sc_3 := oc.sl
    clear oc
    have sa_3 := sa_2.later hb
    have hb_3 := bnext hb_2 hb
    clear hb hb_2 sa_2
    go_wp2_with fail
    refine (refParse_any _ _ hs).mono ?_
    rintro e w4 ⟨vd, rfl, od, hb⟩
    have sd_4 := od.sl
    clear od
    have sa_4 := sa_3.later hb
    have sc_4 := sc_3.later hb
    have hb_4 := bnext hb_3 hb
    clear hb hb_3 sa_3 sc_3
    by_cases hE : parseE s.data.toList = 0
    · obtain ⟨hT, hT0, hR⟩ := back_text hE
      rw [hE]
      go_wp2_with fail
      refine (text_any _ _ _ sc_4).mono ?_
      rintro e w5 ⟨rfl, hb⟩
      rw [hT, hT0]
      have sa_5 := sa_4.later hb
      have sc_5 := sc_4.later hb
      have sd_5 := sd_4.later hb
      have hb_5 := bnext hb_4 hb
      clear hb hb_4 sa_4 sc_4 sd_4
      have hse : ByteArray.mk s.data.toList.toArray = s := rfl
      rw [hse]
      go_wp2_with fail
      refine (right_any _ _ _ sc_5).mono ?_
      rintro e w9 ⟨rfl, hw9⟩
      have hb9 : Below w.heap.size w w9 := by rw [hw9]; exact hb_5
      rw [hR]
      clear hw9
      go_wp2
      go_ret
      exact ⟨ret1b (by simp), hb9⟩
    · have hnil := parseL_nil hE
      obtain ⟨ac, capc, hvc, _, _, _⟩ := sc_4.flat
      rw [hnil] at hvc
      simp only [List.length_nil] at hvc
      subst hvc
      have j0 : (parseE s.data.toList != 0) = true := by rw [bne_iff_ne]; exact hE
      go_wp2
      go_ret
      exact ⟨rfl, hb_4⟩
  have hT0 : textE xs = 0 := by simp [textE, hr]
  have hT : textS xs = dec (val xs) := by simp [textS, hr]
  have hlen : (dec (val xs)).length ≤ 700 := by rw [← hT]; exact text_len sa_2.1 hr
  obtain ⟨hP, hPL⟩ := text_back sa_2.1 hr
  rw [hT0, hT]
  clear hT hT0
  go_wp2_with fail
  refine (parse_any _ _ (by rw [mk_size]; unfold maxLen; omega)).mono ?_
  rintro e w3 ⟨vb, rfl, ob, hb⟩
  rw [mk_toList] at ob ⊢
  rw [hP]
  rw [hPL] at ob
  have sb_3 := ob.sl
  clear ob
  have sa_3 := sa_2.later hb
  have hb_3 := bnext hb_2 hb
  clear hb hb_2 sa_2
  go_wp2_with fail
  refine (same_any _ _ _ _ _ sa_3 sb_3).mono ?_
  rintro e w4 ⟨rfl, nd, hw⟩
  have hb := below_of_drawn hw
  clear hw
  rw [dec_same]
  have sa_4 := sa_3.later hb
  have sb_4 := sb_3.later hb
  have hb_4 := bnext hb_3 hb
  clear hb hb_3 sa_3 sb_3
  go_wp2_with fail
  refine (parse_any _ _ hs).mono ?_
  rintro e w5 ⟨vc, rfl, oc, hb⟩
  have sc_5 := oc.sl
  clear oc
  have sa_5 := sa_4.later hb
  have sb_5 := sb_4.later hb
  have hb_5 := bnext hb_4 hb
  clear hb hb_4 sa_4 sb_4
  go_wp2_with fail
  refine (refParse_any _ _ hs).mono ?_
  rintro e w6 ⟨vd, rfl, od, hb⟩
  have sd_6 := od.sl
  clear od
  have sa_6 := sa_5.later hb
  have sb_6 := sb_5.later hb
  have sc_6 := sc_5.later hb
  have hb_6 := bnext hb_5 hb
  clear hb hb_5 sa_5 sb_5 sc_5
  by_cases hE : parseE s.data.toList = 0
  · obtain ⟨hT, hT0, hR⟩ := back_text hE
    rw [hE]
    go_wp2_with fail
    refine (text_any _ _ _ sc_6).mono ?_
    rintro e w7 ⟨rfl, hb⟩
    rw [hT, hT0]
    have sa_7 := sa_6.later hb
    have sb_7 := sb_6.later hb
    have sc_7 := sc_6.later hb
    have sd_7 := sd_6.later hb
    have hb_7 := bnext hb_6 hb
    clear hb hb_6 sa_6 sb_6 sc_6 sd_6
    have hse : ByteArray.mk s.data.toList.toArray = s := rfl
    rw [hse]
    go_wp2_with fail
    refine (right_any _ _ _ sc_7).mono ?_
    rintro e w9 ⟨rfl, hw9⟩
    have hb9 : Below w.heap.size w w9 := by rw [hw9]; exact hb_7
    rw [hR]
    clear hw9
    go_wp2
    go_ret
    exact ⟨ret1b (by simp), hb9⟩
  · have hnil := parseL_nil hE
    obtain ⟨ac, capc, hvc, _, _, _⟩ := sc_6.flat
    rw [hnil] at hvc
    simp only [List.length_nil] at hvc
    subst hvc
    have j0 : (parseE s.data.toList != 0) = true := by rw [bne_iff_ne]; exact hE
    go_wp2
    go_ret
    exact ⟨rfl, hb_6⟩

set_option maxRecDepth 100000 in
theorem natBack_lifted (os : Os) (started : os.Started) (H : Type) (enc : TypeId × Value → H) :
    ReturnsInHanded {} Try.checked os 7 .any (Rows.natBackSpec.pre6 enc Try.prog Try.f7 Rows.natBackRow.domain false) (Rows.natBackSpec.post enc Try.prog Try.f7 false true false false) := by
  refine returnsInHanded_of_change (C := Try.checked) own started (by kernel_rfl) Try.func7
    (ChangeSpec.witness6 (enc := enc) (C := Try.checked) false ⟨#[], #[.slice none 0 0, .string ByteArray.empty], []⟩ 8 (by kernel_rfl) (by kernel_rfl) (by kernel_rfl) (by kernel_rfl)) ?_
  intro W base args ds gs before hval0 hW hcnd _
  have hval : ∀ (j : Nat) t v, Try.f7.params[j]? = some t → args[j]? = some v → Value.okWide Try.prog W .any base t v := hval0
  have hW' := hW
  obtain ⟨p, q, hA0, hV, rfl, hfz, hnd⟩ := hW
  have hA : DataW.TrodAll enc Try.prog W 0 (fun _ => true) true Try.f7.params.toList args.toList ds p := hA0
  rw [Try.params7] at hA hval
  obtain ⟨v0, vs0, d0, ds0, p0, q0, hargs, rfl, rfl, h0, r0⟩ := trodAll_cons hA
  obtain ⟨v1, vs1, d1, ds1, p1, q1, rfl, rfl, rfl, h1, r1⟩ := trodAll_cons r0
  obtain ⟨rfl, rfl, rfl⟩ := trodAll_nil r1
  obtain rfl : args = #[v0, v1] := by cases args; simp_all
  obtain ⟨rfl, rfl⟩ := trodVars_none hV
  obtain ⟨a0, len0, cap0, rfl⟩ := okWide_slice Try.underlying22 (hval 0 22 v0 rfl rfl)
  have k0 := h0
  have lt0 : ∀ x ∈ p0, x.block < W.heap.size := by obtain ⟨m, hm⟩ := k0; exact DataW.trod_lt m _ _ _ hm
  obtain ⟨z0, w0⟩ : ∃ zs, IsRow .u32 W a0 len0 cap0 zs := by
    obtain ⟨fuel, hf⟩ := h0
    rcases open_ints Try.underlying22 Try.underlying42 (by kernel_rfl) hf with ⟨hcs, _⟩ | ⟨x, l, c, zs, hcs, _, hl, hm, hz, _, hcell, hwz⟩
    · simp [Value.cells] at hcs
      obtain ⟨rfl, rfl, rfl⟩ := hcs
      exact ⟨[], .inl ⟨rfl, rfl, rfl, rfl⟩⟩
    · simp [Value.cells] at hcs
      obtain ⟨rfl, rfl, rfl⟩ := hcs
      exact ⟨zs, .inr ⟨_, rfl, hl, hm, by simpa using hz, hcell, hwz⟩⟩
  obtain ⟨a1, rfl, rfl, rfl, w1⟩ := open_string Try.underlying9 (hval 1 9 v1 rfl rfl) h1
  clear hA0 hval0
  refine (natBack_any _ _ a1 W w0.sl w1).mono fun e W' ⟨he, bel⟩ => ?_
  subst he
  exact ⟨_, rfl, _, _, _, [], _, [], hW', trodAll_mk1 (shut_bool Try.underlying4 _), (trodAll_cons_mk (Below.trod laidOut (by kernel_rfl) (of_decide_eq_true (by kernel_rfl)) k0 bel lt0) (trodAll_cons_mk (shut_string Try.underlying9 w1) trodAll_mk0)), rfl, bel.frame _, fun h => by cases h⟩

theorem natBack_holds : Rows.NatBackSaid :=
  OpenClaim.holds_of_wide 7 Try.f7 rfl rfl rfl rfl rfl rfl rfl ⟨rfl, rfl, rfl, rfl, rfl⟩ rfl rfl rfl rfl rfl (by kernel_rfl) Try.func7 (by kernel_rfl)
    (of_decide_eq_true (by kernel_rfl)) (by unfold Func.isWrapper; first | (rw [if_pos (by decide +kernel)]; kernel_rfl) | (rw [if_neg (by decide +kernel)]; exact ⟨rfl, rfl⟩))
    (fun os started H enc _ => natBack_lifted os started H enc)

#print axioms natBack_holds

end Go.Proofs.Ytaekpijpkblkgaa
