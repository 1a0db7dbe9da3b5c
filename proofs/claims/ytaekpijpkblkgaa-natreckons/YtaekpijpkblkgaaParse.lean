/- What reading a text answers. -/
import Derived.Test.YtaekpijpkblkgaaDigit
namespace Go.Proofs.Ytaekpijpkblkgaa
open Go.RowKit

theorem str_empty {s : ByteArray} (h : 0 < s.size) : s.toList.isEmpty = false := by
  rw [ByteArray.toList_eq]
  have : s.data.toList.length = s.size := by simp
  cases hd : s.data.toList with
  | nil => rw [hd] at this; simp at this; omega
  | cons c r => rfl

theorem str_get {s : ByteArray} {k : Nat} (h : k < s.size) : s.data.toList[k]? = some s[k] := by
  rw [List.getElem?_eq_getElem (by simpa using h)]; rfl

theorem str_len (s : ByteArray) : s.data.toList.length = s.size := by simp

theorem numB_head {s : List UInt8} {c : UInt8} (h1 : 1 < s.length) (h : s[0]? = some c) (h48 : c.toNat = 48) : numB s = false := by
  unfold numB
  cases s with
  | nil => simp at h1
  | cons x r =>
    simp at h
    subst h
    have : x = 48 := by rw [← UInt8.toNat_inj]; simpa using h48
    subst this
    have h2 : (1 < (48 :: r : List UInt8).length) := h1
    simp only [h2, decide_true, List.headD_cons]
    simp

theorem numB_bad {s : List UInt8} {c : UInt8} {k : Nat} (h : s[k]? = some c) (hc : isDigit c = false) : numB s = false := by
  unfold numB
  have : s.all isDigit = false := by
    rw [List.all_eq_false]
    exact ⟨c, List.mem_of_getElem? h, by simp [hc]⟩
  rw [this]; simp

theorem numB_good {s : List UInt8} (h0 : 0 < s.length) (h1 : s.length = 1 ∨ ∃ c, s[0]? = some c ∧ c.toNat ≠ 48) (h : s.all isDigit = true) : numB s = true := by
  unfold numB
  rw [h]
  cases s with
  | nil => simp at h0
  | cons x r =>
    rcases h1 with h1 | ⟨c, hc, h48⟩
    · simp at h1; subst h1; simp
    · simp at hc
      subst hc
      have : (x == 48) = false := by
        rw [beq_eq_false_iff_ne]
        rintro rfl
        exact h48 rfl
      simp [this]

theorem all_take_snoc {s : List UInt8} {k : Nat} {c : UInt8} (h : s[k]? = some c) (ha : (s.take k).all isDigit = true) (hc : isDigit c = true) : (s.take (k + 1)).all isDigit = true := by
  obtain ⟨hk, rfl⟩ := List.getElem?_eq_some_iff.1 h
  rw [List.take_succ_eq_append_getElem hk, List.all_append, ha]
  simp [hc]

set_option maxHeartbeats 400000 in
theorem isNumeral_any (s : ByteArray) (w : World) (hs : s.size ≤ maxLen) :
    Calls Try.prog 37 #[.string s] w fun e w' => e = .returned (.bool (numB s.data.toList)) ∧ w' = w := by
  unfold maxLen at hs
  by_cases h0 : s.size = 0
  · have hse : s = ByteArray.empty := by
      apply ByteArray.ext
      apply Array.eq_empty_of_size_eq_zero
      simpa using h0
    subst hse
    go_enter Try.func37, Try.ntmps37
    go_wp2
    go_ret
    exact ⟨rfl, rfl⟩
  have hpos : 0 < s.size := by omega
  have he := str_empty hpos
  by_cases h1 : 1 < s.size ∧ s[0].toNat = 48
  · have h48 : ((s[0].toNat : Int) == 48) = true := by rw [beq_iff_eq]; omega
    have HF : Hid (numB s.data.toList = false) := numB_head (by rw [str_len]; exact h1.1) (str_get hpos) h1.2
    have h1' := h1.1
    clear h1
    go_enter Try.func37, Try.ntmps37
    go_wp2
    go_ret
    exact ⟨ret1b HF.out.symm, rfl⟩
  have HG : Hid (s.data.toList.all isDigit = true → numB s.data.toList = true) := by
    intro h
    refine numB_good (by rw [str_len]; exact hpos) ?_ h
    by_cases h2 : s.data.toList.length = 1
    · exact .inl h2
    · exact .inr ⟨_, str_get hpos, fun h3 => h1 ⟨by rw [str_len] at h2; omega, h3⟩⟩
  have key : ∀ (hh : (1 < s.size ∧ ((s[0].toNat : Int) == 48) = false) ∨ s.size = 1), Calls Try.prog 37 #[.string s] w fun e w' => e = .returned (.bool (numB s.data.toList)) ∧ w' = w := by
    intro hh
    clear h1 h0
    rcases hh with ⟨h2, h48⟩ | h2
    all_goals
      go_enter Try.func37, Try.ntmps37
      go_wp2
      go_loop [18] (fun i => ∃ k : Nat, k ≤ s.size ∧ i = .int .i64 k ∧ (s.data.toList.take k).all isDigit = true) (fun i => s.size - (intOf i).toNat)
      case atStart => exact ⟨0, Nat.zero_le _, rfl, rfl⟩
      case round =>
        obtain ⟨k, hk, rfl, hall⟩ := hrel
        have HA : Hid ((s.data.toList.take k).all isDigit = true) := hall
        clear hall
        by_cases hlt : k < s.size
        · have hg := str_get hlt
          have HGT : Hid (s.data.toList[k]? = some s[k]) := hg
          clear hg
          by_cases hd1 : s[k].toNat < 48
          · go_wp2
            go_ret
            exact ⟨ret1b (numB_bad HGT.out (by simp [isDigit]; omega)).symm, rfl⟩
          by_cases hd2 : 57 < s[k].toNat
          · go_wp2
            go_ret
            exact ⟨ret1b (numB_bad HGT.out (by simp [isDigit]; omega)).symm, rfl⟩
          go_wp2
          go_round
          case rel => exact ⟨k + 1, by omega, by go_num, all_take_snoc HGT.out HA.out (by simp [isDigit]; omega)⟩
          case measure => simp [intOf]; omega
        · go_wp2
          go_ret
          refine ⟨ret1b (HG.out ?_).symm, rfl⟩
          have := HA.out
          rw [List.take_of_length_le (by rw [str_len]; omega)] at this
          exact this
  by_cases h2 : s.size = 1
  · exact key (.inr h2)
  · refine key (.inl ⟨by omega, ?_⟩)
    rw [beq_eq_false_iff_ne]
    intro h3
    exact h1 ⟨by omega, by omega⟩

theorem digit_of {s : List UInt8} {k : Nat} {c : UInt8} (hn : numB s = true) (h : s[k]? = some c) : 48 ≤ c.toNat ∧ c.toNat ≤ 57 := by
  unfold numB at hn
  simp only [Bool.and_eq_true] at hn
  have := List.all_eq_true.1 hn.2 c (List.mem_of_getElem? h)
  simpa [isDigit] using this

theorem numV_take_snoc {s : List UInt8} {k : Nat} {c : UInt8} (h : s[k]? = some c) : numV (s.take (k + 1)) = 10 * numV (s.take k) + (c.toNat - 48) := by
  obtain ⟨hk, rfl⟩ := List.getElem?_eq_some_iff.1 h
  rw [List.take_succ_eq_append_getElem hk, numV_snoc]

set_option maxHeartbeats 800000 in
theorem parse_any (s : ByteArray) (w : World) (hs : s.size ≤ maxLen) :
    Calls Try.prog 26 #[.string s] w fun e w' => ∃ v', e = .returned (.tuple #[v', .int .i64 (parseE s.data.toList)]) ∧ Ow w' w.heap.size v' (parseL s.data.toList) ∧ Below w.heap.size w w' := by
  have hs' := hs
  unfold maxLen at hs'
  go_enter Try.func26, Try.ntmps26
  go_wp2_with fail
  refine (isNumeral_any s _ hs).mono ?_
  rintro e w1 ⟨rfl, rfl⟩
  cases hn : numB s.data.toList
  · go_wp2
    go_ret2
    exact ⟨_, ret2i (by simp [parseE, hn]), by simp [parseL, hn]; exact Ow.nil _ _, Below.refl _ _⟩
  have HN : Hid (numB s.data.toList = true) := hn
  clear hn hs
  go_wp2
  go_loopw [4, 11] (fun a i wr => ∃ k : Nat, k ≤ s.size ∧ i = .int .i64 k ∧ Ow wr w1.heap.size a (limbs (numV (s.data.toList.take k))) ∧ (limbs (numV (s.data.toList.take k))).length ≤ 64 ∧ Below w1.heap.size w1 wr) (fun _ i _ => s.size - (intOf i).toNat)
  case atStart => exact ⟨0, Nat.zero_le _, rfl, by rw [show limbs (numV (List.take 0 s.data.toList)) = [] from limbs_zero]; exact Ow.nil _ _, by rw [show limbs (numV (List.take 0 s.data.toList)) = [] from limbs_zero]; simp, Below.refl _ _⟩
  case round =>
    obtain ⟨k, hk, rfl, how, h64, hbl⟩ := hrel
    by_cases hlt : k < s.size
    · have hg := str_get hlt
      obtain ⟨hd1, hd2⟩ := digit_of HN.out hg
      have HV : Hid (numV (s.data.toList.take (k + 1)) = 10 * numV (s.data.toList.take k) + (s[k].toNat - 48)) := numV_take_snoc hg
      have H64 : Hid ((limbs (numV (s.data.toList.take k))).length ≤ 64) := h64
      have HOW : Hid (Ow wr w1.heap.size u4 (limbs (numV (s.data.toList.take k)))) := how
      clear hg how h64
      go_wp2_with fail
      rw [show (s[k].toNat : Int) - 48 = ((s[k].toNat - 48 : Nat) : Int) by omega]
      refine (withDigit_any u4 _ (s[k].toNat - 48) _ _ HOW.out (by omega) H64.out hbl.size).mono ?_
      rintro e w2 ⟨v2, rfl, ho2, hb2⟩
      rw [← HV.out] at ho2
      have hbl2 : Below w1.heap.size w1 w2 := hbl.trans hb2
      obtain ⟨a2, c2, rfl, q1, q2, q3⟩ := ho2.sl.flat
      unfold maxLen at q2
      have HO2 : Hid (Ow w2 w1.heap.size (.slice a2 (limbs (numV (s.data.toList.take (k + 1)))).length c2) (limbs (numV (s.data.toList.take (k + 1))))) := ho2
      clear q3 ho2 HOW hbl hb2 HV H64
      by_cases h65 : (limbs (numV (s.data.toList.take (k + 1)))).length ≤ 64
      · go_wp2
        go_roundw
        case rel => exact ⟨k + 1, by omega, by go_num, HO2.out, h65, hbl2⟩
        case measure => simp [intOf]; omega
      · have hbig : ¬ (limbs (numV s.data.toList)).length ≤ 64 := by
          have := length_limbs_mono (numV_take_le s.data.toList (k + 1))
          omega
        have HB : Hid (¬ (limbs (numV s.data.toList)).length ≤ 64) := hbig
        clear hbig
        go_wp2
        go_ret2
        exact ⟨_, ret2i (by rw [parseE, if_pos HN.out, resE, if_neg HB.out]), by rw [parseL, if_pos HN.out, resL, if_neg HB.out]; exact Ow.nil _ _, hbl2⟩
    · have hall : s.data.toList.take k = s.data.toList := List.take_of_length_le (by rw [str_len]; omega)
      rw [hall] at how h64
      have HOW : Hid (Ow wr w1.heap.size u4 (limbs (numV s.data.toList))) := how
      have H64 : Hid ((limbs (numV s.data.toList)).length ≤ 64) := h64
      clear how h64 hall
      go_wp2
      go_ret2
      exact ⟨_, ret2i (by rw [parseE, if_pos HN.out, resE, if_pos H64.out]), by rw [parseL, if_pos HN.out, resL, if_pos H64.out]; exact HOW.out, hbl⟩

end Go.Proofs.Ytaekpijpkblkgaa
