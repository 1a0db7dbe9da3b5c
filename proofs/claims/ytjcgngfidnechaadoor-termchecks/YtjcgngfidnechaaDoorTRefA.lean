/- The document's names, plainly; its letters, names and marked names walked. -/
import Derived.Test.YtjcgngfidnechaaDoorTSig
import Derived.Lib.ValidLaws
import Derived.Stop.FmtQuoteTie
namespace Go.Proofs.YtjcgngfidnechaaDoor
open Go.RowKit Go.Maps Go.Lib

/-- What the runes of a text come to, one behind the other. -/
def encGo : Nat → List UInt8 → List UInt8
  | 0, _ => []
  | n + 1, l => if l = [] then [] else (Utf8.encode ((decodeL l).1 : Int)).data.toList ++ encGo n (l.drop (decodeL l).2)

theorem enc_bytes (r : Nat) : (Utf8.encode (r : Int)).data.toList = encodeRune (r : Int) := by
  have h := Go.Extern.FmtText.encode_eq r
  unfold encodeRune
  rw [← h]
  have e : (fun x : Int => x.toNat.toUInt8) ∘ (fun x : UInt8 => (x.toNat : Int)) = id := by funext x; simp
  unfold Go.Extern.FmtText.nums
  rw [List.map_map, e, List.map_id]

theorem encGo_valid : ∀ (n : Nat) (l : List UInt8), l.length ≤ n → (encGo n l = l ↔ validD l = true)
  | 0, l, h => by
    obtain rfl : l = [] := List.eq_nil_of_length_eq_zero (by omega)
    exact ⟨fun _ => rfl, fun _ => rfl⟩
  | n + 1, l, h => by
    by_cases h0 : l = []
    · subst h0
      exact ⟨fun _ => rfl, fun _ => by simp [encGo]⟩
    · have hw := decodeL_width l
      have hl : 0 < l.length := List.length_pos_iff.2 h0
      rw [validD_step l h0, encGo, if_neg h0]
      by_cases hb : (decodeL l).1 = 65533 ∧ (decodeL l).2 = 1
      · rw [if_pos hb]
        refine ⟨fun e => ?_, fun e => by cases e⟩
        exfalso
        rw [hb.1, show (Utf8.encode ((65533 : Nat) : Int)).data.toList = [239, 191, 189] by rfl] at e
        have e2 := hb.2
        rw [← e, decodeL_N] at e2
        simp [decodeN] at e2
      · rw [if_neg hb, enc_bytes, encode_decode l h0 hb]
        rw [← encGo_valid n (l.drop (decodeL l).2) (by rw [List.length_drop]; omega)]
        refine ⟨fun e => ?_, fun e => ?_⟩
        · refine (List.append_right_inj (l.take (decodeL l).2)).1 ?_
          rw [e, List.take_append_drop]
        · rw [e, List.take_append_drop]

/-- The bytes behind the first of a rune. -/
theorem rune_bytes (s : ByteArray) (pos j : Nat) (h1 : 1 ≤ j) (h2 : j < (Utf8.decode s pos).2) : 128 ≤ (s.data.toList.getD (pos + j) 0).toNat := by
  rw [decode_N] at h2
  rcases decodeN_shape (s.data.toList.length - pos) (s.data.toList.getD pos 0).toNat (s.data.toList.getD (pos + 1) 0).toNat (s.data.toList.getD (pos + 2) 0).toNat (s.data.toList.getD (pos + 3) 0).toNat with ⟨c, e⟩ | ⟨c1, c2, c3, cv, e⟩ | ⟨c1, c2, c3, c4, cv, cs, e⟩ | ⟨c1, c2, c3, c4, c5, cv, cw, e⟩ | e
  · rw [e] at h2; simp only at h2; omega
  · rw [e] at h2; simp only at h2
    obtain rfl : j = 1 := by omega
    omega
  · rw [e] at h2; simp only at h2
    have hj : j = 1 ∨ j = 2 := by omega
    rcases hj with rfl | rfl <;> omega
  · rw [e] at h2; simp only at h2
    have hj : j = 1 ∨ j = 2 ∨ j = 3 := by omega
    rcases hj with rfl | rfl | rfl <;> omega
  · rw [e] at h2; simp only at h2; omega

/-- A text that ends in a mark is no name. -/
theorem nm_hash (s : ByteArray) (hl : s.data.toList.getD (s.size - 1) 0 = 35) : ∀ (b pos : Nat), pos < s.size → s.size ≤ pos + b → nmGo s b pos = false
  | 0, pos, h1, h2 => by omega
  | b + 1, pos, h1, h2 => by
    rw [nmGo, if_pos h1]
    have hw := Lib.width_pos s pos
    by_cases h3 : pos + (Utf8.decode s pos).2 < s.size
    · rw [nm_hash s hl b _ h3 (by omega), Bool.and_false]
    · have hp : pos = s.size - 1 := by
        by_cases h4 : pos = s.size - 1
        · exact h4
        · exfalso
          have := rune_bytes s pos (s.size - 1 - pos) (by omega) (by omega)
          rw [show pos + (s.size - 1 - pos) = s.size - 1 by omega, hl] at this
          simp at this
      have hd : (Utf8.decode s pos).1 = 35 := by
        rw [decode_N, hp, hl]
        simp [decodeN]
      rw [hd]
      simp [letB, folB]

/-- A text with one sign less. -/
def init1 (s : ByteArray) : ByteArray := s.extract 0 (s.size - 1)
def lastB (s : ByteArray) : UInt8 := s.data.toList.getD (s.size - 1) 0
def markB (s : ByteArray) : Bool := decide (0 < s.size) && (decide (lastB s = 35) && nameB (validD (init1 s).data.toList) (init1 s))

theorem bare_hash (s : ByteArray) (h0 : 0 < s.size) (h : lastB s = 35) : bare s = init1 s := by
  have hl : s.data.toList.length = s.size := (size_eq s).symm
  have hx : s.data.toList.drop (s.size - 1) = [35] := by
    unfold lastB at h
    rw [List.drop_eq_getElem_cons (by omega), List.drop_of_length_le (by omega)]
    rw [List.getD_eq_getElem?_getD, List.getElem?_eq_getElem (by omega), Option.getD_some] at h
    rw [h]
  have hs : hasSuffix s.data.toList "#".toUTF8.data.toList = true := by
    show hasSuffix s.data.toList [35] = true
    unfold hasSuffix
    rw [List.isSuffixOf_iff_suffix]
    exact ⟨s.data.toList.take (s.size - 1), by rw [← hx, List.take_append_drop]⟩
  unfold bare init1 trimSuffix
  rw [if_pos hs]
  apply ByteArray.ext
  apply Array.ext'
  show s.data.toList.take (s.data.toList.length - 1) = (s.extract 0 (s.size - 1)).data.toList
  rw [ByteArray.data_extract, Array.toList_extract, hl]
  simp

theorem bare_plain (s : ByteArray) (h : ¬ (0 < s.size ∧ lastB s = 35)) : bare s = s := by
  have hl : s.data.toList.length = s.size := (size_eq s).symm
  have hs : ¬ hasSuffix s.data.toList "#".toUTF8.data.toList = true := by
    show ¬ hasSuffix s.data.toList [35] = true
    unfold hasSuffix
    rw [List.isSuffixOf_iff_suffix]
    rintro ⟨l, e⟩
    have hn := congrArg List.length e
    simp only [List.length_append, List.length_cons, List.length_nil] at hn
    refine h ⟨by omega, ?_⟩
    unfold lastB
    rw [← e, show s.size - 1 = l.length by omega]
    simp
  unfold bare trimSuffix
  rw [if_neg hs]

/-- A symbol's name is a name, or a marked one. -/
theorem sym_ref (s : ByteArray) : symB s = (nameB (validD s.data.toList) s || markB s) := by
  unfold symB markB
  by_cases h : 0 < s.size ∧ lastB s = 35
  · have hn : nameB (validD s.data.toList) s = false := by
      unfold nameB
      rw [nm_hash s h.2 s.size 0 h.1 (by omega)]
      simp
    rw [hn, bare_hash s h.1 h.2, decide_eq_true h.1, decide_eq_true h.2]
    simp
  · rw [bare_plain s h]
    by_cases h0 : 0 < s.size
    · rw [decide_eq_false (fun h1 => h ⟨h0, h1⟩)]
      simp
    · rw [decide_eq_false h0]
      simp
set_option maxRecDepth 100000 in
theorem refLetter_any (r : Int) (w : World) : Calls Tryd.prog 49 #[.int .i32 r] w fun e w' => e = .returned (.bool (letB r)) ∧ w' = w := by
  obtain ⟨B, hB⟩ : ∃ B, B = letB r := ⟨_, rfl⟩
  rw [← hB]
  have HB : Hid (B = letB r) := hB
  clear hB
  go_enter Tryd.func49, Tryd.ntmps49
  by_cases h1 : 97 ≤ r
  · by_cases h2 : r ≤ 122
    · have HF : Hid (B = true) := by show _ = _; rw [HB.out]; unfold letB; simp [h1, h2]
      clear HB
      go_wp2
      go_ret
      exact ⟨ret1b HF.out.symm, rfl⟩
    · have HF : Hid (B = decide (128 ≤ r)) := by show _ = _; rw [HB.out]; unfold letB; rw [decide_eq_false h2, decide_eq_false (show ¬ r ≤ 90 by omega)]; simp
      clear HB
      have h3 : 65 ≤ r := by omega
      have h4 : ¬ r ≤ 90 := by omega
      go_wp2
      go_ret
      exact ⟨ret1b HF.out.symm, rfl⟩
  · by_cases h3 : 65 ≤ r
    · by_cases h4 : r ≤ 90
      · have HF : Hid (B = true) := by show _ = _; rw [HB.out]; unfold letB; simp [h3, h4]
        clear HB
        go_wp2
        go_ret
        exact ⟨ret1b HF.out.symm, rfl⟩
      · have HF : Hid (B = decide (128 ≤ r)) := by show _ = _; rw [HB.out]; unfold letB; rw [decide_eq_false h1, decide_eq_false h4]; simp
        clear HB
        go_wp2
        go_ret
        exact ⟨ret1b HF.out.symm, rfl⟩
    · have HF : Hid (B = decide (128 ≤ r)) := by show _ = _; rw [HB.out]; unfold letB; rw [decide_eq_false h1, decide_eq_false h3]; simp
      clear HB
      go_wp2
      go_ret
      exact ⟨ret1b HF.out.symm, rfl⟩

def morB (r : Int) : Bool := letB r || folB r

set_option maxRecDepth 100000 in
theorem refMore_any (r : Int) (w : World) : Calls Tryd.prog 50 #[.int .i32 r] w fun e w' => e = .returned (.bool (morB r)) ∧ w' = w := by
  obtain ⟨B, hB⟩ : ∃ B, B = morB r := ⟨_, rfl⟩
  rw [← hB]
  have HB : Hid (B = morB r) := hB
  clear hB
  go_enter Tryd.func50, Tryd.ntmps50
  go_wp2_with fail
  refine (refLetter_any r w).mono ?_
  rintro e w9 ⟨rfl, hw9⟩
  have hw8 := hw9.symm
  subst hw8
  clear hw9
  cases hL : letB r
  · have HF : Hid (B = folB r) := by show _ = _; rw [HB.out]; unfold morB; rw [hL]; rfl
    clear HB hL
    by_cases h1 : 48 ≤ r
    · by_cases h2 : r ≤ 57
      · have HG : Hid (B = true) := by show _ = _; rw [HF.out]; unfold folB; simp [h1, h2]
        clear HF
        go_wp2
        go_ret
        exact ⟨ret1b HG.out.symm, rfl⟩
      · by_cases h3 : r = 95
        · have HG : Hid (B = true) := by show _ = _; rw [HF.out]; unfold folB; simp [h3]
          have h3b : (r == 95) = true := by rw [beq_iff_eq]; exact h3
          clear HF
          go_wp2
          go_ret
          exact ⟨ret1b HG.out.symm, rfl⟩
        · have HG : Hid (B = decide (r = 39)) := by show _ = _; rw [HF.out]; unfold folB; rw [decide_eq_false h2, decide_eq_false h3]; simp
          have h3b : (r == 95) = false := by rw [beq_eq_false_iff_ne]; exact h3
          clear HF
          go_wp2
          go_ret
          exact ⟨ret1b (by rw [HG.out, decide_eq_false (show ¬ r ≤ 57 by omega)]; rfl), rfl⟩
    · by_cases h3 : r = 95
      · omega
      · have HG : Hid (B = decide (r = 39)) := by show _ = _; rw [HF.out]; unfold folB; rw [decide_eq_false h1, decide_eq_false h3]; simp
        have h3b : (r == 95) = false := by rw [beq_eq_false_iff_ne]; exact h3
        clear HF
        go_wp2
        go_ret
        exact ⟨ret1b (by rw [HG.out]; rfl), rfl⟩
  · have HF : Hid (B = true) := by show _ = _; rw [HB.out]; unfold morB; rw [hL]; rfl
    clear HB hL
    go_wp2
    go_ret
    exact ⟨ret1b HF.out.symm, rfl⟩

end Go.Proofs.YtjcgngfidnechaaDoor
