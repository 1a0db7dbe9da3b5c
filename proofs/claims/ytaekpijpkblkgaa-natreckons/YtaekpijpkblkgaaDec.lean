/- Numbers and their texts, there and back; no Go in it. -/
import Derived.Test.YtaekpijpkblkgaaNum
namespace Go.Proofs.Ytaekpijpkblkgaa

theorem tens_mul_add {m d : Nat} (hd : d < 10) (h : 10 * m + d ≠ 0) : tens (10 * m + d) = d :: tens m := by
  rw [tens_pos h, show (10 * m + d) % 10 = d by omega, show (10 * m + d) / 10 = m by omega]

theorem tens_lt (n : Nat) : ∀ d ∈ tens n, d < 10 := by
  induction n using Nat.strongRecOn with
  | _ n ih =>
    by_cases h : n = 0
    · subst h; rw [tens_zero]; simp
    · rw [tens_pos h]
      intro d hd
      rcases List.mem_cons.1 hd with rfl | hd
      · omega
      · exact ih _ (by omega) d hd

theorem tens_last {n d : Nat} (h : (tens n).getLast? = some d) : d ≠ 0 := by
  induction n using Nat.strongRecOn generalizing d with
  | _ n ih =>
    by_cases h0 : n = 0
    · subst h0; rw [tens_zero] at h; simp at h
    · rw [tens_pos h0] at h
      by_cases h1 : n / 10 = 0
      · rw [h1, tens_zero] at h; simp at h; omega
      · cases hr : tens (n / 10) with
        | nil => rw [tens_pos h1] at hr; simp at hr
        | cons z s => rw [hr, List.getLast?_cons_cons, ← hr] at h; exact ih _ (by omega) h

theorem numV_tens (n : Nat) : numV ((tens n).reverse.map letter) = n := by
  induction n using Nat.strongRecOn with
  | _ n ih =>
    by_cases h : n = 0
    · subst h; rw [tens_zero]; rfl
    · rw [tens_pos h, List.reverse_cons, List.map_append, List.map_cons, List.map_nil, numV_snoc, ih _ (by omega), letter_toNat (by omega)]
      omega

theorem isDigit_letter {d : Nat} (h : d < 10) : isDigit (letter d) = true := by
  unfold isDigit; rw [letter_toNat h]; simp; omega

theorem numV_dec (n : Nat) : numV (dec n) = n := by
  unfold dec
  by_cases h : n = 0
  · subst h; rfl
  · rw [if_neg h, numV_tens]

theorem numB_dec (n : Nat) : numB (dec n) = true := by
  unfold dec
  by_cases h : n = 0
  · subst h; rfl
  · rw [if_neg h]
    unfold numB
    have h1 : ((tens n).reverse.map letter).all isDigit = true := by
      rw [List.all_eq_true]
      intro c hc
      obtain ⟨d, hd, rfl⟩ := List.mem_map.1 hc
      exact isDigit_letter (tens_lt n d (by simpa using hd))
    rw [h1]
    cases hl : (tens n).getLast? with
    | none =>
      rw [List.getLast?_eq_none_iff, tens_pos h] at hl
      simp at hl
    | some d =>
      have hd0 := tens_last hl
      have hd10 := tens_lt n d (List.mem_of_getLast? hl)
      have hh : ((tens n).reverse.map letter).headD 0 = letter d := by
        rw [List.headD_eq_head?_getD, List.head?_map, List.head?_reverse, hl]; rfl
      have hne : (letter d == 48) = false := by
        rw [beq_eq_false_iff_ne]
        intro e
        have := congrArg UInt8.toNat e
        rw [letter_toNat hd10] at this
        simp at this
        omega
      rw [hh, hne]
      have hlen : (((tens n).reverse.map letter).length == 0) = false := by
        rw [tens_pos h]; simp
      rw [hlen]
      simp

theorem letter_back {c : UInt8} (h : isDigit c = true) : letter (c.toNat - 48) = c := by
  unfold isDigit at h
  simp at h
  unfold letter
  rw [show 48 + (c.toNat - 48) = c.toNat by omega]
  simp

theorem tens_back (r : List UInt8) (ha : r.all isDigit = true) (hl : ∀ c, r.getLast? = some c → c.toNat ≠ 48) (hne : r ≠ []) : numV r.reverse ≠ 0 ∧ tens (numV r.reverse) = r.map (fun c => c.toNat - 48) := by
  induction r with
  | nil => exact absurd rfl hne
  | cons c r ih =>
    simp only [List.all_cons, Bool.and_eq_true] at ha
    have hc := ha.1
    unfold isDigit at hc
    simp at hc
    rw [List.reverse_cons, numV_snoc]
    cases r with
    | nil =>
      have := hl c (by simp)
      have e : numV ([] : List UInt8).reverse = 0 := rfl
      rw [e]
      have h0 : 10 * 0 + (c.toNat - 48) ≠ 0 := by omega
      refine ⟨h0, ?_⟩
      rw [tens_mul_add (by omega) h0, tens_zero]
      rfl
    | cons x s =>
      obtain ⟨h1, h2⟩ := ih ha.2 (fun y hy => hl y (by rw [List.getLast?_cons_cons]; exact hy)) (by simp)
      have h0 : 10 * numV (x :: s).reverse + (c.toNat - 48) ≠ 0 := by omega
      refine ⟨h0, ?_⟩
      rw [tens_mul_add (by omega) h0, h2]
      rfl

theorem dec_numV {s : List UInt8} (h : numB s = true) : dec (numV s) = s := by
  unfold numB at h
  simp only [Bool.and_eq_true] at h
  obtain ⟨⟨h0, h1⟩, ha⟩ := h
  have hne : s ≠ [] := by rintro rfl; simp at h0
  by_cases hz : ∃ c, s.head? = some c ∧ c.toNat = 48
  · obtain ⟨c, hc, h48⟩ := hz
    cases s with
    | nil => exact absurd rfl hne
    | cons x r =>
      simp at hc
      subst hc
      have hx : x = 48 := by rw [← UInt8.toNat_inj]; simpa using h48
      subst hx
      cases r with
      | nil => rfl
      | cons y t => simp at h1
  · have hr := tens_back s.reverse (by simpa using ha) (by
      intro c hc h48
      rw [List.getLast?_reverse] at hc
      exact hz ⟨c, hc, h48⟩) (by simpa using hne)
    rw [List.reverse_reverse] at hr
    unfold dec
    rw [if_neg hr.1, hr.2]
    simp only [List.map_reverse, List.reverse_reverse, List.map_map]
    conv => rhs; rw [← List.map_id s]
    apply List.map_congr_left
    intro c hc
    exact letter_back (List.all_eq_true.1 ha c hc)

end Go.Proofs.Ytaekpijpkblkgaa
