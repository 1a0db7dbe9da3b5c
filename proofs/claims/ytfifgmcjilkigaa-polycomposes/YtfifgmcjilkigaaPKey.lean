/- Like monomials brought together, as plain data: rows of keys (bytes) with their limbs, rising. -/
import Derived.Test.YtfifgmcjilkigaaPNum
namespace Go.Proofs.Ytfifgmcjilkigaa

/-- Which of two rows of bytes comes first (of one length). -/
def cmpK : List Nat → List Nat → Int
  | [], [] => 0
  | [], _ :: _ => -1
  | _ :: _, [] => 1
  | a :: r, b :: q => if a < b then -1 else if b < a then 1 else cmpK r q

abbrev ltK (a b : List Nat) : Prop := cmpK a b < 0

theorem cmpK_self (a : List Nat) : cmpK a a = 0 := by
  induction a with
  | nil => rfl
  | cons a r ih => simp [cmpK, ih]

theorem cmpK_zero {a b : List Nat} (h : cmpK a b = 0) : a = b := by
  induction a generalizing b with
  | nil => cases b with
    | nil => rfl
    | cons b q => simp [cmpK] at h
  | cons a r ih => cases b with
    | nil => simp [cmpK] at h
    | cons b q =>
      unfold cmpK at h
      split at h
      · omega
      · split at h
        · omega
        · rw [ih h, show a = b by omega]

theorem cmpK_swap (a b : List Nat) : cmpK b a = -cmpK a b := by
  induction a generalizing b with
  | nil => cases b <;> simp [cmpK]
  | cons a r ih => cases b with
    | nil => simp [cmpK]
    | cons b q =>
      unfold cmpK
      by_cases h1 : a < b
      · rw [if_neg (by omega), if_pos h1, if_pos h1]; rfl
      · by_cases h2 : b < a
        · rw [if_pos h2, if_neg h1, if_pos h2]
        · rw [if_neg h2, if_neg h1, if_neg h1, if_neg h2, ih]

theorem ltK_trans {a b c : List Nat} (h : ltK a b) (h' : ltK b c) : ltK a c := by
  unfold ltK at *
  induction a generalizing b c with
  | nil => cases b with
    | nil => exact h'
    | cons b q => cases c with
      | nil => simp [cmpK] at h'
      | cons c s => simp [cmpK]
  | cons a r ih => cases b with
    | nil => simp [cmpK] at h
    | cons b q => cases c with
      | nil => simp [cmpK] at h'
      | cons c s =>
        unfold cmpK at h h' ⊢
        by_cases h1 : a < b
        · by_cases h2 : b < c
          · rw [if_pos (by omega)]; omega
          · rw [if_neg h2] at h'
            by_cases h3 : c < b
            · rw [if_pos h3] at h'; omega
            · rw [if_pos (by omega)]; omega
        · rw [if_neg h1] at h
          by_cases h4 : b < a
          · rw [if_pos h4] at h; omega
          · rw [if_neg h4] at h
            obtain rfl : a = b := by omega
            by_cases h2 : a < c
            · rw [if_pos h2]; omega
            · rw [if_neg h2] at h' ⊢
              by_cases h3 : c < a
              · rw [if_pos h3] at h'; omega
              · rw [if_neg h3] at h' ⊢
                exact ih h h'

theorem ltK_irrefl (a : List Nat) : ¬ ltK a a := by unfold ltK; rw [cmpK_self]; omega
theorem ltK_or {a b : List Nat} (h : ¬ a = b) (h' : ¬ ltK a b) : ltK b a := by
  unfold ltK at *
  have h1 := cmpK_swap a b
  have h2 : ¬ cmpK a b = 0 := fun e => h (cmpK_zero e)
  omega

abbrev Lk := List (List Nat × List Nat)

def Rising (L : Lk) : Prop := L.Pairwise (fun p q => ltK p.1 q.1)

/-- The limbs at a key; none: there is no such one. -/
def coefK (L : Lk) (k : List Nat) : List Nat := ((L.find? (fun p => p.1 == k)).map (·.2)).getD []

def hasK (L : Lk) (k : List Nat) : Bool := L.any (fun p => p.1 == k)

/-- Limbs laid at a key. -/
def insK : Lk → List Nat → List Nat → Lk
  | [], k, c => [(k, c)]
  | p :: r, k, c => if k = p.1 then (k, c) :: r else if ltK k p.1 then (k, c) :: p :: r else p :: insK r k c

theorem mem_insK {L : Lk} {k c : List Nat} (hL : Rising L) (q : List Nat × List Nat) : q ∈ insK L k c ↔ q = (k, c) ∨ (q ∈ L ∧ ¬ q.1 = k) := by
  induction L with
  | nil => simp [insK]
  | cons p r ih =>
    unfold Rising at hL
    rw [List.pairwise_cons] at hL
    have ih := ih hL.2
    unfold insK
    by_cases h1 : k = p.1
    · rw [if_pos h1]
      simp only [List.mem_cons]
      constructor
      · rintro (h | h)
        · exact .inl h
        · refine .inr ⟨.inr h, fun e => ?_⟩
          have := hL.1 q h
          rw [e, h1] at this
          exact ltK_irrefl _ this
      · rintro (h | ⟨h | h, h2⟩)
        · exact .inl h
        · exact absurd (by rw [h, h1]) h2
        · exact .inr h
    · rw [if_neg h1]
      by_cases h2 : ltK k p.1
      · rw [if_pos h2]
        simp only [List.mem_cons]
        constructor
        · rintro (h | h | h)
          · exact .inl h
          · exact .inr ⟨.inl h, by rw [h]; exact fun e => h1 e.symm⟩
          · refine .inr ⟨.inr h, fun e => ?_⟩
            have := hL.1 q h
            rw [e] at this
            exact ltK_irrefl _ (ltK_trans h2 this)
        · rintro (h | ⟨h | h, _⟩)
          · exact .inl h
          · exact .inr (.inl h)
          · exact .inr (.inr h)
      · rw [if_neg h2]
        simp only [List.mem_cons, ih]
        constructor
        · rintro (h | h | ⟨h, h3⟩)
          · exact .inr ⟨.inl h, by rw [h]; exact fun e => h1 e.symm⟩
          · exact .inl h
          · exact .inr ⟨.inr h, h3⟩
        · rintro (h | ⟨h | h, h3⟩)
          · exact .inr (.inl h)
          · exact .inl h
          · exact .inr (.inr ⟨h, h3⟩)

theorem rising_insK {L : Lk} {k c : List Nat} (hL : Rising L) : Rising (insK L k c) := by
  induction L with
  | nil => simp [insK, Rising]
  | cons p r ih =>
    have hL' := hL
    unfold Rising at hL
    rw [List.pairwise_cons] at hL
    unfold insK
    by_cases h1 : k = p.1
    · rw [if_pos h1]
      unfold Rising
      rw [List.pairwise_cons]
      exact ⟨fun q hq => by show ltK k q.1; rw [h1]; exact hL.1 q hq, hL.2⟩
    · rw [if_neg h1]
      by_cases h2 : ltK k p.1
      · rw [if_pos h2]
        unfold Rising
        rw [List.pairwise_cons]
        refine ⟨fun q hq => ?_, hL'⟩
        show ltK k q.1
        rcases List.mem_cons.1 hq with rfl | hq
        · exact h2
        · exact ltK_trans h2 (hL.1 q hq)
      · rw [if_neg h2]
        unfold Rising
        rw [List.pairwise_cons]
        refine ⟨fun q hq => ?_, ih hL.2⟩
        rcases (mem_insK hL.2 q).1 hq with rfl | ⟨hq, _⟩
        · exact ltK_or h1 h2
        · exact hL.1 q hq

theorem hasK_iff {L : Lk} {k : List Nat} : hasK L k = true ↔ ∃ c, (k, c) ∈ L := by
  unfold hasK
  rw [List.any_eq_true]
  constructor
  · rintro ⟨⟨k', c⟩, h, e⟩
    have : k' = k := by simpa using e
    subst this
    exact ⟨c, h⟩
  · rintro ⟨c, h⟩
    exact ⟨(k, c), h, by simp⟩

theorem length_insK {L : Lk} {k c : List Nat} (hL : Rising L) : (insK L k c).length = if hasK L k then L.length else L.length + 1 := by
  induction L with
  | nil => simp [insK, hasK]
  | cons p r ih =>
    unfold Rising at hL
    rw [List.pairwise_cons] at hL
    have ih := ih hL.2
    unfold insK
    by_cases h1 : k = p.1
    · rw [if_pos h1]
      have : hasK (p :: r) k = true := by simp [hasK, h1]
      rw [this]; simp
    · rw [if_neg h1]
      have hb : (p.1 == k) = false := by rw [beq_eq_false_iff_ne]; exact fun e => h1 e.symm
      have hc : hasK (p :: r) k = hasK r k := by simp [hasK, hb]
      by_cases h2 : ltK k p.1
      · rw [if_pos h2]
        have : hasK (p :: r) k = false := by
          rw [Bool.eq_false_iff]
          intro h
          rw [hc, hasK_iff] at h
          obtain ⟨c', h⟩ := h
          exact ltK_irrefl _ (ltK_trans h2 (hL.1 _ h))
        rw [this]; simp
      · rw [if_neg h2, hc, List.length_cons, ih]
        split <;> simp

theorem coefK_mem {L : Lk} {k c : List Nat} (hL : Rising L) (h : (k, c) ∈ L) : coefK L k = c := by
  induction L with
  | nil => cases h
  | cons p r ih =>
    unfold Rising at hL
    rw [List.pairwise_cons] at hL
    rcases List.mem_cons.1 h with rfl | h
    · simp [coefK]
    · have hb : (p.1 == k) = false := by
        rw [beq_eq_false_iff_ne]
        intro e
        have := hL.1 _ h
        rw [e] at this
        exact ltK_irrefl _ this
      have := ih hL.2 h
      unfold coefK at this ⊢
      rw [List.find?_cons, hb]
      exact this

theorem coefK_none {L : Lk} {k : List Nat} (h : hasK L k = false) : coefK L k = [] := by
  unfold coefK
  rw [List.find?_eq_none.2]
  · rfl
  · intro p hp e
    have : hasK L k = true := List.any_eq_true.2 ⟨p, hp, e⟩
    rw [h] at this
    cases this

/-- What put answers, and what it leaves. -/
def putE (L : Lk) (k c : List Nat) : Int := if addE (coefK L k) c = 0 then (if (insK L k (addL (coefK L k) c)).length ≤ 256 then 0 else 2) else addE (coefK L k) c
def putL (L : Lk) (k c : List Nat) : Lk := if addE (coefK L k) c = 0 then insK L k (addL (coefK L k) c) else L

end Go.Proofs.Ytfifgmcjilkigaa
