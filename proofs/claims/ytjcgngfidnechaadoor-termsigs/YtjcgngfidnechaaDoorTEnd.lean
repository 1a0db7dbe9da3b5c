/- Where the term at a place ends; endOf walked. -/
import Derived.Test.YtjcgngfidnechaaDoorTKids
import Derived.Test.YtjcgngfidnechaaDoorTCheck
namespace Go.Proofs.YtjcgngfidnechaaDoor
open Go.RowKit Go.Maps

/-- A part of a row. -/
theorem Is.mid {w : World} {b off cap k m : Nat} {t : List Int} (h : Is w (.slice (some ⟨b, off, none⟩) t.length cap) t) (hk : k < t.length) (hm : k + m ≤ t.length) : Is w (.slice (some ⟨b, off + k, none⟩) m (cap - k)) ((t.drop k).take m) := by
  obtain ⟨ao, cap', e, h1, h2, h3⟩ := h
  simp only [Value.slice.injEq, true_and] at e
  obtain ⟨rfl, rfl⟩ := e
  obtain ⟨g, o, e, hg, hE⟩ := h3 (by omega)
  simp only [Option.some.injEq, Addr.mk.injEq, and_true] at e
  obtain ⟨rfl, rfl⟩ := e
  have hl : ((t.drop k).take m).length = m := by rw [List.length_take, List.length_drop]; omega
  refine ⟨some ⟨b, off + k, none⟩, cap - k, by rw [hl], by omega, by omega, fun _ => ⟨b, off + k, rfl, hg, fun j x hj => ?_⟩⟩
  have hjl := (List.getElem?_eq_some_iff.1 hj).1
  rw [List.getElem?_take_of_lt (by omega), List.getElem?_drop] at hj
  have := hE (k + j) x hj
  rw [show off + k + j * 1 = off + (k + j) * 1 by omega]
  exact this

/-- What is found at a row's head is a right term by itself. -/
theorem first_take {sig : List Sy} : ∀ (r : List Int) (m : Int) (i : Nat) (n : Int), firstT sig m i r = (n, 0) → ∃ k : Nat, n = (i : Int) + k ∧ 1 ≤ k ∧ k ≤ r.length ∧ firstT sig m i (r.take k) = (n, 0)
  | [], m, i, n, h => by simp [firstT] at h
  | c :: r, m, i, n, h => by
    rw [firstT_cons] at h
    cases hc : codeD sig c with
    | none => rw [hc] at h; simp at h
    | some e =>
      rw [hc] at h
      simp only at h
      by_cases h0 : m + e = 0
      · rw [if_pos h0] at h
        refine ⟨1, ?_, Nat.le_refl _, by simp, ?_⟩
        · have := congrArg Prod.fst h
          simp only at this
          omega
        · rw [List.take_succ_cons, List.take_zero, firstT_cons, hc]
          simp only
          rw [if_pos h0]
          exact h
      · rw [if_neg h0] at h
        obtain ⟨k, h1, h2, h3, h4⟩ := first_take r (m + e) (i + 1) n h
        refine ⟨k + 1, by omega, by omega, by simp; omega, ?_⟩
        rw [List.take_succ_cons, firstT_cons, hc]
        simp only
        rw [if_neg h0]
        exact h4

/-- Where the term at a place ends, and what is wrong. -/
def endP (sig : List Sy) (t : List Int) (p : Int) : Int × Int := if p < 0 ∨ (t.length : Int) ≤ p then (0, 33) else (p + (firstT sig 1 0 (t.drop p.toNat)).1, (firstT sig 1 0 (t.drop p.toNat)).2)

theorem endP_ok {sig : List Sy} {t : List Int} {p n : Int} (h : endP sig t p = (n, 0)) : ∃ k m : Nat, p = k ∧ k < t.length ∧ 1 ≤ m ∧ n = ((k + m : Nat) : Int) ∧ k + m ≤ t.length ∧ rowE sig ((t.drop k).take m) = 0 := by
  unfold endP at h
  by_cases hp : p < 0 ∨ (t.length : Int) ≤ p
  · rw [if_pos hp] at h
    simp at h
  · rw [if_neg hp] at h
    obtain ⟨k, rfl⟩ : ∃ k : Nat, p = k := ⟨p.toNat, by omega⟩
    rw [Int.toNat_natCast] at h
    simp only [Prod.mk.injEq] at h
    obtain ⟨m, h1, h2, h3, h4⟩ := first_take (t.drop k) 1 0 (firstT sig 1 0 (t.drop k)).1 (Prod.ext rfl h.2)
    simp only [Int.natCast_zero, Int.zero_add] at h1
    rw [List.length_drop] at h3
    refine ⟨k, m, rfl, by omega, h2, by omega, by omega, ?_⟩
    rw [row_first, h4, List.length_take, List.length_drop]
    simp only [Prod.mk.injEq, and_true]
    rw [h1]
    omega

theorem first_rng {sig : List Sy} : ∀ (r : List Int) (m : Int) (i : Nat), 0 ≤ (firstT sig m i r).1 ∧ (firstT sig m i r).1 ≤ (i : Int) + r.length
  | [], m, i => by simp [firstT]
  | c :: r, m, i => by
    rw [firstT_cons]
    cases hc : codeD sig c with
    | none => simp; omega
    | some e =>
      simp only
      by_cases h0 : m + e = 0
      · rw [if_pos h0]; simp; omega
      · rw [if_neg h0]
        have := first_rng (sig := sig) r (m + e) (i + 1)
        simp only [List.length_cons]
        omega

set_option maxRecDepth 100000 in
set_option maxHeartbeats 800000 in
theorem endOf_any (sv v : Value) (sig : List Sy) (t : List Int) (p : Int) (w : World) (hs : Sg w sv sig) (h : Is w v t) (ha : ArOk sig) (hb : t.length * 8 ≤ 140737488351232) (hp1 : -9223372036854775808 ≤ p) (hp2 : p ≤ 9223372036854775807) :
    Calls Tryd.prog 36 #[sv, v, .int .i64 p] w fun e w' => e = .returned (.tuple #[.int .i64 (endP sig t p).1, .int .i64 (endP sig t p).2]) ∧ w' = w := by
  obtain ⟨ao, cap, rfl, hao, hca, q0⟩ := Row.flat h
  unfold maxLen at hca
  have HS := hid hs
  have HI := hid h
  have HA := hid ha
  clear hs h ha q0
  by_cases hlo : p < 0
  · have HE : Hid (endP sig t p = (0, 33)) := by show _ = _; unfold endP; rw [if_pos (.inl hlo)]
    go_enter Tryd.func36, Tryd.ntmps36
    go_wp2
    go_ret2
    exact ⟨by rw [HE.out]; rfl, rfl⟩
  · obtain ⟨k, rfl⟩ : ∃ k : Nat, p = k := ⟨p.toNat, by omega⟩
    by_cases hhi : t.length ≤ k
    · have HE : Hid (endP sig t k = (0, 33)) := by show _ = _; unfold endP; rw [if_pos (.inr (by omega))]
      go_enter Tryd.func36, Tryd.ntmps36
      go_wp2
      go_ret2
      exact ⟨by rw [HE.out]; rfl, rfl⟩
    · have HE : Hid (endP sig t k = ((k : Int) + (firstT sig 1 0 (t.drop k)).1, (firstT sig 1 0 (t.drop k)).2)) := by show _ = _; unfold endP; rw [if_neg (by omega), Int.toNat_natCast]
      obtain ⟨b, off, c0, rfl, _⟩ := HI.out.at (k := 0) (by omega)
      have hI2 := HI.out.mid (k := k) (m := t.length - k) (by omega) (by omega)
      rw [List.take_of_length_le (by rw [List.length_drop]; exact Nat.le_refl _)] at hI2
      have HI2 := hid hI2
      have hrg := first_rng (sig := sig) (t.drop k) 1 0
      rw [List.length_drop] at hrg
      have hlt : k < t.length := by omega
      have hck : ¬ cap = k := by omega
      obtain ⟨N, hN⟩ : ∃ N, N = (firstT sig 1 0 (t.drop k)).1 := ⟨_, rfl⟩
      rw [← hN] at hrg HE
      have hw : IntKind.i64.wrap ((k : Int) + N) = (k : Int) + N := IntWalk.i64_in _ ⟨by omega, by omega⟩
      have HN := hid hN
      clear hI2 hN hhi
      go_enter Tryd.func36, Tryd.ntmps36
      go_wp2_with fail
      refine (firstTerm_any _ _ sig (t.drop k) w HS.out HI2.out HA.out (by rw [List.length_drop]; omega)).mono ?_
      rintro e w2 ⟨rfl, hw2⟩
      have hw8 := hw2.symm
      subst hw8
      clear hw2
      rw [← HN.out]
      go_wp2
      go_ret2
      exact ⟨by rw [HE.out]; rfl, rfl⟩

end Go.Proofs.YtjcgngfidnechaaDoor
