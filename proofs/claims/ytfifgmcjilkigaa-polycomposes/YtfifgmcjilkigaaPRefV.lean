/- What the document's Value answers is what Value answers: plain data. -/
import Derived.Test.YtfifgmcjilkigaaPRefD
import Derived.Test.YtfifgmcjilkigaaPGrt
namespace Go.Proofs.Ytfifgmcjilkigaa
open Go.RowKit Go.Maps

theorem polyB_two {p : List Mn} {a b : Int} (ha : ∀ m ∈ p, (m.2.length : Int) ≤ a) (hb : ∀ m ∈ p, (m.2.length : Int) ≤ b) : polyB p a = polyB p b := by
  rw [Bool.eq_iff_iff, polyB_iff, polyB_iff]
  exact ⟨fun h k hk => okAt_vars (h k hk) fun m hm => hb m (List.mem_of_getElem? hm), fun h k hk => okAt_vars (h k hk) fun m hm => ha m (List.mem_of_getElem? hm)⟩

theorem check_long {p : List Mn} (h : ∀ m ∈ p, m.2.length ≤ 4611686018427387904) : checkE p 4611686018427387904 = checkE p 9223372036854775807 := by
  unfold checkE
  rw [polyB_two (a := 4611686018427387904) (b := 9223372036854775807) (fun m hm => by have := h m hm; omega) (fun m hm => by have := h m hm; omega)]
  simp

theorem check_len {p : List Mn} {n : Nat} (h : checkE p 9223372036854775807 = 0) : checkE p (n : Int) = 0 ↔ varsN p ≤ n := by
  obtain ⟨h1, h2⟩ := (check_iff (by omega)).1 h
  rw [check_iff (by omega), varsN_iff]
  constructor
  · rintro ⟨h3, _⟩ m hm
    have := (polyB_good h3 hm).2
    omega
  · intro h3
    refine ⟨?_, h2⟩
    rw [polyB_two (b := 9223372036854775807) (fun m hm => by have := h3 m hm; omega) (fun m hm => (polyB_good h1 hm).2)]
    exact h1

theorem prodW_take {ats : List (List Nat)} : ∀ {es : List Int} {fs : List (List Nat)} {l : Nat} {e : Int} {f : List Nat}, es[l]? = some e → fs[l]? = some f → prodW (es.take (l + 1)) fs = prodW (es.take l) fs * val f ^ e.toNat
  | [], _, _, _, _, h, _ => by simp at h
  | _ :: _, [], _, _, _, _, h => by simp at h
  | a :: es, b :: fs, 0, e, f, h, h' => by
    simp at h h'
    subst h; subst h'
    simp [prodW]
  | a :: es, b :: fs, l + 1, e, f, h, h' => by
    rw [List.take_succ_cons, List.take_succ_cons, prodW, prodW, prodW_take (ats := ats) (es := es) (fs := fs) (by simpa using h) (by simpa using h'), Nat.mul_assoc]

theorem nought_take {es : List Int} : ∀ {fs : List (List Nat)} {l : Nat} {e : Int} {f : List Nat}, es[l]? = some e → fs[l]? = some f → noughtB (es.take (l + 1)) fs = (noughtB (es.take l) fs || (decide (0 < e) && f.length == 0)) := by
  induction es with
  | nil => intro fs l e f h; simp at h
  | cons a es ih =>
    intro fs l e f h h'
    cases fs with
    | nil => simp at h'
    | cons b fs =>
      cases l with
      | zero =>
        simp at h h'
        subst h; subst h'
        simp [noughtB]
      | succ l =>
        rw [List.take_succ_cons, List.take_succ_cons, nought_cons, nought_cons, ih (by simpa using h) (by simpa using h'), Bool.or_assoc]

theorem prodW_le {es : List Int} : ∀ {fs : List (List Nat)} {l n : Nat} {e : Int} {f : List Nat}, (∀ g ∈ fs, Lim g ∧ rightB g = true) → (∀ x ∈ es, 0 ≤ x ∧ x ≤ 64) → noughtB es fs = false → es[l]? = some e → fs[l]? = some f → n ≤ e.toNat → prodW (es.take l) fs * val f ^ n ≤ prodW es fs := by
  induction es with
  | nil => intro fs l n e f _ _ _ h; simp at h
  | cons a es ih =>
    intro fs l n e f hf hn h0 h h' hle
    cases fs with
    | nil => simp at h'
    | cons b fs =>
      have h0' := h0
      rw [nought_cons, Bool.or_eq_false_iff] at h0
      have hpos := prodW_pos (es := es) (fs := fs) (fun g hg => hf g (List.mem_cons_of_mem _ hg)) (fun x hx => hn x (List.mem_cons_of_mem _ hx)) h0.2
      cases l with
      | zero =>
        simp at h h'
        subst h; subst h'
        simp only [List.take_zero, prodW, Nat.one_mul]
        by_cases hz : a = 0
        · subst hz
          have : n = 0 := by simpa using hle
          subst this
          simpa using hpos
        · have ha : 0 < a := by have := hn a (by simp); omega
          have hb : ¬ b.length = 0 := by
            have := h0.1
            simp [ha] at this
            simpa using this
          have h1 := val_pos (hf b (by simp)).1 (hf b (by simp)).2 hb
          exact Nat.le_trans (Nat.pow_le_pow_right h1 hle) (Nat.le_mul_of_pos_right _ hpos)
      | succ l =>
        rw [List.take_succ_cons, prodW, prodW, Nat.mul_assoc]
        exact Nat.mul_le_mul_left _ (ih (fun g hg => hf g (List.mem_cons_of_mem _ hg)) (fun x hx => hn x (List.mem_cons_of_mem _ hx)) h0.2 (by simpa using h) (by simpa using h') hle)

theorem worthN_take {ats : List (List Nat)} {p : List Mn} {k : Nat} {m : Mn} (h : p[k]? = some m) : worthN ats (p.take (k + 1)) = worthN ats (p.take k) + val m.1 * prodW m.2 ats := by
  rw [take_get h, worthN_append]
  simp [worthN]

theorem worthN_part {ats : List (List Nat)} (p : List Mn) (k : Nat) : worthN ats (p.take k) ≤ worthN ats p := by
  have := worthN_append ats (p.take k) (p.drop k)
  rw [List.take_append_drop] at this
  omega

end Go.Proofs.Ytfifgmcjilkigaa
