/- Texts of the proof, one behind the other. -/
import Derived.Test.YtoapgbaibpkckaaGreatDoorOwn5
import Derived.Test.YtoapgbaibpkckaaGreatDoorOwn4
import Derived.Test.YtoapgbaibpkckaaGreatDoorOwn3
import Derived.Test.YtoapgbaibpkckaaGreatDoorOwn2
import Derived.Test.YtoapgbaibpkckaaGreatDoorOwn7
import Derived.Test.YtoapgbaibpkckaaGreatDoorOwn9
import Derived.Test.YtoapgbaibpkckaaGreatDoorOwn8
/- Rows whose variables are moved, plainly. -/
namespace Go.Proofs.YtoapgbaibpkckaaGreatDoor
open Go.RowKit Go.Maps Go.BigFrame

def movL (d : Int) (t : List Int) : List Int := t.map fun c => if c < 0 then c - d else c

theorem mov_ok {d : Int} {t : List Int} (h : okShift d t = true) : shiftE d t = 0 ∧ shiftL d t = movL d t := by
  unfold shiftE shiftL
  rw [if_pos h, if_pos h]
  exact ⟨rfl, rfl⟩

theorem mov_code {sig : List Sy} {d c : Int} (h : c < 0 → isVarB (-1 - c + d) = true) (hc : codeD sig c ≠ none) : codeD sig (if c < 0 then c - d else c) = codeD sig c := by
  by_cases h0 : c < 0
  · rw [if_pos h0]
    have h1 := isVarB_iff.1 (h h0)
    have h2 : ¬ c < -1048576 := fun h2 => hc (codeD_none (.inr h2))
    unfold codeD
    rw [if_neg (by omega), if_pos (by omega), if_neg (by omega), if_pos (by omega)]
  · rw [if_neg h0]

theorem mov_first {sig : List Sy} {d : Int} : ∀ (t : List Int) (m : Int) (i : Nat), okShift d t = true → (∀ c ∈ t, codeD sig c ≠ none) → firstT sig m i (movL d t) = firstT sig m i t
  | [], _, _, _, _ => rfl
  | c :: t, m, i, ho, hc => by
    have h1 : (c < 0 → isVarB (-1 - c + d) = true) ∧ okShift d t = true := by
      unfold okShift at ho ⊢
      rw [List.all_cons, Bool.and_eq_true] at ho
      refine ⟨fun h0 => ?_, ho.2⟩
      have := ho.1
      simpa [h0] using this
    have e : movL d (c :: t) = (if c < 0 then c - d else c) :: movL d t := rfl
    rw [e]
    unfold firstT
    rw [mov_code h1.1 (hc c (by simp))]
    cases codeD sig c with
    | none => rfl
    | some x =>
      simp only
      rw [mov_first t _ _ h1.2 (fun y hy => hc y (by simp [hy]))]

theorem first_codes {sig : List Sy} : ∀ (t : List Int) (m : Int) (i : Nat), firstT sig m i t = ((i : Int) + t.length, 0) → ∀ c ∈ t, codeD sig c ≠ none
  | [], _, _, _, c, hc => by simp at hc
  | a :: t, m, i, h, c, hc => by
    unfold firstT at h
    cases ha : codeD sig a with
    | none => rw [ha] at h; simp at h
    | some x =>
      rw [ha] at h
      simp only at h
      by_cases h0 : m + x = 0
      · rw [if_pos h0] at h
        have h2 := congrArg Prod.fst h
        simp only [List.length_cons] at h2
        have h3 : t.length = 0 := by omega
        obtain rfl := List.eq_nil_of_length_eq_zero h3
        rw [List.mem_singleton] at hc
        subst hc
        rw [ha]
        simp
      · rw [if_neg h0] at h
        rcases List.mem_cons.1 hc with rfl | hc
        · rw [ha]; simp
        · refine first_codes t (m + x) (i + 1) ?_ c hc
          rw [h]
          simp only [List.length_cons]
          congr 1
          push_cast
          omega

theorem mov_row {sig : List Sy} {d : Int} {t : List Int} (ho : okShift d t = true) (h : rowE sig t = 0) : rowE sig (movL d t) = 0 := by
  have h1 := first_right h []
  rw [List.append_nil] at h1
  have h2 := mov_first (sig := sig) t 1 0 ho (first_codes t 1 0 (by rw [h1]; simp))
  unfold rowE at h ⊢
  rw [h2]
  have h3 : (movL d t).length = t.length := by unfold movL; simp
  rw [h3]
  exact h

end Go.Proofs.YtoapgbaibpkckaaGreatDoor

/- CAPs and the sides of pairs, plainly. -/
namespace Go.Proofs.YtoapgbaibpkckaaGreatDoor
open Go.RowKit

/-- How many codes the first term of a row has. -/
def fstN (sig : List Sy) (u : List Int) : Nat := (firstT sig 1 0 u).1.toNat

/-- A row of terms, with a variable of its own for each variable and each term whose root is defined. -/
def capG (sig : List Sy) (D : List Int) : Nat → Nat → List Int → List Int × Nat
  | 0, f, _ => ([], f)
  | _ + 1, f, [] => ([], f)
  | N + 1, f, c :: r => if 0 ≤ c ∧ c ∉ D then (c :: (capG sig D N f r).1, (capG sig D N f r).2) else ((-1 - (f : Int)) :: (capG sig D N (f + 1) (r.drop (fstN sig (c :: r) - 1))).1, (capG sig D N (f + 1) (r.drop (fstN sig (c :: r) - 1))).2)

def capL (sig : List Sy) (D : List Int) : List Int → List Int
  | [] => []
  | c :: r => c :: (capG sig D r.length 0 r).1

/-- A term at the head of a row of m. -/
theorem head_term {sig : List Sy} (ha : ArOk sig) {u : List Int} {m : Int} {i : Nat} (hm : 1 ≤ m) (h : firstT sig m i u = ((i : Int) + u.length, 0)) :
    ∃ k : Nat, 1 ≤ k ∧ k ≤ u.length ∧ fstN sig u = k ∧ rowE sig (u.take k) = 0 ∧ (m = 1 → k = u.length) ∧ (1 < m → firstT sig (m - 1) (i + k) (u.drop k) = ((i : Int) + u.length, 0)) := by
  obtain ⟨k, k1, k2, k3, k4, k5⟩ := first_part ha u 1 m 0 i (by omega) hm h
  obtain ⟨k', e1, _, _, e4⟩ := first_take u 1 0 _ k3
  have hkk : k' = k := by omega
  subst hkk
  refine ⟨k', k1, k2, ?_, ?_, fun h => k4 h, k5⟩
  · unfold fstN
    rw [k3]
    simp
  · rw [row_first, e4, List.length_take]
    congr 1
    omega

theorem capG_nil (sig : List Sy) (D : List Int) (N f : Nat) : capG sig D N f [] = ([], f) := by cases N <;> rfl

/-- The CAP of a row of terms is one. -/
theorem capG_rows {sig : List Sy} (ha : ArOk sig) (D : List Int) : ∀ (N f : Nat) (r : List Int) (m : Int) (i j : Nat), r.length ≤ N → f + r.length ≤ 1048576 → 1 ≤ m → firstT sig m i r = ((i : Int) + r.length, 0) →
    firstT sig m j (capG sig D N f r).1 = ((j : Int) + (capG sig D N f r).1.length, 0) ∧ (capG sig D N f r).1.length ≤ r.length ∧ (capG sig D N f r).2 ≤ f + r.length ∧ f ≤ (capG sig D N f r).2 ∧ ∀ c ∈ (capG sig D N f r).1, c < 0 → (f : Int) ≤ -1 - c ∧ -1 - c < ((capG sig D N f r).2 : Int)
  | _, _, [], m, i, j, _, _, hm, h => by simp [firstT] at h
  | 0, _, c :: r, m, i, j, hN, _, _, _ => by simp at hN
  | N + 1, f, c :: r, m, i, j, hN, hf, hm, h => by
    rw [List.length_cons] at hN hf
    by_cases hc : 0 ≤ c ∧ c ∉ D
    · have e : capG sig D (N + 1) f (c :: r) = (c :: (capG sig D N f r).1, (capG sig D N f r).2) := by rw [capG, if_pos hc]
      rw [e]
      rw [firstT_cons] at h ⊢
      cases hcd : codeD sig c with
      | none => rw [hcd] at h; simp at h
      | some x =>
        rw [hcd] at h
        simp only at h ⊢
        have hx := codeD_ge ha hcd
        by_cases h0 : m + x = 0
        · rw [if_pos h0] at h ⊢
          have h2 := congrArg Prod.fst h
          simp only [List.length_cons] at h2
          obtain rfl : r = [] := List.eq_nil_of_length_eq_zero (by omega)
          rw [capG_nil]
          refine ⟨by simp, by simp, by simp, by simp, fun d hd h9 => ?_⟩
          rw [List.mem_singleton] at hd
          omega
        · rw [if_neg h0] at h ⊢
          have h2 : firstT sig (m + x) (i + 1) r = (((i + 1 : Nat) : Int) + r.length, 0) := by rw [h, List.length_cons]; congr 1; push_cast; omega
          obtain ⟨g1, g2, g3, g4, g5⟩ := capG_rows ha D N f r (m + x) (i + 1) (j + 1) (by omega) (by omega) (by omega) h2
          refine ⟨by rw [g1, List.length_cons]; congr 1; push_cast; omega, by rw [List.length_cons, List.length_cons]; omega, by rw [List.length_cons]; omega, g4, fun d hd h9 => ?_⟩
          rcases List.mem_cons.1 hd with rfl | hd
          · omega
          · exact g5 d hd h9
    · have e : capG sig D (N + 1) f (c :: r) = ((-1 - (f : Int)) :: (capG sig D N (f + 1) (r.drop (fstN sig (c :: r) - 1))).1, (capG sig D N (f + 1) (r.drop (fstN sig (c :: r) - 1))).2) := by rw [capG, if_neg hc]
      obtain ⟨k, k1, k2, k3, k4, k5, k6⟩ := head_term ha hm h
      rw [e, k3]
      rw [List.length_cons] at k2 k5
      have hd1 : (c :: r).drop k = r.drop (k - 1) := by
        obtain ⟨k', rfl⟩ : ∃ k', k = k' + 1 := ⟨k - 1, by omega⟩
        rfl
      rw [hd1] at k6
      have hcd : codeD sig (-1 - (f : Int)) = some (-1) := codeD_var (by omega) (by omega)
      rw [firstT_cons, hcd]
      simp only
      by_cases h1 : m = 1
      · have hkl := k5 h1
        have hnil : r.drop (k - 1) = [] := by rw [List.drop_eq_nil_iff]; omega
        rw [hnil, capG_nil, if_pos (by omega)]
        refine ⟨by simp, by simp, by simp only [List.length_cons]; omega, by simp, fun d hd h9 => ?_⟩
        rw [List.mem_singleton] at hd
        subst hd
        simp only
        omega
      · have h2 := k6 (by omega)
        rw [if_neg (by omega)]
        have hdl : (r.drop (k - 1)).length = r.length - (k - 1) := List.length_drop
        obtain ⟨g1, g2, g3, g4, g5⟩ := capG_rows ha D N (f + 1) (r.drop (k - 1)) (m - 1) (i + k) (j + 1) (by omega) (by omega) (by omega) (by rw [h2, hdl, List.length_cons]; congr 1; push_cast; omega)
        refine ⟨by rw [show m + -1 = m - 1 by omega, g1, List.length_cons]; congr 1; push_cast; omega, by rw [List.length_cons, List.length_cons]; omega, by rw [List.length_cons]; omega, by omega, fun d hd h9 => ?_⟩
        rcases List.mem_cons.1 hd with rfl | hd
        · omega
        · have := g5 d hd h9
          omega

/-- The CAP of a right term whose root is a symbol is a right term, with variables from nought on. -/
theorem capL_right {sig : List Sy} (ha : ArOk sig) (D : List Int) {t : List Int} (h : rowE sig t = 0) (h0 : 0 ≤ (t[0]?).getD (-1)) (hl : t.length ≤ 1048576) :
    rowE sig (capL sig D t) = 0 ∧ (capL sig D t).length ≤ t.length ∧ ∃ f : Nat, f + 1 ≤ t.length ∧ ∀ c ∈ capL sig D t, c < 0 → -1 - c < (f : Int) := by
  cases t with
  | nil => simp at h0
  | cons c r =>
    simp only [List.getElem?_cons_zero, Option.getD_some] at h0
    rw [row_first, firstT_cons] at h
    rw [List.length_cons] at hl
    unfold capL
    cases hcd : codeD sig c with
    | none => rw [hcd] at h; simp at h
    | some x =>
      rw [hcd] at h
      simp only at h
      have hx := codeD_ge ha hcd
      by_cases hz : 1 + x = 0
      · rw [if_pos hz] at h
        have h2 := congrArg Prod.fst h
        simp only [List.length_cons] at h2
        obtain rfl : r = [] := List.eq_nil_of_length_eq_zero (by omega)
        refine ⟨?_, by simp [capG], 0, by simp, fun d hd h9 => ?_⟩
        · rw [row_first, firstT_cons, hcd]
          simp only
          rw [if_pos hz]
          simp [capG]
        · simp only [capG, List.length_nil, List.mem_singleton] at hd
          omega
      · rw [if_neg hz] at h
        obtain ⟨g1, g2, g3, g4, g5⟩ := capG_rows ha D r.length 0 r (1 + x) 1 1 (Nat.le_refl _) (by omega) (by omega) (by rw [h, List.length_cons]; congr 1; push_cast; omega)
        refine ⟨?_, by rw [List.length_cons, List.length_cons]; omega, (capG sig D r.length 0 r).2, by rw [List.length_cons]; omega, fun d hd h9 => ?_⟩
        · rw [row_first, firstT_cons, hcd]
          simp only
          rw [if_neg hz, g1, List.length_cons]
          congr 1
          push_cast
          omega
        · rcases List.mem_cons.1 hd with rfl | hd
          · omega
          · exact (g5 d hd h9).2

/-- Two rows as far as the first variable of one of them. -/
def beginB : List Int → List Int → Bool
  | [], _ => true
  | _ :: _, [] => true
  | c :: a, d :: b => if c < 0 ∨ d < 0 then true else if c = d then beginB a b else false

/-- What binds make one begins alike. -/
theorem begin_unif {f : Int → Option (List Int)} : ∀ {a b : List Int}, (laidL f a = laidL f b ∨ (∃ q, laidL f a = laidL f b ++ q) ∨ ∃ q, laidL f a ++ q = laidL f b) → beginB a b = true
  | [], _, _ => by simp [beginB]
  | _ :: _, [], _ => by simp [beginB]
  | c :: a, d :: b, h => by
    rw [beginB]
    by_cases h0 : c < 0 ∨ d < 0
    · rw [if_pos h0]
    · rw [if_neg h0]
      have hc : ¬ c < 0 := fun h => h0 (.inl h)
      have hd : ¬ d < 0 := fun h => h0 (.inr h)
      rw [laid_sym hc, laid_sym hd] at h
      have hcd : c = d ∧ (laidL f a = laidL f b ∨ (∃ q, laidL f a = laidL f b ++ q) ∨ ∃ q, laidL f a ++ q = laidL f b) := by
        rcases h with h | ⟨q, h⟩ | ⟨q, h⟩
        · simp only [List.cons.injEq] at h
          exact ⟨h.1, .inl h.2⟩
        · simp only [List.cons_append, List.cons.injEq] at h
          exact ⟨h.1, .inr (.inl ⟨q, h.2⟩)⟩
        · simp only [List.cons_append, List.cons.injEq] at h
          exact ⟨h.1, .inr (.inr ⟨q, h.2⟩)⟩
      rw [if_pos hcd.1]
      exact begin_unif hcd.2

theorem begin_of {sig : List Sy} {a b : List Int} (h : Unif sig a b) : beginB a b = true := by
  obtain ⟨f, _, he⟩ := h
  exact begin_unif (.inl he)

end Go.Proofs.YtoapgbaibpkckaaGreatDoor

/- The estimate of package pairs in memory; mayStand, capOf, beginAlike walked. -/
namespace Go.Proofs.YtoapgbaibpkckaaGreatDoor
open Go.RowKit Go.Maps Go.BigFrame

/-- What a right system tells of its pairs. -/
def Est (w : World) (ev : Value) (sig : List Sy) (rs : List Rl) : Prop :=
  ∃ (so : Option Addr) (sc b : Nat) (dv : Value), ev = .agg #[.slice so (extL sig).length sc, .int .i64 (sig.length : Int), .func (.func 59) #[] #[.pointer (some ⟨b, 0, none⟩)]] ∧ Sg w (.slice so (extL sig).length sc) (extL sig) ∧ w.cell? ⟨b, 0, none⟩ = some dv ∧ Is w dv (definedL sig rs)

theorem Est.kp {w w' : World} {ev : Value} {sig : List Sy} {rs : List Rl} (h : Est w ev sig rs) (hk : Kp w w') : Est w' ev sig rs := by
  obtain ⟨so, sc, b, dv, e, h1, h2, h3⟩ := h
  exact ⟨so, sc, b, dv, e, h1.kp hk, hk.cell _ _ h2, h3.kp hk⟩

/-- Whether a term may stand on a side of a pair. -/
def standB (sig : List Sy) (t : List Int) : Bool := decide (t.length ≤ 512 ∧ termE (extL sig) t = 0 ∧ (sig.length : Int) ≤ (t[0]?).getD (-1))

set_option maxRecDepth 100000 in
set_option maxHeartbeats 1600000 in
theorem mayStand_any (ev tv : Value) (sig : List Sy) (rs : List Rl) (t : List Int) (w : World) (he : Est w ev sig rs) (ht : Is w tv t) (hT : Tabs w) (hl : t.length * 8 ≤ 140737488351232) :
    Calls Tryz.prog 65 #[ev, tv] w fun e w' => e = .returned (.bool (standB sig t)) ∧ Below w.heap.size w w' := by
  obtain ⟨so, sc, b, dv, rfl, hs, hb, hd⟩ := he
  obtain ⟨ta, tc, rfl, hta, htc, _⟩ := Row.flat ht
  unfold maxLen at htc
  obtain ⟨w0, hw0⟩ : ∃ X, X = w.alloc (.cells #[.slice so (extL sig).length sc, .int .i64 (sig.length : Int), .func (.func 59) #[] #[.pointer (some ⟨b, 0, none⟩)]] 69) := ⟨_, rfl⟩
  have C0 : Hid (Below w.heap.size w w0) := by rw [hw0]; exact below_alloc _
  have HC : Hid (∀ W, Below w0.heap.size w0 W → W.cell? ⟨w.heap.size, 0, none⟩ = some (.slice so (extL sig).length sc) ∧ W.cell? ⟨w.heap.size, 1, none⟩ = some (.int .i64 (sig.length : Int))) := fun W hW => by
    have hk := Kp.of_below hW
    rw [hw0] at hk
    exact ⟨hk.cell _ _ (cell_new rfl), hk.cell _ _ (cell_new rfl)⟩
  have HCk := hid fun W (hW : Below w.heap.size w W) => check_any _ _ (extL sig) t W (hs.kp (Kp.of_below hW)) (ht.kp (Kp.of_below hW)) (hT.below hW) (by omega)
  have HTt := hid ht
  clear hs ht hT hb hd
  by_cases hlen : t.length ≤ 512
  · by_cases hte : termE (extL sig) t = 0
    · have hpos := row_posS (term_parts hte).2
      obtain ⟨g, off, c, rfl, hc, hcx, hc1, hc2⟩ := HTt.out.at hpos
      rw [Nat.add_zero] at hcx
      have HS : Hid (standB sig t = decide ((sig.length : Int) ≤ c)) := by
        show _ = _
        unfold standB
        rw [decide_eq_decide, hc, Option.getD_some]
        exact ⟨fun h => h.2.2, fun h => ⟨hlen, hte, h⟩⟩
      have HTe := hid hte
      have HX := hid hcx
      clear hc hte hcx
      go_enter Tryz.func65, Tryz.ntmps65
      go_upto_region 1 with fail
      rw [← hw0]
      clear hw0
      have HCl : Hid (∀ W, Below w0.heap.size w0 W → Calls Tryz.prog 80 #[.slice so (extL sig).length sc, .slice (some ⟨g, off, none⟩) t.length tc] W fun e w' => e = .returned (.int .i64 0) ∧ Below W.heap.size W w') := fun W hW => by
        have h9 := HCk.out W (below_step C0.out hW)
        rw [HTe.out] at h9
        exact h9
      obtain ⟨x0, x1⟩ := HC.out w0 (Below.refl _ _)
      have x2 := (Kp.of_below C0.out).cell _ _ HX.out
      have hdl : decide ((t.length : Int) ≤ 512) = true := by rw [decide_eq_true_eq]; omega
      obtain ⟨bS, hbS⟩ : ∃ bS, bS = decide ((sig.length : Int) ≤ c) := ⟨_, rfl⟩
      have hcmp : decide (c ≥ (sig.length : Int)) = bS := hbS.symm
      rw [← hbS] at HS
      clear hbS
      refine region_below (by kernel_rfl) (by kernel_rfl) ?_
      -- Q:may1
      (go_big_quiet_want; go_big_quiet_op; go_big_quiet_on)
      go_big_quiet_want
      refine ⟨.int .i64 (t.length : Int), fun w' hw' => ?_, ?_⟩
      · unfold Oper.quietAt; go_simp
      simp only [Act.put, List.setIfInBounds_toArray, List.set_cons_zero, List.set_cons_succ]
      go_big_quiet_on
      go_big_quiet_want
      refine ⟨.bool true, fun w' hw' => ?_, ?_⟩
      · unfold Oper.quietAt; go_simp
      simp only [Act.put, List.setIfInBounds_toArray, List.set_cons_zero, List.set_cons_succ]
      go_big_quiet_on
      (go_big_quiet_want; go_big_quiet_op; go_big_quiet_on)
      go_big_quiet_want
      refine ⟨.pointer (some ⟨w.heap.size, 0, none⟩), fun w' hw' => ?_, ?_⟩
      · unfold Oper.quietAt; go_simp
      simp only [Act.put, List.setIfInBounds_toArray, List.set_cons_zero, List.set_cons_succ]
      go_big_quiet_on
      go_big_quiet_want
      refine ⟨.slice so (extL sig).length sc, fun w' hw' => ?_, ?_⟩
      · have hh0 := (Kp.of_below hw').cell _ _ x0; unfold Oper.quietAt; go_simp
      simp only [Act.put, List.setIfInBounds_toArray, List.set_cons_zero, List.set_cons_succ]
      go_big_quiet_on
      (go_big_quiet_want; go_big_quiet_op; go_big_quiet_on)
      go_big_quiet_want
      refine ⟨.int .i64 0, fun w' hw' => ?_, ?_⟩
      · unfold Oper.quietAt; go_simp; exact (HCl.out w' hw').mono (fun e w2 ⟨he, hb⟩ => ⟨he, below_step hw' hb⟩)
      simp only [Act.put, List.setIfInBounds_toArray, List.set_cons_zero, List.set_cons_succ]
      go_big_quiet_on
      go_big_quiet_want
      refine ⟨.bool true, fun w' hw' => ?_, ?_⟩
      · unfold Oper.quietAt; go_simp
      simp only [Act.put, List.setIfInBounds_toArray, List.set_cons_zero, List.set_cons_succ]
      go_big_quiet_on
      go_big_quiet_want
      refine ⟨.bool true, fun w' hw' => ?_, ?_⟩
      · unfold Oper.quietAt; go_simp
      simp only [Act.put, List.setIfInBounds_toArray, List.set_cons_zero, List.set_cons_succ]
      go_big_quiet_on
      (go_big_quiet_want; go_big_quiet_op; go_big_quiet_on)
      (go_big_quiet_want; go_big_quiet_op; go_big_quiet_on)
      go_big_quiet_want
      refine ⟨.pointer (some ⟨g, off, none⟩), fun w' hw' => ?_, ?_⟩
      · unfold Oper.quietAt; go_simp
      simp only [Act.put, List.setIfInBounds_toArray, List.set_cons_zero, List.set_cons_succ]
      go_big_quiet_on
      go_big_quiet_want
      refine ⟨.int .i64 c, fun w' hw' => ?_, ?_⟩
      · have hh0 := (Kp.of_below hw').cell _ _ x2; unfold Oper.quietAt; go_simp
      simp only [Act.put, List.setIfInBounds_toArray, List.set_cons_zero, List.set_cons_succ]
      go_big_quiet_on
      go_big_quiet_want
      refine ⟨.pointer (some ⟨w.heap.size, 1, none⟩), fun w' hw' => ?_, ?_⟩
      · unfold Oper.quietAt; go_simp
      simp only [Act.put, List.setIfInBounds_toArray, List.set_cons_zero, List.set_cons_succ]
      go_big_quiet_on
      go_big_quiet_want
      refine ⟨.int .i64 (sig.length : Int), fun w' hw' => ?_, ?_⟩
      · have hh0 := (Kp.of_below hw').cell _ _ x1; unfold Oper.quietAt; go_simp
      simp only [Act.put, List.setIfInBounds_toArray, List.set_cons_zero, List.set_cons_succ]
      go_big_quiet_on
      go_big_quiet_want
      refine ⟨.bool bS, fun w' hw' => ?_, ?_⟩
      · unfold Oper.quietAt; go_simp
      simp only [Act.put, List.setIfInBounds_toArray, List.set_cons_zero, List.set_cons_succ]
      go_big_quiet_on
      go_big_quiet_want
      refine ⟨.bool bS, fun w' hw' => ?_, ?_⟩
      · unfold Oper.quietAt; go_simp
      simp only [Act.put, List.setIfInBounds_toArray, List.set_cons_zero, List.set_cons_succ]
      go_big_quiet_on
      (go_big_quiet_want; go_big_quiet_op; go_big_quiet_on)
      refine wpQuiet_nil ?_
      -- E:may1
      intro w2 hb2
      have B2 := hid (below_step C0.out hb2)
      clear hb2
      go_wp2
      go_ret
      exact ⟨ret1b HS.out.symm, B2.out⟩
    · have HS : Hid (standB sig t = false) := by
        show _ = _
        unfold standB
        exact decide_eq_false fun h => hte h.2.1
      have hne : (termE (extL sig) t == 0) = false := by rw [beq_eq_false_iff_ne]; exact hte
      clear hte
      generalize termE (extL sig) t = z at hne HCk
      go_enter Tryz.func65, Tryz.ntmps65
      go_upto_region 1 with fail
      rw [← hw0]
      clear hw0
      have HCl : Hid (∀ W, Below w0.heap.size w0 W → Calls Tryz.prog 80 #[.slice so (extL sig).length sc, .slice ta t.length tc] W fun e w' => e = .returned (.int .i64 z) ∧ Below W.heap.size W w') := fun W hW => HCk.out W (below_step C0.out hW)
      obtain ⟨x0, x1⟩ := HC.out w0 (Below.refl _ _)
      have hdl : decide ((t.length : Int) ≤ 512) = true := by rw [decide_eq_true_eq]; omega
      refine region_below (by kernel_rfl) (by kernel_rfl) ?_
      -- Q:may2
      (go_big_quiet_want; go_big_quiet_op; go_big_quiet_on)
      go_big_quiet_want
      refine ⟨.int .i64 (t.length : Int), fun w' hw' => ?_, ?_⟩
      · unfold Oper.quietAt; go_simp
      simp only [Act.put, List.setIfInBounds_toArray, List.set_cons_zero, List.set_cons_succ]
      go_big_quiet_on
      go_big_quiet_want
      refine ⟨.bool true, fun w' hw' => ?_, ?_⟩
      · unfold Oper.quietAt; go_simp
      simp only [Act.put, List.setIfInBounds_toArray, List.set_cons_zero, List.set_cons_succ]
      go_big_quiet_on
      (go_big_quiet_want; go_big_quiet_op; go_big_quiet_on)
      go_big_quiet_want
      refine ⟨.pointer (some ⟨w.heap.size, 0, none⟩), fun w' hw' => ?_, ?_⟩
      · unfold Oper.quietAt; go_simp
      simp only [Act.put, List.setIfInBounds_toArray, List.set_cons_zero, List.set_cons_succ]
      go_big_quiet_on
      go_big_quiet_want
      refine ⟨.slice so (extL sig).length sc, fun w' hw' => ?_, ?_⟩
      · have hh0 := (Kp.of_below hw').cell _ _ x0; unfold Oper.quietAt; go_simp
      simp only [Act.put, List.setIfInBounds_toArray, List.set_cons_zero, List.set_cons_succ]
      go_big_quiet_on
      (go_big_quiet_want; go_big_quiet_op; go_big_quiet_on)
      go_big_quiet_want
      refine ⟨.int .i64 z, fun w' hw' => ?_, ?_⟩
      · unfold Oper.quietAt; go_simp; exact (HCl.out w' hw').mono (fun e w2 ⟨he, hb⟩ => ⟨he, below_step hw' hb⟩)
      simp only [Act.put, List.setIfInBounds_toArray, List.set_cons_zero, List.set_cons_succ]
      go_big_quiet_on
      go_big_quiet_want
      refine ⟨.bool false, fun w' hw' => ?_, ?_⟩
      · unfold Oper.quietAt; go_simp
      simp only [Act.put, List.setIfInBounds_toArray, List.set_cons_zero, List.set_cons_succ]
      go_big_quiet_on
      go_big_quiet_want
      refine ⟨.bool false, fun w' hw' => ?_, ?_⟩
      · unfold Oper.quietAt; go_simp
      simp only [Act.put, List.setIfInBounds_toArray, List.set_cons_zero, List.set_cons_succ]
      go_big_quiet_on
      (go_big_quiet_want; go_big_quiet_op; go_big_quiet_on)
      go_big_quiet_skip
      go_big_quiet_skip
      go_big_quiet_skip
      go_big_quiet_skip
      go_big_quiet_skip
      go_big_quiet_skip
      go_big_quiet_want
      refine ⟨.bool false, fun w' hw' => ?_, ?_⟩
      · unfold Oper.quietAt; go_simp
      simp only [Act.put, List.setIfInBounds_toArray, List.set_cons_zero, List.set_cons_succ]
      go_big_quiet_on
      (go_big_quiet_want; go_big_quiet_op; go_big_quiet_on)
      refine wpQuiet_nil ?_
      -- E:may2
      intro w2 hb2
      have B2 := hid (below_step C0.out hb2)
      clear hb2
      go_wp2
      go_ret
      exact ⟨ret1b HS.out.symm, B2.out⟩
  · have HS : Hid (standB sig t = false) := by
      show _ = _
      unfold standB
      exact decide_eq_false fun h => hlen h.1
    have hdl : decide ((t.length : Int) ≤ 512) = false := by rw [decide_eq_false_iff_not]; omega
    go_enter Tryz.func65, Tryz.ntmps65
    go_upto_region 1 with fail
    rw [← hw0]
    clear hw0
    refine region_below (by kernel_rfl) (by kernel_rfl) ?_
    -- Q:may3
    (go_big_quiet_want; go_big_quiet_op; go_big_quiet_on)
    go_big_quiet_want
    refine ⟨.int .i64 (t.length : Int), fun w' hw' => ?_, ?_⟩
    · unfold Oper.quietAt; go_simp
    simp only [Act.put, List.setIfInBounds_toArray, List.set_cons_zero, List.set_cons_succ]
    go_big_quiet_on
    go_big_quiet_want
    refine ⟨.bool false, fun w' hw' => ?_, ?_⟩
    · unfold Oper.quietAt; go_simp
    simp only [Act.put, List.setIfInBounds_toArray, List.set_cons_zero, List.set_cons_succ]
    go_big_quiet_on
    (go_big_quiet_want; go_big_quiet_op; go_big_quiet_on)
    go_big_quiet_skip
    go_big_quiet_skip
    go_big_quiet_skip
    go_big_quiet_skip
    go_big_quiet_skip
    go_big_quiet_want
    refine ⟨.bool false, fun w' hw' => ?_, ?_⟩
    · unfold Oper.quietAt; go_simp
    simp only [Act.put, List.setIfInBounds_toArray, List.set_cons_zero, List.set_cons_succ]
    go_big_quiet_on
    (go_big_quiet_want; go_big_quiet_op; go_big_quiet_on)
    go_big_quiet_skip
    go_big_quiet_skip
    go_big_quiet_skip
    go_big_quiet_skip
    go_big_quiet_skip
    go_big_quiet_skip
    go_big_quiet_want
    refine ⟨.bool false, fun w' hw' => ?_, ?_⟩
    · unfold Oper.quietAt; go_simp
    simp only [Act.put, List.setIfInBounds_toArray, List.set_cons_zero, List.set_cons_succ]
    go_big_quiet_on
    (go_big_quiet_want; go_big_quiet_op; go_big_quiet_on)
    refine wpQuiet_nil ?_
    -- E:may3
    intro w2 hb2
    have B2 := hid (below_step C0.out hb2)
    clear hb2
    go_wp2
    go_ret
    exact ⟨ret1b HS.out.symm, B2.out⟩

theorem own_one13 {w : World} {c : Int} (h1 : -9223372036854775808 ≤ c) (h2 : c ≤ 9223372036854775807) : OwI (w.alloc (.cells #[.int .i64 c] 3)) w.heap.size (.slice (some ⟨w.heap.size, 0, none⟩) 1 1) [c] := by
  refine ⟨fun k x hk => ?_, ⟨rfl, .inr ⟨w.heap.size, 1, #[.int .i64 c], rfl, Nat.le_refl _, heap_alloc_new _ _, Nat.le_refl _, by simp [maxLen], rfl, rfl⟩⟩⟩
  have hk0 : k = 0 := by have := (List.getElem?_eq_some_iff.1 hk).1; simp at this; omega
  subst hk0
  cases hk
  exact ⟨h1, h2⟩

set_option maxRecDepth 100000 in
set_option maxHeartbeats 1600000 in
theorem capOf_any (ev tv : Value) (sig : List Sy) (rs : List Rl) (t : List Int) (w : World) (he : Est w ev sig rs) (ht : Is w tv t) (ha : ArOk (extL sig)) (hr : rowE (extL sig) t = 0) (h0 : 0 ≤ (t[0]?).getD (-1)) (hl : t.length ≤ 512) (hdn : (definedL sig rs).length ≤ 64) :
    Calls Tryz.prog 66 #[ev, tv] w fun e w' => ∃ v', e = .returned v' ∧ OwI w' w.heap.size v' (capL (extL sig) (definedL sig rs) t) ∧ Below w.heap.size w w' := by
  obtain ⟨so, sc, b, dv, rfl, hs, hb, hd⟩ := he
  obtain ⟨ta, tc, rfl, hta, htc, _⟩ := Row.flat ht
  unfold maxLen at htc
  obtain ⟨w0, hw0⟩ : ∃ X, X = w.alloc (.cells #[.slice so (extL sig).length sc, .int .i64 (sig.length : Int), .func (.func 59) #[] #[.pointer (some ⟨b, 0, none⟩)]] 69) := ⟨_, rfl⟩
  have C0 : Hid (Below w.heap.size w w0) := by rw [hw0]; exact below_alloc _
  have HC : Hid (∀ W, Below w0.heap.size w0 W → W.cell? ⟨w.heap.size, 0, none⟩ = some (.slice so (extL sig).length sc) ∧ W.cell? ⟨w.heap.size, 2, none⟩ = some (.func (.func 59) #[] #[.pointer (some ⟨b, 0, none⟩)])) := fun W hW => by
    have hk := Kp.of_below hW
    rw [hw0] at hk
    exact ⟨hk.cell _ _ (cell_new rfl), hk.cell _ _ (cell_new rfl)⟩
  have hpos := row_posS hr
  obtain ⟨g, off, c0, rfl, hc, hcx, hc1, hc2⟩ := ht.at hpos
  rw [Nat.add_zero] at hcx
  have HTt := hid ht
  have HS := hid hs
  have HA := hid ha
  have HDf : Hid (∀ (W : World) (c : Int), Below w.heap.size w W → Calls Tryz.prog 59 #[.int .i64 c, .pointer (some ⟨b, 0, none⟩)] W fun e w' => e = .returned (.bool (decide (c ∈ definedL sig rs))) ∧ Below W.heap.size W w') := fun W c hW => isDefined_any c b dv _ W ((Kp.of_below hW).cell _ _ hb) (hd.kp (Kp.of_below hW)) (defined_up sig rs) hdn
  generalize definedL sig rs = D at HDf ⊢
  have hc0 : 0 ≤ c0 := by rw [hc] at h0; simpa using h0
  have hR : capL (extL sig) D t = [c0] ++ (capG (extL sig) D (t.length - 1) 0 (t.drop 1)).1 := by
    cases t with
    | nil => simp at hpos
    | cons x r =>
      simp only [List.getElem?_cons_zero, Option.some.injEq] at hc
      subst hc
      rfl
  have hM : 1 = t.length ∨ ∃ m : Int, 1 ≤ m ∧ firstT (extL sig) m 1 (t.drop 1) = ((t.length : Int), 0) := by
    cases t with
    | nil => simp at hpos
    | cons x r =>
      have h9 := row_first.1 hr
      obtain ⟨x', r', d, e1, e2, e3⟩ := first_round h9
      cases e1
      rcases e3 with ⟨_, e3⟩ | ⟨e3, e4⟩
      · exact .inl (by simp only [List.length_cons] at e3 ⊢; omega)
      · exact .inr ⟨1 + d, by have := codeD_ge ha e2; omega, by simpa using e4⟩
  obtain ⟨R, hRe⟩ : ∃ R, R = capL (extL sig) D t := ⟨_, rfl⟩
  rw [← hRe] at hR ⊢
  obtain ⟨W1, hW1⟩ : ∃ X, X = w0.alloc (.cells #[.int .i64 c0] 3) := ⟨_, rfl⟩
  have HO1 : Hid (OwI W1 w0.heap.size (.slice (some ⟨w0.heap.size, 0, none⟩) 1 1) [c0]) := by rw [hW1]; exact own_one13 hc1 hc2
  have C1 : Hid (Below w0.heap.size w0 W1) := by rw [hW1]; exact below_alloc _
  have x0 := (Kp.of_below C0.out).cell _ _ hcx
  have HR := hid hR
  have HM := hid hM
  clear ht hs hd hb ha hr hR hM hRe hcx hc h0
  go_enter Tryz.func66, Tryz.ntmps66
  go_upto_region 1 with fail
  rw [← hw0]
  clear hw0
  go_upto_region 2 with fail
  rw [← hW1]
  clear hW1 x0
  go_wp2
  go_loopw [5, 6, 7] (fun rv fv kv wr => ∃ (k f N : Nat) (so : List Int), kv = .int .i64 k ∧ fv = .int .i64 f ∧ 1 ≤ k ∧ k ≤ t.length ∧ f ≤ k ∧ OwI wr w0.heap.size rv so ∧ so.length ≤ k ∧ (t.drop k).length ≤ N ∧ R = so ++ (capG (extL sig) D N f (t.drop k)).1 ∧ (k = t.length ∨ ∃ m : Int, 1 ≤ m ∧ firstT (extL sig) m k (t.drop k) = ((t.length : Int), 0)) ∧ Below w0.heap.size w0 wr) (fun _ _ kv _ => t.length - (intOf kv).toNat)
  case atStart => exact ⟨1, 0, t.length - 1, [c0], rfl, rfl, Nat.le_refl _, hpos, Nat.zero_le _, HO1.out, Nat.le_refl _, by rw [List.length_drop]; exact Nat.le_refl _, HR.out, by rcases HM.out with h | h; exact .inl h; exact .inr h, C1.out⟩
  case round =>
    clear HR HM HO1
    obtain ⟨k, f, N, sf, rfl, rfl, hk1, hkl, hfk, hos, hsl, hN, hRe, hM, hbl⟩ := hrel
    have HO := hid hos
    have HN := hid hN
    have HR := hid hRe
    have HM := hid hM
    have HB := hid hbl
    have Cr := hid (below_step C0.out hbl)
    clear hos hN hRe hM hbl
    by_cases hlt : k < t.length
    · have HTr := hid (HTt.out.kp (Kp.of_below Cr.out))
      obtain ⟨_, _, c, e1, hc, hcx, hc1, hc2⟩ := HTr.out.at hlt
      cases e1
      have hdr : t.drop k = c :: t.drop (k + 1) := by rw [List.drop_eq_getElem_cons hlt]; congr 1; rw [List.getElem?_eq_getElem hlt] at hc; exact Option.some.inj hc
      obtain ⟨N', rfl⟩ : ∃ N', N = N' + 1 := ⟨N - 1, by have := HN.out; rw [hdr, List.length_cons] at this; omega⟩
      have HDr := hid hdr
      have HCx := hid hcx
      obtain ⟨bD, hbD⟩ : ∃ bD, bD = decide (c ∈ D) := ⟨_, rfl⟩
      obtain ⟨x0, x2⟩ := HC.out wr HB.out
      have HDc : Hid (∀ W, Below wr.heap.size wr W → Calls Tryz.prog 59 #[.int .i64 c, .pointer (some ⟨b, 0, none⟩)] W fun e w' => e = .returned (.bool bD) ∧ Below W.heap.size W w') := fun W hW => by
        rw [hbD]
        exact HDf.out W c (below_step Cr.out hW)
      have HBD := hid hbD
      clear hc hdr hbD
      have hdk : decide ((k : Int) < (t.length : Int)) = true := by simpa using hlt
      go_upto_region 5 with fail
      go_cut [30] from 16 to 30 (fun x wx => x = .bool (decide (0 ≤ c) && !bD) ∧ Below wr.heap.size wr wx)
      case first =>
        by_cases hcc : 0 ≤ c
        · have hge : decide (c ≥ 0) = true := by simpa using hcc
          have hge2 : decide (0 ≤ c) = true := by simpa using hcc
          cases bD
          · refine region_below (by kernel_rfl) (by kernel_rfl) ?_
            -- Q:cap1
            (go_big_quiet_want; go_big_quiet_op; go_big_quiet_on)
            (go_big_quiet_want; go_big_quiet_op; go_big_quiet_on)
            go_big_quiet_want
            refine ⟨.pointer (some ⟨g, off + k, none⟩), fun w' hw' => ?_, ?_⟩
            · unfold Oper.quietAt; go_simp
            simp only [Act.put, List.setIfInBounds_toArray, List.set_cons_zero, List.set_cons_succ]
            go_big_quiet_on
            go_big_quiet_want
            refine ⟨.int .i64 c, fun w' hw' => ?_, ?_⟩
            · have hh0 := (Kp.of_below hw').cell _ _ HCx.out; unfold Oper.quietAt; go_simp
            simp only [Act.put, List.setIfInBounds_toArray, List.set_cons_zero, List.set_cons_succ]
            go_big_quiet_on
            go_big_quiet_want
            refine ⟨.bool true, fun w' hw' => ?_, ?_⟩
            · unfold Oper.quietAt; go_simp
            simp only [Act.put, List.setIfInBounds_toArray, List.set_cons_zero, List.set_cons_succ]
            go_big_quiet_on
            (go_big_quiet_want; go_big_quiet_op; go_big_quiet_on)
            go_big_quiet_want
            refine ⟨.pointer (some ⟨w.heap.size, 2, none⟩), fun w' hw' => ?_, ?_⟩
            · unfold Oper.quietAt; go_simp
            simp only [Act.put, List.setIfInBounds_toArray, List.set_cons_zero, List.set_cons_succ]
            go_big_quiet_on
            go_big_quiet_want
            refine ⟨.func (.func 59) #[] #[.pointer (some ⟨b, 0, none⟩)], fun w' hw' => ?_, ?_⟩
            · have hh0 := (Kp.of_below hw').cell _ _ x2; unfold Oper.quietAt; go_simp
            simp only [Act.put, List.setIfInBounds_toArray, List.set_cons_zero, List.set_cons_succ]
            go_big_quiet_on
            (go_big_quiet_want; go_big_quiet_op; go_big_quiet_on)
            (go_big_quiet_want; go_big_quiet_op; go_big_quiet_on)
            go_big_quiet_want
            refine ⟨.pointer (some ⟨g, off + k, none⟩), fun w' hw' => ?_, ?_⟩
            · unfold Oper.quietAt; go_simp
            simp only [Act.put, List.setIfInBounds_toArray, List.set_cons_zero, List.set_cons_succ]
            go_big_quiet_on
            go_big_quiet_want
            refine ⟨.int .i64 c, fun w' hw' => ?_, ?_⟩
            · have hh0 := (Kp.of_below hw').cell _ _ HCx.out; unfold Oper.quietAt; go_simp
            simp only [Act.put, List.setIfInBounds_toArray, List.set_cons_zero, List.set_cons_succ]
            go_big_quiet_on
            go_big_quiet_want
            refine ⟨.bool false, fun w' hw' => ?_, ?_⟩
            · unfold Oper.quietAt; go_simp; exact (HDc.out w' hw').mono (fun e w2 ⟨he, hb⟩ => ⟨he, below_step hw' hb⟩)
            simp only [Act.put, List.setIfInBounds_toArray, List.set_cons_zero, List.set_cons_succ]
            go_big_quiet_on
            go_big_quiet_want
            refine ⟨.bool true, fun w' hw' => ?_, ?_⟩
            · unfold Oper.quietAt; go_simp
            simp only [Act.put, List.setIfInBounds_toArray, List.set_cons_zero, List.set_cons_succ]
            go_big_quiet_on
            go_big_quiet_want
            refine ⟨.bool true, fun w' hw' => ?_, ?_⟩
            · unfold Oper.quietAt; go_simp
            simp only [Act.put, List.setIfInBounds_toArray, List.set_cons_zero, List.set_cons_succ]
            go_big_quiet_on
            refine wpQuiet_nil ?_
            -- E:cap1
            intro w2 hb2
            have B2 := hid hb2
            clear hb2
            go_wp2
            go_meet
            case rel => exact ⟨by rw [hge2]; rfl, B2.out⟩
          · refine region_below (by kernel_rfl) (by kernel_rfl) ?_
            -- Q:cap2
            (go_big_quiet_want; go_big_quiet_op; go_big_quiet_on)
            (go_big_quiet_want; go_big_quiet_op; go_big_quiet_on)
            go_big_quiet_want
            refine ⟨.pointer (some ⟨g, off + k, none⟩), fun w' hw' => ?_, ?_⟩
            · unfold Oper.quietAt; go_simp
            simp only [Act.put, List.setIfInBounds_toArray, List.set_cons_zero, List.set_cons_succ]
            go_big_quiet_on
            go_big_quiet_want
            refine ⟨.int .i64 c, fun w' hw' => ?_, ?_⟩
            · have hh0 := (Kp.of_below hw').cell _ _ HCx.out; unfold Oper.quietAt; go_simp
            simp only [Act.put, List.setIfInBounds_toArray, List.set_cons_zero, List.set_cons_succ]
            go_big_quiet_on
            go_big_quiet_want
            refine ⟨.bool true, fun w' hw' => ?_, ?_⟩
            · unfold Oper.quietAt; go_simp
            simp only [Act.put, List.setIfInBounds_toArray, List.set_cons_zero, List.set_cons_succ]
            go_big_quiet_on
            (go_big_quiet_want; go_big_quiet_op; go_big_quiet_on)
            go_big_quiet_want
            refine ⟨.pointer (some ⟨w.heap.size, 2, none⟩), fun w' hw' => ?_, ?_⟩
            · unfold Oper.quietAt; go_simp
            simp only [Act.put, List.setIfInBounds_toArray, List.set_cons_zero, List.set_cons_succ]
            go_big_quiet_on
            go_big_quiet_want
            refine ⟨.func (.func 59) #[] #[.pointer (some ⟨b, 0, none⟩)], fun w' hw' => ?_, ?_⟩
            · have hh0 := (Kp.of_below hw').cell _ _ x2; unfold Oper.quietAt; go_simp
            simp only [Act.put, List.setIfInBounds_toArray, List.set_cons_zero, List.set_cons_succ]
            go_big_quiet_on
            (go_big_quiet_want; go_big_quiet_op; go_big_quiet_on)
            (go_big_quiet_want; go_big_quiet_op; go_big_quiet_on)
            go_big_quiet_want
            refine ⟨.pointer (some ⟨g, off + k, none⟩), fun w' hw' => ?_, ?_⟩
            · unfold Oper.quietAt; go_simp
            simp only [Act.put, List.setIfInBounds_toArray, List.set_cons_zero, List.set_cons_succ]
            go_big_quiet_on
            go_big_quiet_want
            refine ⟨.int .i64 c, fun w' hw' => ?_, ?_⟩
            · have hh0 := (Kp.of_below hw').cell _ _ HCx.out; unfold Oper.quietAt; go_simp
            simp only [Act.put, List.setIfInBounds_toArray, List.set_cons_zero, List.set_cons_succ]
            go_big_quiet_on
            go_big_quiet_want
            refine ⟨.bool true, fun w' hw' => ?_, ?_⟩
            · unfold Oper.quietAt; go_simp; exact (HDc.out w' hw').mono (fun e w2 ⟨he, hb⟩ => ⟨he, below_step hw' hb⟩)
            simp only [Act.put, List.setIfInBounds_toArray, List.set_cons_zero, List.set_cons_succ]
            go_big_quiet_on
            go_big_quiet_want
            refine ⟨.bool false, fun w' hw' => ?_, ?_⟩
            · unfold Oper.quietAt; go_simp
            simp only [Act.put, List.setIfInBounds_toArray, List.set_cons_zero, List.set_cons_succ]
            go_big_quiet_on
            go_big_quiet_want
            refine ⟨.bool false, fun w' hw' => ?_, ?_⟩
            · unfold Oper.quietAt; go_simp
            simp only [Act.put, List.setIfInBounds_toArray, List.set_cons_zero, List.set_cons_succ]
            go_big_quiet_on
            refine wpQuiet_nil ?_
            -- E:cap2
            intro w2 hb2
            have B2 := hid hb2
            clear hb2
            go_wp2
            go_meet
            case rel => exact ⟨by rw [hge2]; rfl, B2.out⟩
        · have hge : decide (c ≥ 0) = false := by rw [decide_eq_false_iff_not]; omega
          have hge2 : decide (0 ≤ c) = false := by rw [decide_eq_false_iff_not]; omega
          refine region_below (by kernel_rfl) (by kernel_rfl) ?_
          -- Q:cap3
          (go_big_quiet_want; go_big_quiet_op; go_big_quiet_on)
          (go_big_quiet_want; go_big_quiet_op; go_big_quiet_on)
          go_big_quiet_want
          refine ⟨.pointer (some ⟨g, off + k, none⟩), fun w' hw' => ?_, ?_⟩
          · unfold Oper.quietAt; go_simp
          simp only [Act.put, List.setIfInBounds_toArray, List.set_cons_zero, List.set_cons_succ]
          go_big_quiet_on
          go_big_quiet_want
          refine ⟨.int .i64 c, fun w' hw' => ?_, ?_⟩
          · have hh0 := (Kp.of_below hw').cell _ _ HCx.out; unfold Oper.quietAt; go_simp
          simp only [Act.put, List.setIfInBounds_toArray, List.set_cons_zero, List.set_cons_succ]
          go_big_quiet_on
          go_big_quiet_want
          refine ⟨.bool false, fun w' hw' => ?_, ?_⟩
          · unfold Oper.quietAt; go_simp
          simp only [Act.put, List.setIfInBounds_toArray, List.set_cons_zero, List.set_cons_succ]
          go_big_quiet_on
          (go_big_quiet_want; go_big_quiet_op; go_big_quiet_on)
          go_big_quiet_skip
          go_big_quiet_skip
          go_big_quiet_skip
          go_big_quiet_skip
          go_big_quiet_skip
          go_big_quiet_skip
          go_big_quiet_skip
          go_big_quiet_skip
          go_big_quiet_want
          refine ⟨.bool false, fun w' hw' => ?_, ?_⟩
          · unfold Oper.quietAt; go_simp
          simp only [Act.put, List.setIfInBounds_toArray, List.set_cons_zero, List.set_cons_succ]
          go_big_quiet_on
          refine wpQuiet_nil ?_
          -- E:cap3
          intro w2 hb2
          have B2 := hid hb2
          clear hb2
          go_wp2
          go_meet
          case rel => exact ⟨by rw [hge2]; rfl, B2.out⟩
      obtain ⟨rfl, hb2⟩ := hcut
      obtain ⟨w2, hw2⟩ : ∃ W, W = wc := ⟨_, rfl⟩
      rw [← hw2] at hb2 ⊢
      have B2 := hid (below_step HB.out hb2)
      have HO2 := hid (HO.out.later hb2)
      have C2 := hid (below_step C0.out B2.out)
      clear hw2 hb2 x0 x2 HO HCx
      have hwk : IntKind.i64.wrap ((k : Int) + 1) = ((k + 1 : Nat) : Int) := by rw [IntWalk.i64_in _ ⟨by omega, by omega⟩]; omega
      by_cases hcc : 0 ≤ c ∧ c ∉ D
      · have hB : (decide (0 ≤ c) && !bD) = true := by
          rw [Bool.and_eq_true, decide_eq_true_eq, HBD.out]
          exact ⟨hcc.1, by simpa using hcc.2⟩
        rw [hB]
        have hd9 := HDr.out
        obtain ⟨v3, w3, hr3, ho3, hg3, _⟩ := join_one 36 HO2.out hc1 hc2 B2.out.size (by omega)
        have HR3 := hid hr3
        have HO3 := hid ho3
        have HB3 : Hid (Below w0.heap.size w0 w3) := (below_step B2.out (below_alloc _)).grown hg3 (below_step B2.out (below_alloc _)).size (fun j hj => own_blk HO2.out.2 hj)
        have HRn : Hid (R = (sf ++ [c]) ++ (capG (extL sig) D N' f (t.drop (k + 1))).1) := by
          show _ = _
          rw [HR.out, hd9, capG, if_pos hcc, List.append_assoc]
          rfl
        have HNn : Hid ((t.drop (k + 1)).length ≤ N') := by
          have h9 := HN.out
          rw [hd9, List.length_cons] at h9
          show _ ≤ _
          omega
        have HMn : Hid (k + 1 = t.length ∨ ∃ m : Int, 1 ≤ m ∧ firstT (extL sig) m (k + 1) (t.drop (k + 1)) = ((t.length : Int), 0)) := by
          rcases HM.out with h9 | ⟨m, hm, h9⟩
          · omega
          · rw [hd9] at h9
            obtain ⟨x', r', d, e1, e2, e3⟩ := first_round h9
            simp only [List.cons.injEq] at e1
            obtain ⟨rfl, rfl⟩ := e1
            rcases e3 with ⟨_, e3⟩ | ⟨e3, e4⟩
            · exact .inl (by omega)
            · exact .inr ⟨m + d, by have := codeD_ge HA.out e2; omega, e4⟩
        obtain ⟨ro, rcp, rfl, _, _⟩ := HO2.out.shape
        have hsl3 : (sf ++ [c]).length ≤ k + 1 := by rw [List.length_append, List.length_singleton]; omega
        have HL3 := hid hsl3
        obtain ⟨_, _, c', e1, hc', hcx', _, _⟩ := (HTt.out.kp (Kp.of_below C2.out)).at hlt
        cases e1
        rw [List.getElem?_eq_getElem hlt, Option.some.injEq] at hc'
        have hcc' : c' = c := by
          rw [← hc']
          have := HDr.out
          rw [List.drop_eq_getElem_cons hlt] at this
          simp only [List.cons.injEq] at this
          exact this.1
        subst hcc'
        clear hr3 ho3 hg3 hd9 hc' hsl3 hB
        go_wp2_with (first
          | (at_builtin; refine wpList_append_run rfl _ _ _ rfl _ _ rfl rfl HR3.out ?_))
        go_roundw
        case rel => exact ⟨k + 1, f, N', sf ++ [c'], by go_num, rfl, by omega, by omega, by omega, HO3.out, HL3.out, HNn.out, HRn.out, HMn.out, HB3.out⟩
        case measure => simp only [intOf]; omega
      · have hB : (decide (0 ≤ c) && !bD) = false := by
          rw [HBD.out]
          by_cases h1 : 0 ≤ c
          · have h2 : c ∈ D := by
              by_cases h3 : c ∈ D
              · exact h3
              · exact absurd ⟨h1, h3⟩ hcc
            simp [h2]
          · simp [h1]
        rw [hB]
        have hd9 := HDr.out
        obtain ⟨m, hm, hf9⟩ : ∃ m : Int, 1 ≤ m ∧ firstT (extL sig) m k (t.drop k) = ((t.length : Int), 0) := by
          rcases HM.out with h9 | h9
          · omega
          · exact h9
        have hdl : (t.drop k).length = t.length - k := List.length_drop
        obtain ⟨kk, k1, k2, k3, k4, k5, k6⟩ := head_term HA.out hm (by rw [hf9, hdl]; congr 1; omega : firstT (extL sig) m k (t.drop k) = ((k : Int) + (t.drop k).length, 0))
        rw [hdl] at k2 k5
        obtain ⟨v3, w3, hr3, ho3, hg3, _⟩ := join_one 36 (c := -1 - (f : Int)) HO2.out (by omega) (by omega) B2.out.size (by omega)
        have HR3 := hid hr3
        have HO3 := hid ho3
        have HB3 : Hid (Below w0.heap.size w0 w3) := (below_step B2.out (below_alloc _)).grown hg3 (below_step B2.out (below_alloc _)).size (fun j hj => own_blk HO2.out.2 hj)
        have hdd : (t.drop (k + 1)).drop (kk - 1) = t.drop (k + kk) := by rw [List.drop_drop]; congr 1; omega
        have HRn : Hid (R = (sf ++ [-1 - (f : Int)]) ++ (capG (extL sig) D N' (f + 1) (t.drop (k + kk))).1) := by
          show _ = _
          rw [HR.out, hd9, capG, if_neg hcc, ← hd9, k3, hdd, List.append_assoc]
          rfl
        have HNn : Hid ((t.drop (k + kk)).length ≤ N') := by
          have h9 := HN.out
          rw [hdl] at h9
          show _ ≤ _
          rw [List.length_drop]
          omega
        have HMn : Hid (k + kk = t.length ∨ ∃ m : Int, 1 ≤ m ∧ firstT (extL sig) m (k + kk) (t.drop (k + kk)) = ((t.length : Int), 0)) := by
          by_cases h1 : m = 1
          · exact .inl (by have := k5 h1; omega)
          · refine .inr ⟨m - 1, by omega, ?_⟩
            have h9 := k6 (by omega)
            rw [List.drop_drop] at h9
            rw [h9, hdl]
            congr 1
            omega
        have hcut : t = t.take k ++ ((t.drop k).take kk ++ (t.drop k).drop kk) := by rw [List.take_append_drop, List.take_append_drop]
        have htk : (t.take k).length = k := by rw [List.length_take]; omega
        have hul : ((t.drop k).take kk).length = kk := by rw [List.length_take, hdl]; omega
        have HTm := hid fun W (hW : Below w0.heap.size w0 W) => termAt_any _ _ (extL sig) t (t.take k) ((t.drop k).take kk) ((t.drop k).drop kk) W (HS.out.kp (Kp.of_below (below_step C0.out hW))) (HTt.out.kp (Kp.of_below (below_step C0.out hW))) HA.out hcut k4 (by omega)
        rw [htk] at HTm
        have HK := hid hul
        obtain ⟨ro, rcp, rfl, _, _⟩ := HO2.out.shape
        have hsl3 : (sf ++ [-1 - (f : Int)]).length ≤ k + kk := by rw [List.length_append, List.length_singleton]; omega
        have HL3 := hid hsl3
        have hwf : IntKind.i64.wrap (-1 - (f : Int)) = -1 - (f : Int) := IntWalk.i64_in _ ⟨by omega, by omega⟩
        have hwf2 : IntKind.i64.wrap ((f : Int) + 1) = ((f + 1 : Nat) : Int) := by rw [IntWalk.i64_in _ ⟨by omega, by omega⟩]; omega
        have hwkk : IntKind.i64.wrap ((k : Int) + (kk : Int)) = ((k + kk : Nat) : Int) := by rw [IntWalk.i64_in _ ⟨by omega, by omega⟩]; omega
        obtain ⟨y0, _⟩ := HC.out w3 HB3.out
        clear hr3 ho3 hg3 hd9 hsl3 hB hf9 hdl k3 k4 k5 k6 hdd hcut htk hul
        go_wp2_with (first
          | (at_builtin; refine wpList_append_run rfl _ _ _ rfl _ _ rfl rfl HR3.out ?_)
          | (refine (HTm.out w3 HB3.out).mono ?_; rintro e w4 ⟨v4, rfl, hi4, hw4⟩; have hw5 := hw4.symm; subst hw5; clear hw4; obtain ⟨a4, c4, rfl, _, _, _⟩ := Row.flat hi4; rw [HK.out]; clear hi4))
        go_roundw
        case rel => exact ⟨k + kk, f + 1, N', sf ++ [-1 - (f : Int)], by go_num, by go_num, by omega, by omega, by omega, HO3.out, HL3.out, HNn.out, HRn.out, HMn.out, HB3.out⟩
        case measure => simp only [intOf]; omega
    · have hke : k = t.length := by omega
      have hd : decide ((k : Int) < (t.length : Int)) = false := by rw [decide_eq_false_iff_not]; omega
      have HRn : Hid (R = sf) := by
        show _ = _
        rw [HR.out, hke, List.drop_length, capG_nil, List.append_nil]
      have HOn := hid (HO.out.mono C0.out.size)
      clear hke
      go_wp2
      go_ret
      exact ⟨_, rfl, by rw [HRn.out]; exact HOn.out, Cr.out⟩

end Go.Proofs.YtoapgbaibpkckaaGreatDoor

/- slices.Clone and slices.Reverse at trees and classes of package unify. -/
namespace Go.Proofs.YtoapgbaibpkckaaGreatDoor
open Go.RowKit Go.Maps Go.BigFrame

set_option maxRecDepth 1000000 in
set_option maxHeartbeats 1600000 in
theorem reverseT6_any (v : Value) (vals : List Value) (base : Nat) (w : World) (h : w.ownsRow base 135 1 v vals.length vals) (hif : ∀ u ∈ vals, IfV u) :
    Calls Tryz.prog 142 #[v] w fun e w' => e = .returned (.tuple #[]) ∧ w'.ownsRow base 135 1 v vals.length vals.reverse ∧ w.grownBy w' v.ownBlock := by
  have hsh : ∃ ao cap, v = .slice ao vals.length cap ∧ vals.length ≤ cap ∧ cap ≤ maxLen := by
    rcases h.2 with ⟨rfl, hn⟩ | ⟨g, cap, cur, rfl, hb, hg, hc, hm, hs, ht⟩
    · exact ⟨none, 0, by rw [hn], by omega, by simp [maxLen]⟩
    · exact ⟨_, cap, rfl, hc, hm⟩
  obtain ⟨ao, cap, rfl, hc1, hc2⟩ := hsh
  unfold maxLen at hc2
  have HV := hid h
  have HIf := hid hif
  clear h hif
  have mixed : Tryz.prog.follows .mixedOrders = true := by kernel_rfl
  go_enter Tryz.func142, Tryz.ntmps142
  go_wp2
  go_loopg [2, 3] vals.length (fun k s2 s3 wr => ∃ (i jn : Nat) (jz : Int) (dk : Array Value), s2 = .int .i64 i ∧ s3 = .int .i64 jz ∧ ((i : Int) < jz → jz = jn ∧ jn < vals.length) ∧ (¬ (i : Int) < jz → ¬ i < jn) ∧ jn - i ≤ k ∧
    dk.size = vals.length ∧ (∀ u ∈ dk.toList, IfV u) ∧ wr.ownsRow base 135 1 (.slice ao vals.length cap) vals.length dk.toList ∧ w.grownBy wr (Value.slice ao vals.length cap).ownBlock ∧ Sort.reverseLoop i jn dk = Sort.reverseLoop 0 (vals.length - 1) vals.toArray)
  case atStart => exact ⟨0, vals.length - 1, (vals.length : Int) - 1, vals.toArray, rfl, rfl, fun h => ⟨by omega, by omega⟩, fun h => by omega, by omega, by simp, HIf.out, HV.out, World.grownBy.refl _ _, rfl⟩
  case round =>
    obtain ⟨i, jn, jz, dk, rfl, rfl, h1, h2, hk, hds, hifd, how, hgr, heq⟩ := hrel
    by_cases hlt : (i : Int) < jz
    · obtain ⟨rfl, hjn⟩ := h1 hlt
      have hij : i < jn := by omega
      obtain ⟨g, cp, hv⟩ := own_form (v := .slice ao vals.length cap) how (by omega)
      simp only [Value.slice.injEq] at hv
      obtain ⟨rfl, _, rfl⟩ := hv
      have ci : wr.cell? ⟨g, i, none⟩ = some dk[i]! := by
        rw [World.ownsRow.cellAt how i (by omega)]
        simp [getElem!_pos, show i < dk.size by omega]
      have cj : wr.cell? ⟨g, jn, none⟩ = some dk[jn]! := by
        rw [World.ownsRow.cellAt how jn (by omega)]
        simp [getElem!_pos, show jn < dk.size by omega]
      have fi := World.ownsRow.frozenAt how i
      have fj := World.ownsRow.frozenAt how jn
      have HOw := hid how
      have HGr := hid hgr
      have HEq := hid heq
      have hil : i < vals.length := by omega
      obtain ⟨xi, hxi⟩ : ∃ x, x = dk[i]! := ⟨_, rfl⟩
      obtain ⟨xj, hxj⟩ : ∃ x, x = dk[jn]! := ⟨_, rfl⟩
      rw [← hxi] at ci
      rw [← hxj] at cj
      obtain ⟨ti, yi, hyi⟩ : IfV xi := by rw [hxi, getElem!_pos dk i (by omega)]; exact hifd _ (Array.getElem_mem_toList (by omega))
      obtain ⟨tj, yj, hyj⟩ : IfV xj := by rw [hxj, getElem!_pos dk jn (by omega)]; exact hifd _ (Array.getElem_mem_toList (by omega))
      subst hyi
      subst hyj
      have HXi := hid hxi
      have HXj := hid hxj
      have HIf2 : Hid (∀ u ∈ (Sort.swp dk i jn).toList, IfV u) := fun u hu => hifd u (swp_mem (by omega) (by omega) hu)
      clear hifd
      clear how hgr heq hxi hxj h1 h2
      have hst := (World.ownsRow.stored HOw.out i (.iface tj yj)).1
      have hst2 := (World.ownsRow.stored hst jn (.iface ti yi)).1
      have HS2 : Hid (((wr.setCell ⟨g, i, none⟩ (.iface tj yj)).setCell ⟨g, jn, none⟩ (.iface ti yi)).drew.ownsRow base 135 1 (.slice (some ⟨g, 0, none⟩) vals.length cap) vals.length (Sort.swp dk i jn).toList) := by
        rw [swp_list (by omega) (by omega), ← HXi.out, ← HXj.out]
        exact ownsRow_later hst2 (drawn_below1 _)
      have HG2 : Hid (w.grownBy ((wr.setCell ⟨g, i, none⟩ (.iface tj yj)).setCell ⟨g, jn, none⟩ (.iface ti yi)).drew (some g)) :=
        grown_trans HGr.out (grown_trans (set_grownT wr g i (.iface tj yj)) (grown_trans (set_grownT _ g jn (.iface ti yi)) (grown_of_below (drawn_below1 _) _)))
      clear hst hst2
      go_wp2_with fail
      go_region_o
      go_wp2
      go_roundg (jn - 1 - (i + 1))
      case measure => omega
      case rel =>
        have h9 := HEq.out
        rw [Sort.reverseLoop, if_pos hij] at h9
        exact ⟨i + 1, jn - 1, (jn : Int) - 1, Sort.swp dk i jn, by simp, rfl, fun h => ⟨by omega, by omega⟩, fun h => by omega, Nat.le_refl _, by rw [Sort.size_swp]; exact hds, HIf2.out, HS2.out, HG2.out, h9⟩
    · have hnot := h2 hlt
      have HR : Hid (dk.toList = vals.reverse) := by
        show _ = _
        rw [Sort.reverseLoop, if_neg hnot] at heq
        have h9 := Lib.reverseLoop_reverse vals.toArray
        rw [show vals.toArray.size = vals.length by simp] at h9
        rw [heq, h9]
        simp
      have HOw := hid how
      have HGr := hid hgr
      clear how hgr heq
      go_wp2
      go_end0
      exact ⟨rfl, by rw [← HR.out]; exact HOw.out, HGr.out⟩

end Go.Proofs.YtoapgbaibpkckaaGreatDoor
