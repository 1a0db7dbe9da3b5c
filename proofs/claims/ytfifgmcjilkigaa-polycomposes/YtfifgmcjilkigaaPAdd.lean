/- What Add and Mul answer; and some small calls. -/
import Derived.Test.YtfifgmcjilkigaaPProd
import Derived.Test.YtfifgmcjilkigaaOrder
namespace Go.Proofs.Ytfifgmcjilkigaa
open Go.RowKit Go.Maps

theorem small_of_check {p : List Mn} {vars : Int} (h : checkE p vars = 0) : ∀ (k : Nat) (m : Mn), p[k]? = some m → Small m.2 := by
  intro k m hk
  unfold checkE at h
  split at h
  · omega
  split at h
  · omega
  rename_i hp
  split at h
  · omega
  rename_i hb
  have hk2 := (List.getElem?_eq_some_iff.1 hk).1
  have hp' : polyB p vars = true := by simpa using hp
  have hb' : boundsB p = true := by simpa using hb
  have h1 := polyB_iff.1 hp' k hk2
  unfold okAt at h1
  rw [hk] at h1
  simp only [Bool.and_eq_true] at h1
  have hm := h1.1.1
  unfold monB at hm
  simp only [Bool.and_eq_true, List.all_eq_true, decide_eq_true_eq] at hm
  unfold boundsB at hb'
  simp only [Bool.and_eq_true, List.all_eq_true, decide_eq_true_eq] at hb'
  have hs := hb'.2 m (List.mem_of_getElem? hk)
  unfold smallB at hs
  simp only [Bool.and_eq_true, List.all_eq_true, decide_eq_true_eq] at hs
  exact ⟨hs.1, fun j x hj => ⟨hm.1.2 x (List.mem_of_getElem? hj), hs.2 x (List.mem_of_getElem? hj)⟩⟩

theorem checkAll2 {p q : List Mn} (h : checkAllE [p, q] = 0) : checkE p 9223372036854775807 = 0 ∧ checkE q 9223372036854775807 = 0 := by
  unfold checkAllE at h
  split at h
  · rename_i h1
    unfold checkAllE at h
    split at h
    · rename_i h2
      exact ⟨h1, h2⟩
    · rename_i h2
      exact absurd h h2
  · rename_i h1
    exact absurd h h1

/-- Two rows of monomials as a row of rows. -/
theorem ps2 {w : World} {v u : Value} {p q : List Mn} (h : Ms w v p) (h' : Ms w u q) : Ps (w.alloc (.cells #[v, u] 22)) (.slice (some ⟨w.heap.size, 0, none⟩) 2 2) [p, q] := by
  have hk := Kp.of_below (below_alloc (w := w) (.cells #[v, u] 22))
  refine ⟨_, 2, rfl, by simp, by simp [maxLen], fun _ => ⟨w.heap.size, 0, rfl, by simp, ?_⟩⟩
  intro k x hk2
  have hlt := (List.getElem?_eq_some_iff.1 hk2).1
  match k, hlt with
  | 0, _ =>
    simp only [List.getElem?_cons_zero, Option.some.injEq] at hk2
    subst hk2
    exact ⟨v, by simp, h.kp hk⟩
  | 1, _ =>
    simp only [List.getElem?_cons_succ, List.getElem?_cons_zero, Option.some.injEq] at hk2
    subst hk2
    exact ⟨u, by simp, h'.kp hk⟩

theorem ps1 {w : World} {v : Value} {p : List Mn} (h : Ms w v p) : Ps (w.alloc (.cells #[v] 22)) (.slice (some ⟨w.heap.size, 0, none⟩) 1 1) [p] := by
  have hk := Kp.of_below (below_alloc (w := w) (.cells #[v] 22))
  refine ⟨_, 1, rfl, by simp, by simp [maxLen], fun _ => ⟨w.heap.size, 0, rfl, by simp, ?_⟩⟩
  intro k x hk2
  have hlt := (List.getElem?_eq_some_iff.1 hk2).1
  match k, hlt with
  | 0, _ =>
    simp only [List.getElem?_cons_zero, Option.some.injEq] at hk2
    subst hk2
    exact ⟨v, by simp, h.kp hk⟩

def addPE (p q : List Mn) : Int := if checkAllE [p, q] = 0 then sumE p q else checkAllE [p, q]
def addPL (p q : List Mn) : List Mn := if checkAllE [p, q] = 0 then sumL p q else []
def mulPE (p q : List Mn) : Int := if checkAllE [p, q] = 0 then prodE p q else checkAllE [p, q]
def mulPL (p q : List Mn) : List Mn := if checkAllE [p, q] = 0 then prodL p q else []

set_option maxRecDepth 100000 in
theorem padd_any (v u : Value) (p q : List Mn) (w : World) (h : Ms w v p) (h' : Ms w u q) :
    Calls Try.prog 14 #[v, u] w fun e w' => ∃ v', e = .returned (.tuple #[v', .int .i64 (addPE p q)]) ∧ OM w' w.heap.size v' (addPL p q) ∧ Below w.heap.size w w' := by
  obtain ⟨ao, cap, rfl, _, _, q0⟩ := Row.flat h
  obtain ⟨bo, cap', rfl, _, _, q0'⟩ := Row.flat h'
  have HA : Hid (Ms w (.slice ao p.length cap) p) := h
  have HB : Hid (Ms w (.slice bo q.length cap') q) := h'
  have HP : Hid _ := ps2 h h'
  clear h h' q0 q0'
  go_enter Try.func14, Try.ntmps14
  go_wp2_with fail
  refine (checkAll_any _ [p, q] _ HP.out).mono ?_
  rintro e w1 ⟨rfl, hb1⟩
  have HB1 : Hid (Below w.heap.size w w1) := below_step (below_alloc _) hb1
  obtain ⟨E, hE⟩ : ∃ E, E = checkAllE [p, q] := ⟨_, rfl⟩
  have HE : Hid (E = checkAllE [p, q]) := hE
  rw [← hE]
  clear hE hb1 HP
  by_cases hE0 : E = 0
  · subst hE0
    have hs := checkAll2 HE.out.symm
    go_wp2_with fail
    refine (psum_any _ _ p q _ (HA.out.kp (Kp.of_below HB1.out)) (HB.out.kp (Kp.of_below HB1.out)) (small_of_check hs.1) (small_of_check hs.2)).mono ?_
    rintro e w2 ⟨v', rfl, ho, hb2⟩
    have HO : Hid (OM w2 w.heap.size v' (sumL p q)) := ho.mono HB1.out.size
    have HB2 : Hid (Below w.heap.size w w2) := below_step HB1.out hb2
    obtain ⟨S, hS⟩ : ∃ S, S = sumE p q := ⟨_, rfl⟩
    have HSS : Hid (S = sumE p q) := hS
    rw [← hS]
    clear hS ho hb2
    go_wp2
    go_ret2
    exact ⟨_, ret2i (by unfold addPE; rw [if_pos HE.out.symm]; exact HSS.out), by unfold addPL; rw [if_pos HE.out.symm]; exact HO.out, HB2.out⟩
  · have hb0 : (E != 0) = true := by rw [bne_iff_ne]; exact hE0
    go_wp2
    go_ret2
    exact ⟨_, ret2i (by unfold addPE; rw [if_neg (by rw [← HE.out]; exact hE0)]; exact HE.out), by unfold addPL; rw [if_neg (by rw [← HE.out]; exact hE0)]; exact OM.nil _ _, HB1.out⟩

set_option maxRecDepth 100000 in
theorem pmul_any (v u : Value) (p q : List Mn) (w : World) (h : Ms w v p) (h' : Ms w u q) :
    Calls Try.prog 21 #[v, u] w fun e w' => ∃ v', e = .returned (.tuple #[v', .int .i64 (mulPE p q)]) ∧ OM w' w.heap.size v' (mulPL p q) ∧ Below w.heap.size w w' := by
  obtain ⟨ao, cap, rfl, _, _, q0⟩ := Row.flat h
  obtain ⟨bo, cap', rfl, _, _, q0'⟩ := Row.flat h'
  have HA : Hid (Ms w (.slice ao p.length cap) p) := h
  have HB : Hid (Ms w (.slice bo q.length cap') q) := h'
  have HP : Hid _ := ps2 h h'
  clear h h' q0 q0'
  go_enter Try.func21, Try.ntmps21
  go_wp2_with fail
  refine (checkAll_any _ [p, q] _ HP.out).mono ?_
  rintro e w1 ⟨rfl, hb1⟩
  have HB1 : Hid (Below w.heap.size w w1) := below_step (below_alloc _) hb1
  obtain ⟨E, hE⟩ : ∃ E, E = checkAllE [p, q] := ⟨_, rfl⟩
  have HE : Hid (E = checkAllE [p, q]) := hE
  rw [← hE]
  clear hE hb1 HP
  by_cases hE0 : E = 0
  · subst hE0
    have hs := checkAll2 HE.out.symm
    go_wp2_with fail
    refine (pprod_any _ _ p q _ (HA.out.kp (Kp.of_below HB1.out)) (HB.out.kp (Kp.of_below HB1.out)) (small_of_check hs.1) (small_of_check hs.2)).mono ?_
    rintro e w2 ⟨v', rfl, ho, hb2⟩
    have HO : Hid (OM w2 w.heap.size v' (prodL p q)) := ho.mono HB1.out.size
    have HB2 : Hid (Below w.heap.size w w2) := below_step HB1.out hb2
    obtain ⟨S, hS⟩ : ∃ S, S = prodE p q := ⟨_, rfl⟩
    have HSS : Hid (S = prodE p q) := hS
    rw [← hS]
    clear hS ho hb2
    go_wp2
    go_ret2
    exact ⟨_, ret2i (by unfold mulPE; rw [if_pos HE.out.symm]; exact HSS.out), by unfold mulPL; rw [if_pos HE.out.symm]; exact HO.out, HB2.out⟩
  · have hb0 : (E != 0) = true := by rw [bne_iff_ne]; exact hE0
    go_wp2
    go_ret2
    exact ⟨_, ret2i (by unfold mulPE; rw [if_neg (by rw [← HE.out]; exact hE0)]; exact HE.out), by unfold mulPL; rw [if_neg (by rw [← HE.out]; exact hE0)]; exact OM.nil _ _, HB1.out⟩

/-- How many variables are named. -/
def varsN (p : List Mn) : Nat := p.foldl (fun a m => max a m.2.length) 0

theorem varsN_step {p : List Mn} {k : Nat} {m : Mn} (h : p[k]? = some m) : varsN (p.take (k + 1)) = max (varsN (p.take k)) m.2.length := by
  rw [take_get h]; simp [varsN]

theorem varsN_le {p : List Mn} {B : Nat} (h : ∀ (k : Nat) (m : Mn), p[k]? = some m → m.2.length ≤ B) : ∀ k, varsN (p.take k) ≤ B := by
  intro k
  induction k with
  | zero => simp [varsN]
  | succ k ih =>
    cases hk : p[k]? with
    | none => rw [List.take_add_one, hk]; simpa using ih
    | some m => rw [varsN_step hk]; have := h k m hk; omega

set_option maxRecDepth 100000 in
theorem variables_any (v : Value) (p : List Mn) (w : World) (h : Ms w v p) :
    Calls Try.prog 47 #[v] w fun e w' => e = .returned (.int .i64 (varsN p : Nat)) ∧ Below w.heap.size w w' := by
  obtain ⟨ao, cap, rfl, hao, hca, q0⟩ := Row.flat h
  unfold maxLen at hca
  have HM : Hid (Ms w (.slice ao p.length cap) p) := h
  have HV : Hid (∀ k, varsN (p.take k) ≤ 9223372036854775807) := varsN_le (fun k m hk => by
    obtain ⟨_, _, c, es, _, _, _, _, _, hk2, _, _, _, _, _, h3, h4⟩ := h.at (List.getElem?_eq_some_iff.1 hk).1
    rw [hk] at hk2
    cases hk2
    show es.length ≤ _
    omega)
  clear h q0
  go_enter Try.func47, Try.ntmps47
  go_wp2
  go_loopw [3, 8] (fun x i wr => ∃ k : Nat, k ≤ p.length ∧ i = .int .i64 k ∧ x = .int .i64 (varsN (p.take k) : Nat) ∧ Below w.heap.size w wr) (fun _ i _ => p.length - (intOf i).toNat)
  case atStart => exact ⟨0, by omega, rfl, rfl, Below.refl _ _⟩
  case round =>
    obtain ⟨k, hk, rfl, rfl, hbl⟩ := hrel
    by_cases hlt : k < p.length
    · obtain ⟨g, off, c, es, a1, c1, a2, c2, rfl, hm1, hc0, hc1, hmo, hl1, hl2, hl3, hl4⟩ := (HM.out.kp (Kp.of_below hbl)).at hlt
      have HS : Hid (varsN (p.take (k + 1)) = max (varsN (p.take k)) es.length) := varsN_step hm1
      have HB : Hid (Below w.heap.size w (wr.alloc (.cells #[.slice a1 c.length c1, .slice a2 es.length c2] 46))) := below_step hbl (below_alloc _)
      have hvk := HV.out k
      obtain ⟨V, hV⟩ : ∃ V, V = varsN (p.take k) := ⟨_, rfl⟩
      rw [← hV] at hvk HS ⊢
      clear hm1 hmo hbl hV
      go_wp2
      go_roundw
      case rel => exact ⟨k + 1, by omega, by go_num, congrArg (Value.int .i64) (by rw [HS.out]; omega), HB.out⟩
      case measure => simp [intOf]; omega
    · have hke : k = p.length := by omega
      subst hke
      rw [List.take_of_length_le (Nat.le_refl _)]
      go_wp2
      go_ret
      exact ⟨rfl, hbl⟩

theorem isAbove_any (v u : Value) (xs ys : List Nat) (w : World) (h : Sl w v xs) (h' : Sl w u ys) :
    Calls Try.prog 41 #[v, u] w fun e w' => e = .returned (.bool (decide (0 < cmpV xs ys))) ∧ ∃ n, w' = w.drewN n := by
  go_enter Try.func41, Try.ntmps41
  go_wp2_with (go_at_call 61; refine (cmp_any v u xs ys _ h h').mono ?_; rintro e w' ⟨rfl, n, rfl⟩)
  go_ret
  exact ⟨rfl, _, rfl⟩

end Go.Proofs.Ytfifgmcjilkigaa
