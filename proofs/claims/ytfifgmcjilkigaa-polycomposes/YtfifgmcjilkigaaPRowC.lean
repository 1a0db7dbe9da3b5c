/- The row of likes in bounds is a polynomial that Check lets by: plain data. -/
import Derived.Test.YtfifgmcjilkigaaPCan
namespace Go.Proofs.Ytfifgmcjilkigaa
open Go.RowKit Go.Maps

theorem topK_cons (x : Nat) (a : List Nat) : topK (x :: a) = if topK a = 0 ∧ x = 0 then 0 else topK a + 1 := by
  unfold topK
  rw [List.reverse_cons, List.dropWhile_append]
  by_cases h : (a.reverse.dropWhile (· == 0)).isEmpty = true
  · have h1 : a.reverse.dropWhile (· == 0) = [] := List.isEmpty_iff.1 h
    rw [if_pos h, h1]
    by_cases hx : x = 0
    · subst hx; simp
    · have : (x == 0) = false := by simpa using hx
      simp [List.dropWhile, this, hx]
  · have h1 : ¬ (a.reverse.dropWhile (· == 0)).length = 0 := fun e => h (by rw [List.eq_nil_of_length_eq_zero e]; rfl)
    rw [if_neg h, if_neg (fun hh => h1 hh.1)]
    simp

theorem unX_cons (x : Nat) (a : List Nat) : unX (x :: a) = if topK a = 0 ∧ x = 0 then [] else (x : Int) :: unX a := by
  unfold unX
  rw [topK_cons]
  split
  · rfl
  · rw [List.take_succ_cons, List.map_cons]; rfl

theorem unX_nil_iff (a : List Nat) : unX a = [] ↔ topK a = 0 := by
  cases a with
  | nil => simp [unX, topK]
  | cons x a =>
    rw [unX_cons, topK_cons]
    split
    · simp
    · simp

theorem cmp_trim : ∀ {a b : List Nat}, a.length = b.length → ltK a b → cmpX (unX a) (unX b) < 0
  | [], [], _, h => absurd h (ltK_irrefl _)
  | [], _ :: _, h, _ => by simp at h
  | _ :: _, [], h, _ => by simp at h
  | x :: a, y :: b, hl, h => by
    have hl' : a.length = b.length := by simpa using hl
    unfold ltK cmpK at h
    rw [unX_cons, unX_cons]
    by_cases hxy : x < y
    · rw [if_neg (show ¬ (topK b = 0 ∧ y = 0) by omega)]
      split
      · unfold cmpX; decide
      · unfold cmpX
        rw [if_pos (by omega)]
        decide
    · rw [if_neg hxy] at h
      by_cases hyx : y < x
      · rw [if_pos hyx] at h
        exact absurd h (by decide)
      · rw [if_neg hyx] at h
        have hxe : x = y := by omega
        subst hxe
        have ih := cmp_trim hl' h
        by_cases hb : topK b = 0
        · rw [(unX_nil_iff b).2 hb] at ih
          cases hu : unX a with
          | nil => rw [hu] at ih; exact absurd ih (by decide)
          | cons z r => rw [hu] at ih; exact absurd ih (by unfold cmpX; decide)
        · rw [if_neg (show ¬ (topK b = 0 ∧ x = 0) from fun hh => hb hh.1)]
          split
          · unfold cmpX; decide
          · unfold cmpX
            rw [if_neg (by omega), if_neg (by omega)]
            exact ih

theorem keyX_unX {k : List Nat} (h : k.length = 512) : keyX (unX k) = k := by
  obtain ⟨n, hn⟩ := top_split k
  unfold keyX
  have hlen : (unX k).length = (k.take (topK k)).length := by unfold unX; simp
  have hn2 : 512 - (unX k).length = n := by
    have := congrArg List.length hn
    rw [List.length_append, List.length_replicate, h] at this
    rw [hlen]
    omega
  rw [hn2]
  unfold unX
  rw [map_ofNat]
  exact hn.symm

theorem unX_last (l : List Nat) : (unX l).getLast? ≠ some 0 := by
  induction l with
  | nil => simp [unX]
  | cons x a ih =>
    rw [unX_cons]
    split
    · simp
    · rename_i h
      cases hu : unX a with
      | nil =>
        have := (unX_nil_iff a).1 hu
        simp
        omega
      | cons z r =>
        rw [hu] at ih
        rw [List.getLast?_cons_cons]
        exact ih

theorem St.row {L : Lk} {f : List Nat → Nat} (h : St L f) (ho : OkF f) (hk : ∀ q ∈ L, q.1.length = 512) : Pol (rowL L) ∧ checkE (rowL L) 9223372036854775807 = 0 ∧ tot (ofP (rowL L)) = f := by
  have hmem : ∀ m ∈ rowL L, ∃ q ∈ L, m = (q.2, unX q.1) := by
    intro m hm
    obtain ⟨q, hq, rfl⟩ := List.mem_map.1 hm
    exact ⟨q, hq, rfl⟩
  have hmon : ∀ m ∈ rowL L, monB m = true := by
    intro m hm
    obtain ⟨q, hq, rfl⟩ := hmem m hm
    obtain ⟨h1, h2⟩ := h.right q hq
    have hne : ¬ q.2.length = 0 := fun e => by
      rw [List.eq_nil_of_length_eq_zero e] at h2
      simp [val] at h2
    have hl := unX_last q.1
    rw [List.getLast?_eq_getElem?] at hl
    rw [monB_yes hne h1.right (fun k x hx => by
      unfold unX at hx
      rw [List.getElem?_map] at hx
      cases hy : (q.1.take (topK q.1))[k]? with
      | none => rw [hy] at hx; simp at hx
      | some y => rw [hy] at hx; simp at hx; subst hx; exact Int.natCast_nonneg y)]
    simp only [Bool.or_eq_true, Bool.not_eq_true', beq_eq_false_iff_ne, ne_eq]
    exact .inr hl
  have hsort : SortedX (rowL L) := by
    refine sortedX_of fun k m n hm hn => ?_
    unfold rowL at hm hn
    rw [List.getElem?_map] at hm hn
    cases ha : L[k]? with
    | none => rw [ha] at hm; simp at hm
    | some a =>
      cases hb : L[k + 1]? with
      | none => rw [hb] at hn; simp at hn
      | some b =>
        rw [ha] at hm
        rw [hb] at hn
        simp at hm hn
        subst hm; subst hn
        have hr := h.rising
        unfold Rising at hr
        rw [List.pairwise_iff_getElem] at hr
        obtain ⟨i1, e1⟩ := List.getElem?_eq_some_iff.1 ha
        obtain ⟨i2, e2⟩ := List.getElem?_eq_some_iff.1 hb
        have hlt := hr k (k + 1) i1 i2 (by omega)
        rw [e1, e2] at hlt
        exact cmp_trim (by rw [hk a (List.mem_of_getElem? ha), hk b (List.mem_of_getElem? hb)]) hlt
  have hsm : ∀ m ∈ rowL L, m.2.length ≤ 512 ∧ ∀ n ∈ m.2, n ≤ 64 := by
    intro m hm
    obtain ⟨q, hq, rfl⟩ := hmem m hm
    refine ⟨?_, fun n hn => ?_⟩
    · unfold unX
      have := hk q hq
      simp only [List.length_map, List.length_take]
      omega
    · simp only at hn
      unfold unX at hn
      obtain ⟨x, hx, rfl⟩ := List.mem_map.1 hn
      have := ho.2.1 q.1 ((h.mem q).1 hq).1 x (List.mem_of_mem_take hx)
      exact Int.ofNat_le.2 this
  have hlim : ∀ m ∈ rowL L, Lim m.1 := by
    intro m hm
    obtain ⟨q, hq, rfl⟩ := hmem m hm
    simp only
    rw [(h.right q hq).1.1]
    exact limbs_lim _
  have hlen : (rowL L).length ≤ 256 := by unfold rowL; rw [List.length_map]; exact ho.len h
  refine ⟨⟨hlim, hmon, hsort, hsm, hlen⟩, (check_iff (by omega)).2 ⟨polyB_iff.2 fun k hkk => ?_, ?_⟩, ?_⟩
  · unfold okAt
    rw [List.getElem?_eq_getElem hkk]
    have hm := List.getElem_mem hkk
    simp only [Bool.and_eq_true, decide_eq_true_eq, Bool.or_eq_true, beq_iff_eq]
    refine ⟨⟨hmon _ hm, ?_⟩, ?_⟩
    · have := (hsm _ hm).1
      omega
    · by_cases h0 : k = 0
      · exact .inl h0
      · right
        have h1 : k - 1 < (rowL L).length := by omega
        have hs : ∀ {p : List Mn}, SortedX p → ∀ k m n, p[k]? = some m → p[k + 1]? = some n → cmpX m.2 n.2 < 0 := by
          intro p
          induction p with
          | nil => intro _ k m n hm; simp at hm
          | cons a r ih =>
            intro hs k m n hm hn
            cases k with
            | zero =>
              simp at hm
              subst hm
              exact hs.head (by simpa using hn)
            | succ k => exact ih hs.tail k m n (by simpa using hm) (by simpa using hn)
        unfold expsAt
        rw [List.getElem?_eq_getElem hkk, List.getElem?_eq_getElem h1]
        exact hs hsort (k - 1) _ _ (List.getElem?_eq_getElem h1) (by rw [show k - 1 + 1 = k by omega]; exact List.getElem?_eq_getElem hkk)
  · unfold boundsB smallB
    simp only [Bool.and_eq_true, decide_eq_true_eq, List.all_eq_true]
    exact ⟨hlen, hsm⟩
  · funext k
    have key : ∀ {M : Lk}, Rising M → (∀ q ∈ M, q.1.length = 512) → tot (ofP (rowL M)) k = val (coefK M k) := by
      intro M
      induction M with
      | nil => intro _ _; rfl
      | cons q M ih =>
        intro hr hk2
        have hr' := hr
        unfold Rising at hr
        rw [List.pairwise_cons] at hr
        have e : ofP (rowL (q :: M)) = (keyX (unX q.1), val q.2) :: ofP (rowL M) := rfl
        rw [e, tot, ih hr.2 (fun x hx => hk2 x (List.mem_cons_of_mem _ hx)), keyX_unX (hk2 q (by simp))]
        by_cases hq : q.1 = k
        · subst hq
          rw [if_pos rfl, coefK_head]
          have : coefK M q.1 = [] := by
            refine coefK_none ?_
            rw [Bool.eq_false_iff]
            intro hh
            obtain ⟨d, hd⟩ := hasK_iff.1 hh
            exact ltK_irrefl q.1 (hr.1 (q.1, d) hd)
          rw [this]
          simp [val]
        · rw [if_neg hq, coefK_tail (fun e => hq e.symm), Nat.zero_add]
    rw [key h.rising hk, h.tots k]

end Go.Proofs.Ytfifgmcjilkigaa
