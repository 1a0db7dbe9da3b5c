/- Texts of the proof, one behind the other. -/
import Derived.Test.YtdjmjhlbjcgoiaaGreatDoorOwn10
import Derived.Test.YtdjmjhlbjcgoiaaGreatDoorOwn8
/- The row of likes in bounds is a polynomial that Check lets by: plain data. -/
namespace Go.Proofs.YtdjmjhlbjcgoiaaGreatDoor
open Go.RowKit Go.Maps

theorem topK_cons (x : Nat) (a : List Nat) : topK (x :: a) = if topK a = 0 ∧ x = 0 then 0 else topK a + 1 := by
  unfold topK
  rw [List.reverse_cons, List.dropWhile_append]
  by_cases h : (a.reverse.dropWhile (· == 0)).isEmpty = true
  · have h1 : a.reverse.dropWhile (· == 0) = [] := List.isEmpty_iff.1 h
    rw [if_pos h, h1]
    by_cases hx : x = 0
    · subst hx; simp
    · have : (x == 0) = false := by simpa using hx
      simp [List.dropWhile, this, hx]
  · have h1 : ¬ (a.reverse.dropWhile (· == 0)).length = 0 := fun e => h (by rw [List.eq_nil_of_length_eq_zero e]; rfl)
    rw [if_neg h, if_neg (fun hh => h1 hh.1)]
    simp

theorem unX_cons (x : Nat) (a : List Nat) : unX (x :: a) = if topK a = 0 ∧ x = 0 then [] else (x : Int) :: unX a := by
  unfold unX
  rw [topK_cons]
  split
  · rfl
  · rw [List.take_succ_cons, List.map_cons]; rfl

theorem unX_nil_iff (a : List Nat) : unX a = [] ↔ topK a = 0 := by
  cases a with
  | nil => simp [unX, topK]
  | cons x a =>
    rw [unX_cons, topK_cons]
    split
    · simp
    · simp

theorem cmp_trim : ∀ {a b : List Nat}, a.length = b.length → ltK a b → cmpX (unX a) (unX b) < 0
  | [], [], _, h => absurd h (ltK_irrefl _)
  | [], _ :: _, h, _ => by simp at h
  | _ :: _, [], h, _ => by simp at h
  | x :: a, y :: b, hl, h => by
    have hl' : a.length = b.length := by simpa using hl
    unfold ltK cmpK at h
    rw [unX_cons, unX_cons]
    by_cases hxy : x < y
    · rw [if_neg (show ¬ (topK b = 0 ∧ y = 0) by omega)]
      split
      · unfold cmpX; decide
      · unfold cmpX
        rw [if_pos (by omega)]
        decide
    · rw [if_neg hxy] at h
      by_cases hyx : y < x
      · rw [if_pos hyx] at h
        exact absurd h (by decide)
      · rw [if_neg hyx] at h
        have hxe : x = y := by omega
        subst hxe
        have ih := cmp_trim hl' h
        by_cases hb : topK b = 0
        · rw [(unX_nil_iff b).2 hb] at ih
          cases hu : unX a with
          | nil => rw [hu] at ih; exact absurd ih (by decide)
          | cons z r => rw [hu] at ih; exact absurd ih (by unfold cmpX; decide)
        · rw [if_neg (show ¬ (topK b = 0 ∧ x = 0) from fun hh => hb hh.1)]
          split
          · unfold cmpX; decide
          · unfold cmpX
            rw [if_neg (by omega), if_neg (by omega)]
            exact ih

theorem keyX_unX {k : List Nat} (h : k.length = 512) : keyX (unX k) = k := by
  obtain ⟨n, hn⟩ := top_split k
  unfold keyX
  have hlen : (unX k).length = (k.take (topK k)).length := by unfold unX; simp
  have hn2 : 512 - (unX k).length = n := by
    have := congrArg List.length hn
    rw [List.length_append, List.length_replicate, h] at this
    rw [hlen]
    omega
  rw [hn2]
  unfold unX
  rw [map_ofNat]
  exact hn.symm

theorem unX_last (l : List Nat) : (unX l).getLast? ≠ some 0 := by
  induction l with
  | nil => simp [unX]
  | cons x a ih =>
    rw [unX_cons]
    split
    · simp
    · rename_i h
      cases hu : unX a with
      | nil =>
        have := (unX_nil_iff a).1 hu
        simp
        omega
      | cons z r =>
        rw [hu] at ih
        rw [List.getLast?_cons_cons]
        exact ih

theorem StY.row {L : LkY} {f : List Nat → Nat} (h : StY L f) (ho : OkF f) (hk : ∀ q ∈ L, q.1.length = 512) : Pol (rowLY L) ∧ checkE (rowLY L) 9223372036854775807 = 0 ∧ tot (ofP (rowLY L)) = f := by
  have hmem : ∀ m ∈ rowLY L, ∃ q ∈ L, m = (q.2, unX q.1) := by
    intro m hm
    obtain ⟨q, hq, rfl⟩ := List.mem_map.1 hm
    exact ⟨q, hq, rfl⟩
  have hmon : ∀ m ∈ rowLY L, monB m = true := by
    intro m hm
    obtain ⟨q, hq, rfl⟩ := hmem m hm
    obtain ⟨h1, h2⟩ := h.right q hq
    have hne : ¬ q.2.length = 0 := fun e => by
      rw [List.eq_nil_of_length_eq_zero e] at h2
      simp [val] at h2
    have hl := unX_last q.1
    rw [List.getLast?_eq_getElem?] at hl
    rw [monB_yes hne h1.right (fun k x hx => by
      unfold unX at hx
      rw [List.getElem?_map] at hx
      cases hy : (q.1.take (topK q.1))[k]? with
      | none => rw [hy] at hx; simp at hx
      | some y => rw [hy] at hx; simp at hx; subst hx; exact Int.natCast_nonneg y)]
    simp only [Bool.or_eq_true, Bool.not_eq_true', beq_eq_false_iff_ne, ne_eq]
    exact .inr hl
  have hsort : SortedX (rowLY L) := by
    refine sortedX_of fun k m n hm hn => ?_
    unfold rowLY at hm hn
    rw [List.getElem?_map] at hm hn
    cases ha : L[k]? with
    | none => rw [ha] at hm; simp at hm
    | some a =>
      cases hb : L[k + 1]? with
      | none => rw [hb] at hn; simp at hn
      | some b =>
        rw [ha] at hm
        rw [hb] at hn
        simp at hm hn
        subst hm; subst hn
        have hr := h.rising
        unfold Rising at hr
        rw [List.pairwise_iff_getElem] at hr
        obtain ⟨i1, e1⟩ := List.getElem?_eq_some_iff.1 ha
        obtain ⟨i2, e2⟩ := List.getElem?_eq_some_iff.1 hb
        have hlt := hr k (k + 1) i1 i2 (by omega)
        rw [e1, e2] at hlt
        exact cmp_trim (by rw [hk a (List.mem_of_getElem? ha), hk b (List.mem_of_getElem? hb)]) hlt
  have hsm : ∀ m ∈ rowLY L, m.2.length ≤ 512 ∧ ∀ n ∈ m.2, n ≤ 64 := by
    intro m hm
    obtain ⟨q, hq, rfl⟩ := hmem m hm
    refine ⟨?_, fun n hn => ?_⟩
    · unfold unX
      have := hk q hq
      simp only [List.length_map, List.length_take]
      omega
    · simp only at hn
      unfold unX at hn
      obtain ⟨x, hx, rfl⟩ := List.mem_map.1 hn
      have := ho.2.1 q.1 ((h.mem q).1 hq).1 x (List.mem_of_mem_take hx)
      exact Int.ofNat_le.2 this
  have hlim : ∀ m ∈ rowLY L, Lim m.1 := by
    intro m hm
    obtain ⟨q, hq, rfl⟩ := hmem m hm
    simp only
    rw [(h.right q hq).1.1]
    exact limbs_lim _
  have hlen : (rowLY L).length ≤ 256 := by unfold rowLY; rw [List.length_map]; exact ho.len h
  refine ⟨⟨hlim, hmon, hsort, hsm, hlen⟩, (check_iff (by omega)).2 ⟨polyB_iff.2 fun k hkk => ?_, ?_⟩, ?_⟩
  · unfold okAt
    rw [List.getElem?_eq_getElem hkk]
    have hm := List.getElem_mem hkk
    simp only [Bool.and_eq_true, decide_eq_true_eq, Bool.or_eq_true, beq_iff_eq]
    refine ⟨⟨hmon _ hm, ?_⟩, ?_⟩
    · have := (hsm _ hm).1
      omega
    · by_cases h0 : k = 0
      · exact .inl h0
      · right
        have h1 : k - 1 < (rowLY L).length := by omega
        have hs : ∀ {p : List Mn}, SortedX p → ∀ k m n, p[k]? = some m → p[k + 1]? = some n → cmpX m.2 n.2 < 0 := by
          intro p
          induction p with
          | nil => intro _ k m n hm; simp at hm
          | cons a r ih =>
            intro hs k m n hm hn
            cases k with
            | zero =>
              simp at hm
              subst hm
              exact hs.head (by simpa using hn)
            | succ k => exact ih hs.tail k m n (by simpa using hm) (by simpa using hn)
        unfold expsAt
        rw [List.getElem?_eq_getElem hkk, List.getElem?_eq_getElem h1]
        exact hs hsort (k - 1) _ _ (List.getElem?_eq_getElem h1) (by rw [show k - 1 + 1 = k by omega]; exact List.getElem?_eq_getElem hkk)
  · unfold boundsB smallB
    simp only [Bool.and_eq_true, decide_eq_true_eq, List.all_eq_true]
    exact ⟨hlen, hsm⟩
  · funext k
    have key : ∀ {M : LkY}, Rising M → (∀ q ∈ M, q.1.length = 512) → tot (ofP (rowLY M)) k = val (coefK M k) := by
      intro M
      induction M with
      | nil => intro _ _; rfl
      | cons q M ih =>
        intro hr hk2
        have hr' := hr
        unfold Rising at hr
        rw [List.pairwise_cons] at hr
        have e : ofP (rowLY (q :: M)) = (keyX (unX q.1), val q.2) :: ofP (rowLY M) := rfl
        rw [e, tot, ih hr.2 (fun x hx => hk2 x (List.mem_cons_of_mem _ hx)), keyX_unX (hk2 q (by simp))]
        by_cases hq : q.1 = k
        · subst hq
          rw [if_pos rfl, coefK_head]
          have : coefK M q.1 = [] := by
            refine coefK_none ?_
            rw [Bool.eq_false_iff]
            intro hh
            obtain ⟨d, hd⟩ := hasK_iff.1 hh
            exact ltK_irrefl q.1 (hr.1 (q.1, d) hd)
          rw [this]
          simp [val]
        · rw [if_neg hq, coefK_tail (fun e => hq e.symm), Nat.zero_add]
    rw [key h.rising hk, h.tots k]

end Go.Proofs.YtdjmjhlbjcgoiaaGreatDoor

/- Sums and products by their totals: plain data. -/
namespace Go.Proofs.YtdjmjhlbjcgoiaaGreatDoor
open Go.RowKit Go.Maps

theorem cmpX_anti : ∀ {a b : List Int}, cmpX a b < 0 → ¬ cmpX b a < 0
  | [], [], h => by simp [cmpX] at h
  | [], _ :: _, _ => by unfold cmpX; decide
  | _ :: _, [], h => by unfold cmpX at h; exact absurd h (by decide)
  | x :: a, y :: b, h => by
    unfold cmpX at h ⊢
    by_cases h1 : x < y
    · rw [if_neg (by omega), if_pos h1]
      decide
    · rw [if_neg h1] at h
      by_cases h2 : y < x
      · rw [if_pos h2] at h
        exact absurd h (by decide)
      · rw [if_neg h2] at h
        rw [if_neg h2, if_neg h1]
        exact cmpX_anti h

theorem monB_partsX {m : Mn} (h : monB m = true) : m.2.length = 0 ∨ ¬ m.2[m.2.length - 1]? = some 0 := by
  obtain ⟨c, es⟩ := m
  simp only [monB, Bool.and_eq_true, List.all_eq_true, decide_eq_true_eq, Bool.or_eq_true, Bool.not_eq_true', beq_eq_false_iff_ne, ne_eq, beq_iff_eq] at h
  exact h.2

theorem unX_key {m : Mn} (h : monB m = true) (hs : Small m.2) : unX (keyX m.2) = m.2 := by
  have hm := (monB_partsX h)
  refine unX_keyX hs.1 (fun k x hx => (hs.2 k x hx).1) ?_
  by_cases h0 : m.2.length = 0
  · exact .inl h0
  · right
    have hlt : m.2.length - 1 < m.2.length := by omega
    refine ⟨m.2[m.2.length - 1], List.getElem?_eq_getElem hlt, fun e => ?_⟩
    rcases hm with h1 | h1
    · exact h0 h1
    · exact h1 (by rw [List.getElem?_eq_getElem hlt, e])

theorem key_lt {m n : Mn} (hm : monB m = true) (hn : monB n = true) (sm : Small m.2) (sn : Small n.2) (h : cmpX m.2 n.2 < 0) : ltK (keyX m.2) (keyX n.2) := by
  by_cases e : keyX m.2 = keyX n.2
  · have e2 : m.2 = n.2 := by rw [← unX_key hm sm, ← unX_key hn sn, e]
    rw [e2, cmpX_self] at h
    exact absurd h (by decide)
  · by_cases hlt : ltK (keyX m.2) (keyX n.2)
    · exact hlt
    · have h2 := cmp_trim (by rw [keyX_len sm.1, keyX_len sn.1]) (ltK_or e hlt)
      rw [unX_key hm sm, unX_key hn sn] at h2
      exact absurd h2 (cmpX_anti h)

theorem sorted_lt : ∀ {p : List Mn}, Pol p → (p.map fun m => ((keyX m.2, m.1) : List Nat × List Nat)).Pairwise (fun a b => ltK a.1 b.1)
  | [], _ => List.Pairwise.nil
  | m :: p, h => by
    have hp : Pol p := ⟨fun n hn => h.lim n (List.mem_cons_of_mem _ hn), fun n hn => h.mon n (List.mem_cons_of_mem _ hn), h.sort.tail, fun n hn => h.small n (List.mem_cons_of_mem _ hn), by have := h.len; simp at this; omega⟩
    have ih := sorted_lt hp
    rw [List.map_cons, List.pairwise_cons]
    refine ⟨?_, ih⟩
    cases p with
    | nil => intro q hq; simp at hq
    | cons n p =>
      have h1 : ltK (keyX m.2) (keyX n.2) := key_lt (h.mon m (by simp)) (h.mon n (by simp)) (h.dom 0 m rfl) (h.dom 1 n rfl) h.sort.1
      intro q hq
      rw [List.map_cons, List.pairwise_cons] at ih
      rw [List.map_cons] at hq
      rcases List.mem_cons.1 hq with rfl | hq
      · exact h1
      · exact ltK_trans h1 (ih.1 q hq)

/-- A polynomial that Check lets by is the row of its totals. -/
theorem Pol.st {p : List Mn} (h : Pol p) : ∃ L, StY L (tot (ofP p)) ∧ (∀ q ∈ L, q.1.length = 512) ∧ rowLY L = p ∧ OkF (tot (ofP p)) := by
  have hr : Rising (p.map fun m => ((keyX m.2, m.1) : List Nat × List Nat)) := sorted_lt h
  have hrow : rowLY (p.map fun m => ((keyX m.2, m.1) : List Nat × List Nat)) = p := by
    unfold rowLY
    rw [List.map_map]
    conv => rhs; rw [← List.map_id p]
    refine List.map_congr_left fun m hm => ?_
    obtain ⟨k, hk⟩ := List.mem_iff_getElem?.1 hm
    have := unX_key (h.mon m hm) (h.dom k m hk)
    simp only [Function.comp, id]
    rw [this]
  have hlen : ∀ q ∈ p.map fun m => ((keyX m.2, m.1) : List Nat × List Nat), q.1.length = 512 := by
    intro q hq
    obtain ⟨m, hm, rfl⟩ := List.mem_map.1 hq
    obtain ⟨k, hk⟩ := List.mem_iff_getElem?.1 hm
    exact keyX_len (h.dom k m hk).1
  have htot : ∀ k, val (coefK (p.map fun m => ((keyX m.2, m.1) : List Nat × List Nat)) k) = tot (ofP p) k := by
    intro k
    have key : ∀ {M : LkY}, Rising M → tot (ofL M) k = val (coefK M k) := by
      intro M
      induction M with
      | nil => intro _; rfl
      | cons q M ih =>
        intro hr2
        unfold Rising at hr2
        rw [List.pairwise_cons] at hr2
        have e : ofL (q :: M) = (q.1, val q.2) :: ofL M := rfl
        rw [e, tot, ih hr2.2]
        by_cases hq : q.1 = k
        · subst hq
          rw [if_pos rfl, coefK_head]
          have : coefK M q.1 = [] := by
            refine coefK_none ?_
            rw [Bool.eq_false_iff]
            intro hh
            obtain ⟨d, hd⟩ := hasK_iff.1 hh
            exact ltK_irrefl q.1 (hr2.1 (q.1, d) hd)
          rw [this]
          simp [val]
        · rw [if_neg hq, coefK_tail (fun e => hq e.symm), Nat.zero_add]
    rw [← key hr]
    congr 1
    unfold ofL ofP
    rw [List.map_map]
    rfl
  have hst : StY (p.map fun m => ((keyX m.2, m.1) : List Nat × List Nat)) (tot (ofP p)) := by
    refine ⟨hr, fun q hq => ?_, htot⟩
    obtain ⟨m, hm, rfl⟩ := List.mem_map.1 hq
    obtain ⟨g1, g2, g3, _⟩ := h.good hm
    exact ⟨RtY.of g1 g2, val_pos g1 g2 g3⟩
  refine ⟨_, hst, hlen, hrow, hst.ok (by rw [List.length_map]; exact h.len) fun k hk x hx => ?_⟩
  obtain ⟨q, hq, rfl⟩ := List.mem_map.1 ((hst.keys k).2 hk)
  obtain ⟨m, hm, rfl⟩ := List.mem_map.1 hq
  obtain ⟨i, hi⟩ := List.mem_iff_getElem?.1 hm
  obtain ⟨j, hj⟩ := List.mem_iff_getElem?.1 hx
  exact keyX_le (h.dom i m hi) j x hj

/-- Where a sum is in bounds, and what it is then. -/
theorem sum_spec {p q : List Mn} (hp : Pol p) (hq : Pol q) :
    (sumE p q = 0 ∧ OkF (fun k => tot (ofP p) k + tot (ofP q) k) ∧ ∃ L, StY L (fun k => tot (ofP p) k + tot (ofP q) k) ∧ sumL p q = rowLY L) ∨ (sumE p q = 2 ∧ ¬ OkF (fun k => tot (ofP p) k + tot (ofP q) k) ∧ sumL p q = []) := by
  obtain ⟨_, _, _, _, hop⟩ := hp.st
  have h1 := puts_spec (fun m hm => hp.good hm) hp.dom StY.nil okF_zero
  simp only [Nat.zero_add] at h1
  rcases h1 with ⟨e1, _, s1⟩ | ⟨_, hno⟩
  · have h2 := puts_spec (fun m hm => hq.good hm) hq.dom s1 hop
    rcases h2 with ⟨e2, ho2, s2⟩ | ⟨e2, hno2⟩
    · have e : sumE p q = 0 := by unfold sumE; rw [if_pos e1]; exact e2
      exact .inl ⟨e, ho2, _, s2, by unfold sumL; rw [if_pos e]⟩
    · have e : sumE p q = 2 := by unfold sumE; rw [if_pos e1]; exact e2
      exact .inr ⟨e, hno2, by unfold sumL; rw [if_neg (by rw [e]; decide)]⟩
  · exact absurd hop hno

end Go.Proofs.YtdjmjhlbjcgoiaaGreatDoor

/- Sums and products: their laws, by their totals: plain data. -/
namespace Go.Proofs.YtdjmjhlbjcgoiaaGreatDoor
open Go.RowKit Go.Maps

/-- Each once. -/
def dd : List (List Nat) → List (List Nat)
  | [] => []
  | a :: l => if a ∈ dd l then dd l else a :: dd l

theorem mem_dd : ∀ {l : List (List Nat)} {x : List Nat}, x ∈ dd l ↔ x ∈ l
  | [], x => by simp [dd]
  | a :: l, x => by
    unfold dd
    split
    · rename_i h
      rw [mem_dd, List.mem_cons]
      constructor
      · exact .inr
      · rintro (rfl | hx)
        · exact mem_dd.1 h
        · exact hx
    · rw [List.mem_cons, List.mem_cons, mem_dd]

theorem nodup_dd : ∀ l : List (List Nat), (dd l).Nodup
  | [] => List.Pairwise.nil
  | a :: l => by
    unfold dd
    split
    · exact nodup_dd l
    · rename_i h
      exact List.nodup_cons.2 ⟨h, nodup_dd l⟩

/-- A sum of terms, each times what a key is worth. -/
def wsum (G : List Nat → Nat) : Tm → Nat
  | [] => 0
  | t :: l => t.2 * G t.1 + wsum G l

def ksum (F : List Nat → Nat) : List (List Nat) → Nat
  | [] => 0
  | k :: K => F k + ksum F K

theorem ksum_add (F G : List Nat → Nat) : ∀ K, ksum (fun k => F k + G k) K = ksum F K + ksum G K
  | [] => rfl
  | k :: K => by unfold ksum; rw [ksum_add F G K]; omega

theorem ksum_none {c : Nat} {a : List Nat} {G : List Nat → Nat} : ∀ {K : List (List Nat)}, a ∉ K → ksum (fun k => (if a = k then c else 0) * G k) K = 0
  | [], _ => rfl
  | k :: K, h => by
    rw [List.mem_cons, not_or] at h
    unfold ksum
    rw [if_neg h.1, ksum_none h.2]
    simp

theorem ksum_one {c : Nat} {a : List Nat} {G : List Nat → Nat} : ∀ {K : List (List Nat)}, K.Nodup → a ∈ K → ksum (fun k => (if a = k then c else 0) * G k) K = c * G a
  | [], _, h => by cases h
  | k :: K, hn, h => by
    rw [List.nodup_cons] at hn
    unfold ksum
    by_cases e : a = k
    · subst e
      rw [if_pos rfl, ksum_none hn.1, Nat.add_zero]
    · rw [if_neg e, ksum_one hn.2 ((List.mem_cons.1 h).resolve_left e)]
      omega

theorem ksum_zero (G : List Nat → Nat) : ∀ K, ksum (fun k => 0 * G k) K = 0
  | [] => rfl
  | k :: K => by unfold ksum; rw [ksum_zero G K]; omega

theorem wsum_ksum (G : List Nat → Nat) {K : List (List Nat)} (hn : K.Nodup) : ∀ {l : Tm}, (∀ t ∈ l, t.1 ∈ K) → wsum G l = ksum (fun k => tot l k * G k) K
  | [], _ => (ksum_zero G K).symm
  | t :: l, h => by
    have e : (fun k => tot (t :: l) k * G k) = fun k => (if t.1 = k then t.2 else 0) * G k + tot l k * G k := by
      funext k
      rw [tot, Nat.add_mul]
    rw [wsum, e, ksum_add, ksum_one hn (h t (by simp)), wsum_ksum G hn fun u hu => h u (List.mem_cons_of_mem _ hu)]

/-- Such a sum goes by the totals alone. -/
theorem wsum_congr (G : List Nat → Nat) {l l' : Tm} (h : tot l = tot l') : wsum G l = wsum G l' := by
  have hm : ∀ t ∈ l ++ l', t.1 ∈ dd ((l ++ l').map (·.1)) := fun t ht => mem_dd.2 (List.mem_map.2 ⟨t, ht, rfl⟩)
  rw [wsum_ksum G (nodup_dd _) fun t ht => hm t (List.mem_append_left _ ht), wsum_ksum G (nodup_dd _) fun t ht => hm t (List.mem_append_right _ ht), h]

theorem tot_scale (a : List Nat) (c : Nat) (k : List Nat) : ∀ r : Tm, tot (r.map fun u => (addK a u.1, c * u.2)) k = c * tot (r.map fun u => (addK a u.1, u.2)) k
  | [] => rfl
  | u :: r => by
    rw [List.map_cons, List.map_cons, tot, tot, tot_scale a c k r, Nat.mul_add]
    simp only
    split
    · rfl
    · simp

theorem tot_mul (r : Tm) (k : List Nat) : ∀ l : Tm, tot (mulT l r) k = wsum (fun a => tot (r.map fun u => (addK a u.1, u.2)) k) l
  | [] => rfl
  | t :: l => by rw [mulT_cons, tot_append, tot_mul r k l, wsum, tot_scale]

theorem mul_congr_left {l l' r : Tm} (h : tot l = tot l') : tot (mulT l r) = tot (mulT l' r) := by
  funext k
  rw [tot_mul, tot_mul, wsum_congr _ h]

theorem addK_comm (a b : List Nat) : addK a b = addK b a := by
  unfold addK
  rw [List.zipWith_comm]
  congr 1
  funext x y
  omega

theorem addK_assoc : ∀ (a b c : List Nat), addK (addK a b) c = addK a (addK b c)
  | [], b, c => by cases b <;> cases c <;> rfl
  | _ :: _, [], c => by cases c <;> rfl
  | _ :: _, _ :: _, [] => rfl
  | x :: a, y :: b, z :: c => by
    have ih := addK_assoc a b c
    unfold addK at ih ⊢
    simp only [List.zipWith_cons_cons]
    rw [ih, Nat.add_assoc]

theorem mulT_cons_right (t : List Nat × Nat) (l : Tm) (k : List Nat) : ∀ r : Tm, tot (mulT r (t :: l)) k = tot (r.map fun u => (addK u.1 t.1, u.2 * t.2)) k + tot (mulT r l) k
  | [] => rfl
  | u :: r => by
    rw [mulT_cons, mulT_cons, tot_append, tot_append, mulT_cons_right t l k r, List.map_cons, List.map_cons, tot, tot]
    omega

theorem mulT_nil_right : ∀ r : Tm, mulT r [] = []
  | [] => rfl
  | u :: r => by rw [mulT_cons, mulT_nil_right r]; rfl

theorem mul_comm_tot : ∀ l r : Tm, tot (mulT l r) = tot (mulT r l)
  | [], r => by rw [mulT_nil_right]; rfl
  | t :: l, r => by
    funext k
    rw [mulT_cons, tot_append, mulT_cons_right, mul_comm_tot l r]
    congr 2
    refine List.map_congr_left fun u _ => ?_
    rw [addK_comm, Nat.mul_comm]

theorem mul_congr_right {l r r' : Tm} (h : tot r = tot r') : tot (mulT l r) = tot (mulT l r') := by
  rw [mul_comm_tot l r, mul_comm_tot l r', mul_congr_left h]

theorem mulT_append (l l' r : Tm) : mulT (l ++ l') r = mulT l r ++ mulT l' r := by
  unfold mulT
  rw [List.flatMap_append]

theorem mulT_map (t : List Nat × Nat) (c : Tm) : ∀ b : Tm, mulT (b.map fun u => (addK t.1 u.1, t.2 * u.2)) c = (mulT b c).map fun u => (addK t.1 u.1, t.2 * u.2)
  | [] => rfl
  | u :: b => by
    rw [List.map_cons, mulT_cons, mulT_cons, List.map_append, mulT_map t c b, List.map_map]
    congr 1
    refine List.map_congr_left fun v _ => ?_
    simp only [Function.comp]
    rw [addK_assoc, Nat.mul_assoc]

theorem mulT_assoc (b c : Tm) : ∀ a : Tm, mulT (mulT a b) c = mulT a (mulT b c)
  | [] => rfl
  | t :: a => by rw [mulT_cons, mulT_append, mulT_assoc b c a, mulT_map, mulT_cons]

theorem keysLe_puts : ∀ {p : List Mn} {L : LkY}, DomM p → KeysLe L → KeysLe (puts L p).1
  | [], L, _, h => h
  | m :: p, L, hd, h => by
    have hk : (keyX m.2).length = 512 ∧ ∀ x ∈ keyX m.2, x ≤ 64 := ⟨keyX_len (hd 0 m rfl).1, fun x hx => by
      obtain ⟨j, hj⟩ := List.mem_iff_getElem?.1 hx
      exact keyX_le (hd 0 m rfl) j x hj⟩
    unfold puts
    split
    · exact keysLe_puts (fun k x hx => hd (k + 1) x hx) (keysLe_putL h hk)
    · exact keysLe_putL h hk

theorem keysLe_nil : KeysLe [] := fun q hq => by cases hq

/-- What the totals of a sum in bounds make. -/
theorem sum_yes {p q : List Mn} (hp : Pol p) (hq : Pol q) (ho : OkF (fun k => tot (ofP p) k + tot (ofP q) k)) : sumE p q = 0 ∧ Pol (sumL p q) ∧ checkE (sumL p q) 9223372036854775807 = 0 ∧ tot (ofP (sumL p q)) = fun k => tot (ofP p) k + tot (ofP q) k := by
  rcases sum_spec hp hq with ⟨e, _, L, hs, hr⟩ | ⟨_, hno, _⟩
  · have hL : L = (puts (puts [] p).1 q).1 := by
      have e1 : sumL p q = rowLY (puts (puts [] p).1 q).1 := by unfold sumL; rw [if_pos e]
      have h0 : (puts [] p).2 = 0 := by
        unfold sumE at e
        split at e
        · assumption
        · rename_i h1; exact absurd e h1
      have h1 := puts_spec (fun m hm => hp.good hm) hp.dom StY.nil okF_zero
      simp only [Nat.zero_add] at h1
      rcases h1 with ⟨_, o1, s1⟩ | ⟨e2, _⟩
      · have h2 := puts_spec (fun m hm => hq.good hm) hq.dom s1 o1
        rcases h2 with ⟨_, _, s2⟩ | ⟨_, hno⟩
        · exact hs.eq s2
        · exact absurd ho hno
      · rw [h0] at e2; exact absurd e2 (by decide)
    have hk : ∀ x ∈ L, x.1.length = 512 := fun x hx => (keysLe_puts hq.dom (keysLe_puts hp.dom keysLe_nil) x (hL ▸ hx)).1
    obtain ⟨r1, r2, r3⟩ := hs.row ho hk
    rw [hr]
    exact ⟨e, r1, r2, r3⟩
  · exact absurd ho hno

theorem sum_no {p q : List Mn} (hp : Pol p) (hq : Pol q) (ho : ¬ OkF (fun k => tot (ofP p) k + tot (ofP q) k)) : sumE p q = 2 ∧ sumL p q = [] := by
  rcases sum_spec hp hq with ⟨_, h, _⟩ | ⟨e, _, h⟩
  · exact absurd h ho
  · exact ⟨e, h⟩

theorem prod_yes {p q : List Mn} (hp : Pol p) (hq : Pol q) (ho : OkF (tot (mulT (ofP p) (ofP q)))) : prodE p q = 0 ∧ Pol (prodL p q) ∧ checkE (prodL p q) 9223372036854775807 = 0 ∧ tot (ofP (prodL p q)) = tot (mulT (ofP p) (ofP q)) := by
  have h := prods_spec (fun n hn => hq.good hn) hq.dom (fun m hm => hp.good hm) hp.dom StY.nil okF_zero
  simp only [Nat.zero_add] at h
  rcases h with ⟨e, _, hs⟩ | ⟨_, hno⟩
  · have hk : ∀ x ∈ (prods q [] p).1, x.1.length = 512 := fun x hx => (keysLe_prods hq.dom hp.dom keysLe_nil x hx).1
    obtain ⟨r1, r2, r3⟩ := hs.row ho hk
    have e2 : prodE p q = 0 := e
    have e3 : prodL p q = rowLY (prods q [] p).1 := by unfold prodL; rw [if_pos e2]
    rw [e3]
    exact ⟨e, r1, r2, r3⟩
  · exact absurd ho hno

theorem prod_no {p q : List Mn} (hp : Pol p) (hq : Pol q) (ho : ¬ OkF (tot (mulT (ofP p) (ofP q)))) : prodE p q = 2 ∧ prodL p q = [] := by
  rcases prod_spec hp hq with ⟨_, h, _⟩ | ⟨e, _, h⟩
  · exact absurd h ho
  · exact ⟨e, h⟩

/-- The totals fix the polynomial. -/
theorem Pol.eq {p q : List Mn} (hp : Pol p) (hq : Pol q) (h : tot (ofP p) = tot (ofP q)) : p = q := by
  obtain ⟨L, s1, _, r1, _⟩ := hp.st
  obtain ⟨M, s2, _, r2, _⟩ := hq.st
  rw [← h] at s2
  rw [← r1, ← r2, s1.eq s2]

theorem sum_ok_iff {p q : List Mn} (hp : Pol p) (hq : Pol q) : sumE p q = 0 ↔ OkF (fun k => tot (ofP p) k + tot (ofP q) k) := by
  constructor
  · intro h
    apply Classical.byContradiction
    intro hn
    rw [(sum_no hp hq hn).1] at h
    exact absurd h (by decide)
  · intro h; exact (sum_yes hp hq h).1

theorem prod_ok_iff {p q : List Mn} (hp : Pol p) (hq : Pol q) : prodE p q = 0 ↔ OkF (tot (mulT (ofP p) (ofP q))) := by
  constructor
  · intro h
    apply Classical.byContradiction
    intro hn
    rw [(prod_no hp hq hn).1] at h
    exact absurd h (by decide)
  · intro h; exact (prod_yes hp hq h).1

theorem addP_of {p q : List Mn} (hp : checkE p 9223372036854775807 = 0) (hq : checkE q 9223372036854775807 = 0) : addPE p q = sumE p q ∧ addPL p q = sumL p q ∧ mulPE p q = prodE p q ∧ mulPL p q = prodL p q := by
  have h := checkAll2_iff.2 ⟨hp, hq⟩
  unfold addPE addPL mulPE mulPL
  rw [if_pos h, if_pos h, if_pos h, if_pos h]
  exact ⟨rfl, rfl, rfl, rfl⟩

theorem addP_no {p q : List Mn} (h : ¬ (checkE p 9223372036854775807 = 0 ∧ checkE q 9223372036854775807 = 0)) : ¬ addPE p q = 0 ∧ addPL p q = [] ∧ ¬ mulPE p q = 0 ∧ mulPL p q = [] := by
  have h2 : ¬ checkAllE [p, q] = 0 := fun hh => h (checkAll2_iff.1 hh)
  unfold addPE addPL mulPE mulPL
  rw [if_neg h2, if_neg h2, if_neg h2, if_neg h2]
  exact ⟨h2, rfl, h2, rfl⟩

/-- A polynomial that Check lets by. -/
def Ch (p : List Mn) : Prop := Pol p ∧ checkE p 9223372036854775807 = 0

theorem Ch.add {p q : List Mn} (hp : Ch p) (hq : Ch q) (h : addPE p q = 0) : Ch (addPL p q) := by
  obtain ⟨a1, a2, _, _⟩ := addP_of hp.2 hq.2
  rw [a1] at h
  obtain ⟨_, b2, b3, _⟩ := sum_yes hp.1 hq.1 ((sum_ok_iff hp.1 hq.1).1 h)
  rw [a2]
  exact ⟨b2, b3⟩

theorem Ch.mul {p q : List Mn} (hp : Ch p) (hq : Ch q) (h : mulPE p q = 0) : Ch (mulPL p q) := by
  obtain ⟨_, _, a1, a2⟩ := addP_of hp.2 hq.2
  rw [a1] at h
  obtain ⟨_, b2, b3, _⟩ := prod_yes hp.1 hq.1 ((prod_ok_iff hp.1 hq.1).1 h)
  rw [a2]
  exact ⟨b2, b3⟩

end Go.Proofs.YtdjmjhlbjcgoiaaGreatDoor

/- What the document's Check answers is what Check answers: plain data. -/
namespace Go.Proofs.YtdjmjhlbjcgoiaaGreatDoor
open Go.RowKit Go.Maps

/-- The document's order, from the front on. -/
def ordN : List Int → Int
  | [] => 0
  | b :: fs => if 0 < b then -1 else if b < 0 then 1 else ordN fs

def ordZ : List Int → List Int → Int
  | [], fs => ordN fs
  | a :: es, [] => if a < 0 then -1 else if 0 < a then 1 else ordZ es []
  | a :: es, b :: fs => if a < b then -1 else if b < a then 1 else ordZ es fs

theorem ordGo_eq (es fs : List Int) : ∀ n k, max es.length fs.length - k = n → ordGo es fs n k = ordZ (es.drop k) (fs.drop k) := by
  intro n
  induction n with
  | zero =>
    intro k hk
    rw [List.drop_of_length_le (by omega), List.drop_of_length_le (by omega)]
    rfl
  | succ n ih =>
    intro k hk
    rw [ordGo, ih (k + 1) (by omega)]
    by_cases h1 : k < es.length
    · have e1 : expI es k = es[k] := by unfold expI; rw [List.getElem?_eq_getElem h1]; rfl
      rw [List.drop_eq_getElem_cons h1, e1]
      by_cases h2 : k < fs.length
      · have e2 : expI fs k = fs[k] := by unfold expI; rw [List.getElem?_eq_getElem h2]; rfl
        rw [List.drop_eq_getElem_cons h2, e2]
        rfl
      · have e2 : expI fs k = 0 := by unfold expI; rw [List.getElem?_eq_none (by omega)]; rfl
        rw [e2, List.drop_of_length_le (show fs.length ≤ k by omega), List.drop_of_length_le (show fs.length ≤ k + 1 by omega)]
        rfl
    · have e1 : expI es k = 0 := by unfold expI; rw [List.getElem?_eq_none (by omega)]; rfl
      have h2 : k < fs.length := by omega
      have e2 : expI fs k = fs[k] := by unfold expI; rw [List.getElem?_eq_getElem h2]; rfl
      rw [e1, e2, List.drop_eq_getElem_cons h2, List.drop_of_length_le (show es.length ≤ k by omega), List.drop_of_length_le (show es.length ≤ k + 1 by omega)]
      rfl

theorem ordX_eq (es fs : List Int) : ordX es fs = ordZ es fs := by
  unfold ordX
  rw [ordGo_eq es fs _ 0 (by omega)]
  rfl

/-- Exponents as a monomial has them. -/
def RightX (es : List Int) : Prop := (∀ x ∈ es, 0 ≤ x) ∧ es.getLast? ≠ some 0

theorem RightX.tail {a : Int} {es : List Int} (h : RightX (a :: es)) (hne : es ≠ []) : RightX es :=
  ⟨fun x hx => h.1 x (List.mem_cons_of_mem _ hx), by have := h.2; rwa [List.getLast?_cons_of_ne_nil hne] at this⟩

theorem ordZ_nil_left : ∀ {fs : List Int}, RightX fs → fs ≠ [] → ordN fs = -1
  | [], _, h => absurd rfl h
  | b :: fs, h, _ => by
    unfold ordN
    have hb := h.1 b (by simp)
    by_cases h0 : 0 < b
    · rw [if_pos h0]
    · have hb0 : b = 0 := by omega
      subst hb0
      rw [if_neg (by omega), if_neg (by omega)]
      have hne : fs ≠ [] := by rintro rfl; exact h.2 rfl
      exact ordZ_nil_left (h.tail hne) hne

theorem ordZ_nil_right : ∀ {fs : List Int}, RightX fs → fs ≠ [] → ordZ fs [] = 1
  | [], _, h => absurd rfl h
  | b :: fs, h, _ => by
    unfold ordZ
    have hb := h.1 b (by simp)
    by_cases h0 : 0 < b
    · rw [if_neg (by omega), if_pos h0]
    · have hb0 : b = 0 := by omega
      subst hb0
      rw [if_neg (by omega), if_neg (by omega)]
      have hne : fs ≠ [] := by rintro rfl; exact h.2 rfl
      exact ordZ_nil_right (h.tail hne) hne

theorem ordZ_cmpX : ∀ {es fs : List Int}, (es = [] ∨ RightX es) → (fs = [] ∨ RightX fs) → ordZ es fs = cmpX es fs
  | [], [], _, _ => rfl
  | [], b :: fs, _, h => by show ordN (b :: fs) = _; rw [ordZ_nil_left (h.resolve_left (by simp)) (by simp)]; rfl
  | a :: es, [], h, _ => by rw [ordZ_nil_right (h.resolve_left (by simp)) (by simp)]; rfl
  | a :: es, b :: fs, h, h' => by
    have h1 := h.resolve_left (by simp)
    have h2 := h'.resolve_left (by simp)
    unfold ordZ cmpX
    split
    · rfl
    · split
      · rfl
      · refine ordZ_cmpX ?_ ?_
        · by_cases he : es = []
          · exact .inl he
          · exact .inr (h1.tail he)
        · by_cases he : fs = []
          · exact .inl he
          · exact .inr (h2.tail he)

theorem monB_parts {m : Mn} (h : monB m = true) : m.1 ≠ [] ∧ rightB m.1 = true ∧ (m.2 = [] ∨ RightX m.2) := by
  obtain ⟨c, es⟩ := m
  simp only [monB, Bool.and_eq_true, List.all_eq_true, decide_eq_true_eq, Bool.or_eq_true, Bool.not_eq_true', beq_eq_false_iff_ne, ne_eq, beq_iff_eq] at h
  obtain ⟨⟨⟨h1, h2⟩, h3⟩, h4⟩ := h
  refine ⟨fun e => h1 (by simp only at e; rw [e]; rfl), h2, ?_⟩
  by_cases he : es = []
  · exact .inl he
  · refine .inr ⟨h3, ?_⟩
    rcases h4 with h4 | h4
    · exact absurd (List.eq_nil_of_length_eq_zero h4) he
    · rw [List.getLast?_eq_getElem?]
      exact h4

theorem ordX_cmpX {m n : Mn} (h : monB m = true) (h' : monB n = true) : ordX m.2 n.2 = cmpX m.2 n.2 := by
  rw [ordX_eq]
  exact ordZ_cmpX (monB_parts h).2.2 (monB_parts h').2.2

/-- Whether the monomial of that number is right where it stands, as the document's Check asks it. -/
def okR (p : List Mn) (vars : Int) (k : Nat) : Bool :=
  (match p[k]? with | some m => monB m && decide ((m.2.length : Int) ≤ vars) | none => false) && (k == 0 || decide (ordX (expsAt p (k - 1)) (expsAt p k) < 0))

def polyR (p : List Mn) (vars : Int) : Bool := (List.range p.length).all (okR p vars)

theorem polyR_iff {p : List Mn} {vars : Int} : polyR p vars = true ↔ ∀ k, k < p.length → okR p vars k = true := by
  simp [polyR, List.all_eq_true]

def checkR (p : List Mn) (vars : Int) : Int := if vars < 0 then 1 else if polyR p vars = false then 20 else if p.all smallR = false then 2 else if p.length ≤ 256 then 0 else 2

theorem polyR_eq (p : List Mn) (vars : Int) : polyR p vars = polyB p vars := by
  have key : (∀ k, k < p.length → ∃ m, p[k]? = some m ∧ monB m = true) → ∀ k, k < p.length → okR p vars k = okAt p vars k := by
    intro hm k hk
    unfold okR okAt
    by_cases h0 : k = 0
    · subst h0
      obtain ⟨m, h1, _⟩ := hm 0 hk
      rw [h1]
      simp
    · obtain ⟨m, h1, h2⟩ := hm k hk
      obtain ⟨n, h3, h4⟩ := hm (k - 1) (by omega)
      have e : ordX (expsAt p (k - 1)) (expsAt p k) = cmpX (expsAt p (k - 1)) (expsAt p k) := by
        unfold expsAt
        rw [h1, h3]
        exact ordX_cmpX h4 h2
      rw [e, h1]
  have mon1 : (∀ k, k < p.length → okR p vars k = true) → ∀ k, k < p.length → ∃ m, p[k]? = some m ∧ monB m = true := by
    intro h k hk
    have := h k hk
    unfold okR at this
    rw [List.getElem?_eq_getElem hk] at this ⊢
    simp only [Bool.and_eq_true] at this
    exact ⟨_, rfl, this.1.1⟩
  have mon2 : (∀ k, k < p.length → okAt p vars k = true) → ∀ k, k < p.length → ∃ m, p[k]? = some m ∧ monB m = true := by
    intro h k hk
    have := h k hk
    unfold okAt at this
    rw [List.getElem?_eq_getElem hk] at this ⊢
    simp only [Bool.and_eq_true] at this
    exact ⟨_, rfl, this.1.1⟩
  rw [Bool.eq_iff_iff, polyR_iff, polyB_iff]
  exact ⟨fun h k hk => (key (mon1 h) k hk) ▸ h k hk, fun h k hk => (key (mon2 h) k hk).symm ▸ h k hk⟩

theorem polyB_mon {p : List Mn} {vars : Int} (h : polyB p vars = true) {m : Mn} (hm : m ∈ p) : monB m = true := by
  obtain ⟨k, hk⟩ := List.mem_iff_getElem?.1 hm
  have := polyB_iff.1 h k (List.getElem?_eq_some_iff.1 hk).1
  unfold okAt at this
  rw [hk] at this
  simp only [Bool.and_eq_true] at this
  exact this.1.1

theorem smallR_eq {m : Mn} (h : monB m = true) : smallR m = smallB m := by
  have := length_le_of_right (monB_parts h).2.1
  unfold smallR smallB
  rw [decide_eq_true this, Bool.true_and, Bool.and_comm]

theorem all_congr' {α : Type} {p : List α} {f g : α → Bool} (h : ∀ x ∈ p, f x = g x) : p.all f = p.all g := by
  rw [Bool.eq_iff_iff, List.all_eq_true, List.all_eq_true]
  exact ⟨fun H x hx => h x hx ▸ H x hx, fun H x hx => (h x hx).symm ▸ H x hx⟩

theorem checkR_eq (p : List Mn) (vars : Int) : checkR p vars = checkE p vars := by
  unfold checkR checkE
  rw [polyR_eq]
  split
  · rfl
  · cases hp : polyB p vars
    · rfl
    · rw [all_congr' (fun m hm => smallR_eq (polyB_mon hp hm))]
      simp only [Bool.true_eq_false, if_false]
      unfold boundsB
      by_cases h : p.length ≤ 256
      · rw [decide_eq_true h, Bool.true_and, if_pos h]
      · rw [decide_eq_false h, Bool.false_and, if_neg h]
        split <;> rfl

end Go.Proofs.YtdjmjhlbjcgoiaaGreatDoor

/- The document's laid, as a plain function, is a put: plain data. -/
namespace Go.Proofs.YtdjmjhlbjcgoiaaGreatDoor
open Go.RowKit Go.Maps

/-- A monomial laid into a row: none, where a sum of limbs is too big. -/
def lay (m : Mn) : List Mn → Bool → Option (List Mn)
  | [], done => some (if done then [] else [m])
  | x :: r, done =>
    if ordX m.2 x.2 = 0 then
      if addE x.1 m.1 = 0 then (lay m r true).map (fun t => (addL x.1 m.1, m.2) :: t) else none
    else if ordX m.2 x.2 < 0 ∧ done = false then (lay m r true).map (fun t => m :: x :: t)
    else (lay m r done).map (fun t => x :: t)

theorem lay_done {m : Mn} : ∀ {r : List Mn}, (∀ x ∈ r, ¬ ordX m.2 x.2 = 0) → lay m r true = some r
  | [], _ => rfl
  | x :: r, h => by
    unfold lay
    rw [if_neg (h x (by simp)), if_neg (fun hh => (by simp at hh)), lay_done fun y hy => h y (List.mem_cons_of_mem _ hy)]
    rfl

theorem cmpX_zero : ∀ {a b : List Int}, cmpX a b = 0 → a = b
  | [], [], _ => rfl
  | [], _ :: _, h => by unfold cmpX at h; exact absurd h (by decide)
  | _ :: _, [], h => by unfold cmpX at h; exact absurd h (by decide)
  | x :: a, y :: b, h => by
    unfold cmpX at h
    by_cases h1 : x < y
    · rw [if_pos h1] at h; exact absurd h (by decide)
    · rw [if_neg h1] at h
      by_cases h2 : y < x
      · rw [if_pos h2] at h; exact absurd h (by decide)
      · rw [if_neg h2] at h
        rw [cmpX_zero h, show x = y by omega]

/-- Which of a key and a monomial comes first. -/
theorem ord_key {m : Mn} {q : List Nat × List Nat} (hm : monB m = true) (sm : Small m.2) (hq : monB (q.2, unX q.1) = true) (hl : q.1.length = 512) :
    (ordX m.2 (unX q.1) = 0 ↔ keyX m.2 = q.1) ∧ (ordX m.2 (unX q.1) < 0 ↔ ltK (keyX m.2) q.1) := by
  have e : ordX m.2 (unX q.1) = cmpX m.2 (unX q.1) := ordX_cmpX (n := (q.2, unX q.1)) hm hq
  have hk := keyX_len sm.1
  have hu := unX_key hm sm
  rw [e]
  refine ⟨⟨fun h => ?_, fun h => ?_⟩, ⟨fun h => ?_, fun h => ?_⟩⟩
  · rw [cmpX_zero h, keyX_unX hl]
  · rw [← h, hu, cmpX_self]
  · by_cases e1 : keyX m.2 = q.1
    · rw [← e1, hu, cmpX_self] at h
      exact absurd h (by decide)
    · by_cases h2 : ltK (keyX m.2) q.1
      · exact h2
      · have h3 := cmp_trim (by rw [hk, hl]) (ltK_or e1 h2)
        rw [hu] at h3
        exact absurd h3 (cmpX_anti h)
  · have h3 := cmp_trim (by rw [hk, hl]) h
    rw [hu] at h3
    exact h3

theorem add_nil {c : List Nat} {n : Nat} (h : RtY c n) : addE [] c = 0 ∧ addL [] c = c := by
  obtain ⟨h1, h2⟩ := add_ok rt_nil h (by rw [Nat.zero_add]; exact h.2)
  rw [Nat.zero_add] at h2
  exact ⟨h1, h2.inj h⟩

theorem lay_rowY {m : Mn} (hm : monB m = true) (sm : Small m.2) (hr : ∃ n, RtY m.1 n) : ∀ {L : LkY}, Rising L → (∀ q ∈ L, q.1.length = 512 ∧ monB (q.2, unX q.1) = true) →
    lay m (rowLY L) false = if addE (coefK L (keyX m.2)) m.1 = 0 then some (rowLY (insK L (keyX m.2) (addL (coefK L (keyX m.2)) m.1))) else none
  | [], _, _ => by
    obtain ⟨n, hn⟩ := hr
    obtain ⟨h1, h2⟩ := add_nil hn
    have e : coefK [] (keyX m.2) = [] := rfl
    rw [e, if_pos h1, h2]
    have e2 : unX (keyX m.2) = m.2 := unX_key hm sm
    simp [lay, rowLY, insK, e2]
  | q :: L, hL, hk => by
    have hL' := hL
    unfold Rising at hL
    rw [List.pairwise_cons] at hL
    obtain ⟨hl, hmq⟩ := hk q (by simp)
    obtain ⟨o1, o2⟩ := ord_key hm sm hmq hl
    have hu := unX_key hm sm
    have erow : rowLY (q :: L) = (q.2, unX q.1) :: rowLY L := rfl
    have hrest : (keyX m.2 = q.1 ∨ ltK (keyX m.2) q.1) → lay m (rowLY L) true = some (rowLY L) := by
      intro hle
      refine lay_done fun x hx => ?_
      obtain ⟨q2, hq2, rfl⟩ := List.mem_map.1 hx
      obtain ⟨hl2, hm2⟩ := hk q2 (List.mem_cons_of_mem _ hq2)
      obtain ⟨p1, _⟩ := ord_key hm sm hm2 hl2
      intro e
      have e1 := p1.1 e
      have h1 := hL.1 q2 hq2
      rcases hle with h2 | h2
      · rw [← h2, e1] at h1
        exact ltK_irrefl _ h1
      · have h3 := ltK_trans h2 h1
        rw [e1] at h3
        exact ltK_irrefl _ h3
    rw [erow]
    unfold lay
    simp only
    by_cases h1 : keyX m.2 = q.1
    · rw [if_pos (o1.2 h1), hrest (.inl h1)]
      have ec : coefK (q :: L) (keyX m.2) = q.2 := by rw [h1]; exact coefK_head
      rw [ec]
      unfold insK
      rw [if_pos h1]
      split
      · simp only [Option.map_some, rowLY, List.map_cons, hu]
      · rfl
    · rw [if_neg (fun hh => h1 (o1.1 hh))]
      by_cases h2 : ltK (keyX m.2) q.1
      · rw [if_pos ⟨o2.2 h2, trivial⟩, hrest (.inr h2)]
        have hn : hasK (q :: L) (keyX m.2) = false := by
          rw [Bool.eq_false_iff]
          intro h
          rw [hasK_iff] at h
          obtain ⟨c', h⟩ := h
          rcases List.mem_cons.1 h with h | h
          · exact h1 (by rw [← h])
          · exact ltK_irrefl _ (ltK_trans h2 (hL.1 _ h))
        obtain ⟨n, hn2⟩ := hr
        obtain ⟨a1, a2⟩ := add_nil hn2
        rw [coefK_none hn, if_pos a1, a2]
        unfold insK
        rw [if_neg h1, if_pos h2]
        simp only [Option.map_some, rowLY, List.map_cons, hu]
      · rw [if_neg (fun hh => h2 (o2.1 hh.1)), lay_rowY hm sm hr hL.2 fun x hx => hk x (List.mem_cons_of_mem _ hx), coefK_tail h1]
        rw [show insK (q :: L) (keyX m.2) (addL (coefK L (keyX m.2)) m.1) = q :: insK L (keyX m.2) (addL (coefK L (keyX m.2)) m.1) by rw [insK, if_neg h1, if_neg h2]]
        split
        · simp only [Option.map_some, rowLY, List.map_cons]
        · rfl

end Go.Proofs.YtdjmjhlbjcgoiaaGreatDoor

/- The document's Add, AtLeast and Greater as plain functions: plain data. -/
namespace Go.Proofs.YtdjmjhlbjcgoiaaGreatDoor
open Go.RowKit Go.Maps

/-- The document's laid. -/
def laidR (p : List Mn) (m : Mn) : Option (List Mn) :=
  if smallR m = true then (match lay m p false with | none => none | some r => if r.length ≤ 256 then some r else none) else none

/-- The document's sum of a row and the monomials of another. -/
def addR : List Mn → List Mn → Option (List Mn)
  | out, [] => some out
  | out, m :: q => match laidR out m with | none => none | some r => addR r q

theorem rowL_length (L : LkY) : (rowLY L).length = L.length := by unfold rowLY; rw [List.length_map]

theorem small_of {m : Mn} (h : monB m = true) (hs : Small m.2) : smallR m = true := by
  rw [smallR_eq h]
  unfold smallB
  rw [Bool.and_eq_true, decide_eq_true_eq, List.all_eq_true]
  refine ⟨hs.1, fun x hx => ?_⟩
  obtain ⟨j, hj⟩ := List.mem_iff_getElem?.1 hx
  rw [decide_eq_true_eq]
  exact (hs.2 j x hj).2

/-- A monomial laid is a monomial put. -/
theorem laidR_put {L : LkY} {f : List Nat → Nat} {m : Mn} (hs : StY L f) (ho : OkF f) (hk : KeysLe L) (hmb : monB m = true) (hsm : Small m.2) (hrt : ∃ n, RtY m.1 n) :
    laidR (rowLY L) m = if putE L (keyX m.2) m.1 = 0 then some (rowLY (putL L (keyX m.2) m.1)) else none := by
  have hk512 : ∀ x ∈ L, x.1.length = 512 := fun x hx => (hk x hx).1
  obtain ⟨hpol, _, _⟩ := hs.row ho hk512
  have hlay := lay_rowY hmb hsm hrt hs.rising (fun x hx => ⟨hk512 x hx, hpol.mon _ (List.mem_map.2 ⟨x, hx, rfl⟩)⟩)
  unfold laidR
  rw [if_pos (small_of hmb hsm), hlay]
  unfold putE putL
  by_cases ha : addE (coefK L (keyX m.2)) m.1 = 0
  · rw [if_pos ha, if_pos ha, if_pos ha]
    simp only [rowL_length]
    by_cases hl : (insK L (keyX m.2) (addL (coefK L (keyX m.2)) m.1)).length ≤ 256
    · rw [if_pos hl, if_pos hl, if_pos rfl]
    · rw [if_neg hl, if_neg hl, if_neg (by decide)]
  · rw [if_neg ha, if_neg ha, if_neg ha]

theorem small_key {es : List Int} (h : Small es) : (keyX es).length = 512 ∧ ∀ x ∈ keyX es, x ≤ 64 := by
  refine ⟨keyX_len h.1, fun x hx => ?_⟩
  obtain ⟨j, hj⟩ := List.mem_iff_getElem?.1 hx
  exact keyX_le h j x hj

/-- Monomials laid one after the other are monomials put one after the other. -/
theorem addR_puts : ∀ {q : List Mn} {L : LkY} {f : List Nat → Nat}, (∀ m ∈ q, GoodM m ∧ monB m = true) → DomM q → StY L f → OkF f → KeysLe L →
    addR (rowLY L) q = if (puts L q).2 = 0 then some (rowLY (puts L q).1) else none
  | [], L, f, _, _, _, _, _ => by simp [addR, puts]
  | m :: q, L, f, hg, hd, hs, ho, hk => by
    obtain ⟨⟨g1, g2, g3, g4⟩, hmb⟩ := hg m (by simp)
    have hsm : Small m.2 := hd 0 m rfl
    have hrt : RtY m.1 (val m.1) := RtY.of g1 g2
    have hk64 := small_key hsm
    have hk2 : KeysLe (putL L (keyX m.2) m.1) := keysLe_putL hk hk64
    unfold addR puts
    rw [laidR_put hs ho hk hmb hsm ⟨_, hrt⟩]
    rcases put_spec (k := keyX m.2) (c := m.1) (n := val m.1) hs hrt (val_pos g1 g2 g3) hk64.2 ho.2.1 with ⟨e, ho2, hs2⟩ | ⟨e, _⟩
    · rw [if_pos e, if_pos e]
      exact addR_puts (fun n hn => hg n (List.mem_cons_of_mem _ hn)) (fun k x hx => hd (k + 1) x hx) hs2 ho2 hk2
    · rw [e]
      simp

theorem Pol.both {p : List Mn} (hp : Pol p) : ∀ m ∈ p, GoodM m ∧ monB m = true := fun m hm => ⟨hp.good hm, hp.mon m hm⟩

theorem addR_eq {p q : List Mn} (hp : Pol p) (hq : Pol q) : addR p q = if sumE p q = 0 then some (sumL p q) else none := by
  obtain ⟨L, hs, hk, hr, ho⟩ := hp.st
  have h1 := puts_spec (fun m hm => hp.good hm) hp.dom StY.nil okF_zero
  simp only [Nat.zero_add] at h1
  rcases h1 with ⟨e1, _, s1⟩ | ⟨_, hno⟩
  · have eL : L = (puts [] p).1 := hs.eq s1
    have h2 := addR_puts hq.both hq.dom s1 ho (keysLe_puts hp.dom keysLe_nil)
    rw [← eL, hr] at h2
    rw [h2, eL]
    unfold sumL sumE
    rw [if_pos e1]
    by_cases h0 : (puts (puts [] p).1 q).2 = 0
    · rw [if_pos h0, if_pos h0, if_pos h0]
    · rw [if_neg h0, if_neg h0]
  · exact absurd ho hno

def Gm (m : Mn) : Prop := monB m = true ∧ Small m.2

end Go.Proofs.YtdjmjhlbjcgoiaaGreatDoor

/- What the document's adding and multiplying answer. -/
namespace Go.Proofs.YtdjmjhlbjcgoiaaGreatDoor
open Go.RowKit

theorem carry_zero {a b z P C : Nat} (ha : a < P) (hb : b < P) (h : z + P * 4294967296 * C = a + b) : C = 0 := by
  apply Nat.eq_zero_of_not_pos
  intro hpos
  have h5 : P * 4294967296 ≤ P * 4294967296 * C := Nat.le_mul_of_pos_right _ hpos
  generalize P * 4294967296 * C = Q at h h5
  omega

theorem add_carry {xs ys Z : List Nat} {M C : Nat} (hx : Lim xs) (hy : Lim ys) (hxl : xs.length ≤ M) (hyl : ys.length ≤ M) (h : val Z + 4294967296 ^ (M + 1) * C = val xs + val ys) : val Z = val xs + val ys := by
  have h1 := Nat.lt_of_lt_of_le (val_lt hx) (Nat.pow_le_pow_right (by decide) hxl)
  have h2 := Nat.lt_of_lt_of_le (val_lt hy) (Nat.pow_le_pow_right (by decide) hyl)
  rw [Nat.pow_succ] at h
  have hC := carry_zero h1 h2 h
  rw [hC, Nat.mul_zero, Nat.add_zero] at h
  exact h

theorem take_all {xs : List Nat} {k : Nat} (h : ¬ k < xs.length) : xs.take (k + 1) = xs.take k := by rw [List.take_of_length_le (by omega), List.take_of_length_le (by omega)]

theorem val_take_snoc {xs : List Nat} {k x : Nat} (h : xs[k]? = some x) : val (xs.take (k + 1)) = val (xs.take k) + 4294967296 ^ k * x := by
  have hk := (List.getElem?_eq_some_iff.1 h).1
  rw [take_snoc? h, val_snoc, List.length_take, Nat.min_eq_left (by omega)]

theorem val_take_all {xs : List Nat} {k : Nat} (h : ¬ k < xs.length) : val (xs.take (k + 1)) = val (xs.take k) + 4294967296 ^ k * 0 := by rw [take_all h]; simp

set_option maxRecDepth 100000 in
set_option maxHeartbeats 1600000 in
theorem refAdd_any (v u : Value) (xs ys : List Nat) (w : World) (h : Sl w v xs) (h' : Sl w u ys) :
    Calls Tryz.prog 197 #[v, u] w fun e w' => ∃ v', e = .returned (.tuple #[v', .int .i64 (addE xs ys)]) ∧ Ow w' w.heap.size v' (addL xs ys) ∧ Below w.heap.size w w' := by
  obtain ⟨i0, hi, hz0, hz1, hz2⟩ := info_parts info_u32
  go_enter Tryz.func197, Tryz.ntmps197
  go_wp2_with fail
  refine (refRight_anyY v xs _ h).mono ?_
  rintro e w1 ⟨rfl, rfl⟩
  cases hr : rightB xs
  · go_wp2
    go_ret2
    exact ⟨_, ret2i (by simp [addE, hr]), by simp [addL, hr]; exact Ow.nil _ _, Below.refl _ _⟩
  go_wp2_with fail
  refine (refRight_anyY u ys _ h').mono ?_
  rintro e w1 ⟨rfl, rfl⟩
  cases hr' : rightB ys
  · go_wp2
    go_ret2
    exact ⟨_, ret2i (by simp [addE, hr']), by simp [addL, hr']; exact Ow.nil _ _, Below.refl _ _⟩
  have h64 := length_le_of_right hr
  have h64' := length_le_of_right hr'
  have HE : Hid (addE xs ys = resE (val xs + val ys)) := by show _ = _; simp [addE, hr, hr']
  have HLL : Hid (addL xs ys = resL (val xs + val ys)) := by show _ = _; simp [addL, hr, hr']
  obtain ⟨ao, cap, rfl, hao, hca, q1⟩ := h.flat
  obtain ⟨bo, cap', rfl, hbo, hcb, q2⟩ := h'.flat
  unfold maxLen at hca hcb
  have HS : Hid (Sl w1 (.slice ao xs.length cap) xs) := h
  have HS' : Hid (Sl w1 (.slice bo ys.length cap') ys) := h'
  clear h h' hr hr' q1 q2
  obtain ⟨N, hN⟩ : ∃ N : Nat, max (xs.length : Int) (ys.length : Int) = (N : Int) := ⟨max xs.length ys.length, by omega⟩
  have hN1 : xs.length ≤ N := by omega
  have hN2 : ys.length ≤ N := by omega
  have hN3 : N ≤ 64 := by omega
  go_wp2_with (first
    | (at_make; refine wpList_make_full _ rfl _ _ 35 rfl w1.heap.size 38 i0 (.int .u32 0) 1 under_rowY hi hz0 hz1 .i64 .i64 _ _ (N + 1) rfl rfl (by omega) (by omega) (by rw [hz2]; omega) (by unfold maxLen; omega) (Nat.le_refl _) ?_; intro w0 hown0 hgrow0))
  all_goals
    have hb0 : Below w1.heap.size w1 w0 := (Below.refl _ _).grown hgrow0 (Nat.le_refl _) (by intro k hk; cases hk)
    have HO : Hid (Ow w0 w1.heap.size (.slice (some ⟨w1.heap.size, 0, none⟩) (N + 1) (N + 1)) (List.replicate (N + 1) 0)) := Ow.made hown0
    clear hown0 hgrow0 hN
    go_loopw [7, 8] (fun c i wr => ∃ (k C : Nat) (Z : List Nat), k ≤ N + 1 ∧ i = .int .i64 k ∧ c = .int .u64 C ∧ C ≤ 1 ∧ Z.length = k ∧ val Z + 4294967296 ^ k * C = val (xs.take k) + val (ys.take k) ∧
        Ow wr w1.heap.size (.slice (some ⟨w1.heap.size, 0, none⟩) (N + 1) (N + 1)) (Z ++ List.replicate (N + 1 - k) 0) ∧ Below w1.heap.size w1 wr) (fun _ i _ => N + 1 - (intOf i).toNat)
    case atStart => exact ⟨0, 0, [], Nat.zero_le _, rfl, rfl, by omega, rfl, by simp [val], by simpa using HO.out, hb0⟩
    case round =>
      obtain ⟨k, C, Z, hk, rfl, rfl, hC, hZ, hval, hown, hbl⟩ := hrel
      have HV : Hid (val Z + 4294967296 ^ k * C = val (xs.take k) + val (ys.take k)) := hval
      have HZ : Hid (Z.length = k) := hZ
      have HW : Hid (Ow wr w1.heap.size (.slice (some ⟨w1.heap.size, 0, none⟩) (N + 1) (N + 1)) (Z ++ List.replicate (N + 1 - k) 0)) := hown
      clear hval hZ hown HO hb0
      by_cases hlt : k < N + 1
      · have hw := HW.out
        rw [show N + 1 - k = (N + 1 - (k + 1)) + 1 by omega, List.replicate_succ] at hw
        obtain ⟨hcell, hfr⟩ := hw.at (k := k) (get_mid HZ.out)
        have HW2 : Hid (Ow wr w1.heap.size (.slice (some ⟨w1.heap.size, 0, none⟩) (N + 1) (N + 1)) (Z ++ 0 :: List.replicate (N + 1 - (k + 1)) 0)) := hw
        clear hw HW
        by_cases hkx : k < xs.length
        · by_cases hky : k < ys.length
          · skip
            obtain ⟨ga, offa, x, rfl, hx1, hx2, hx3⟩ := (HS.out.later hbl).flat'.2 k hkx
            have HX : Hid (val (xs.take (k + 1)) = val (xs.take k) + 4294967296 ^ k * x) := val_take_snoc hx1
            obtain ⟨gb, offb, y, rfl, hy1, hy2, hy3⟩ := (HS'.out.later hbl).flat'.2 k hky
            have HY : Hid (val (ys.take (k + 1)) = val (ys.take k) + 4294967296 ^ k * y) := val_take_snoc hy1
            have hp := HW2.out.put hbl (Nat.le_refl _) (by simp [HZ.out]; omega) (k := k) (z := (C + x + y) % 4294967296) (V := ((C : Int) + x + y) % 4294967296) (by omega) (by omega) (ys := Z ++ [(C + x + y) % 4294967296] ++ List.replicate (N + 1 - (k + 1)) 0) (by rw [set_mid _ _ _ _ _ HZ.out]; simp)
            have HP : Hid (Ow (wr.setCell ⟨w1.heap.size, k, none⟩ (.int .u32 (((C : Int) + x + y) % 4294967296))) w1.heap.size (.slice (some ⟨w1.heap.size, 0, none⟩) (N + 1) (N + 1)) (Z ++ [(C + x + y) % 4294967296] ++ List.replicate (N + 1 - (k + 1)) 0) ∧ Below w1.heap.size w1 (wr.setCell ⟨w1.heap.size, k, none⟩ (.int .u32 (((C : Int) + x + y) % 4294967296)))) := hp
            clear hp hx1 hy1
            go_wp2
            all_goals
              go_roundw
              case rel =>
                refine ⟨k + 1, (C + x + y) / 4294967296, Z ++ [(C + x + y) % 4294967296], by omega, by go_num, by go_num, by omega, by simp [HZ.out], ?_, HP.out.1, HP.out.2⟩
                rw [HX.out, HY.out]
                exact add_step HZ.out HV.out
              case measure => simp [intOf]; omega
          · skip
            obtain ⟨ga, offa, x, rfl, hx1, hx2, hx3⟩ := (HS.out.later hbl).flat'.2 k hkx
            have HX : Hid (val (xs.take (k + 1)) = val (xs.take k) + 4294967296 ^ k * x) := val_take_snoc hx1
            have HY : Hid (val (ys.take (k + 1)) = val (ys.take k) + 4294967296 ^ k * 0) := val_take_all hky
            have hp := HW2.out.put hbl (Nat.le_refl _) (by simp [HZ.out]; omega) (k := k) (z := (C + x + 0) % 4294967296) (V := ((C : Int) + x) % 4294967296) (by omega) (by omega) (ys := Z ++ [(C + x + 0) % 4294967296] ++ List.replicate (N + 1 - (k + 1)) 0) (by rw [set_mid _ _ _ _ _ HZ.out]; simp)
            have HP : Hid (Ow (wr.setCell ⟨w1.heap.size, k, none⟩ (.int .u32 (((C : Int) + x) % 4294967296))) w1.heap.size (.slice (some ⟨w1.heap.size, 0, none⟩) (N + 1) (N + 1)) (Z ++ [(C + x + 0) % 4294967296] ++ List.replicate (N + 1 - (k + 1)) 0) ∧ Below w1.heap.size w1 (wr.setCell ⟨w1.heap.size, k, none⟩ (.int .u32 (((C : Int) + x) % 4294967296)))) := hp
            clear hp hx1
            go_wp2
            all_goals
              go_roundw
              case rel =>
                refine ⟨k + 1, (C + x + 0) / 4294967296, Z ++ [(C + x + 0) % 4294967296], by omega, by go_num, by go_num, by omega, by simp [HZ.out], ?_, HP.out.1, HP.out.2⟩
                rw [HX.out, HY.out]
                exact add_step HZ.out HV.out
              case measure => simp [intOf]; omega
        · by_cases hky : k < ys.length
          · skip
            have HX : Hid (val (xs.take (k + 1)) = val (xs.take k) + 4294967296 ^ k * 0) := val_take_all hkx
            obtain ⟨gb, offb, y, rfl, hy1, hy2, hy3⟩ := (HS'.out.later hbl).flat'.2 k hky
            have HY : Hid (val (ys.take (k + 1)) = val (ys.take k) + 4294967296 ^ k * y) := val_take_snoc hy1
            have hp := HW2.out.put hbl (Nat.le_refl _) (by simp [HZ.out]; omega) (k := k) (z := (C + 0 + y) % 4294967296) (V := ((C : Int) + y) % 4294967296) (by omega) (by omega) (ys := Z ++ [(C + 0 + y) % 4294967296] ++ List.replicate (N + 1 - (k + 1)) 0) (by rw [set_mid _ _ _ _ _ HZ.out]; simp)
            have HP : Hid (Ow (wr.setCell ⟨w1.heap.size, k, none⟩ (.int .u32 (((C : Int) + y) % 4294967296))) w1.heap.size (.slice (some ⟨w1.heap.size, 0, none⟩) (N + 1) (N + 1)) (Z ++ [(C + 0 + y) % 4294967296] ++ List.replicate (N + 1 - (k + 1)) 0) ∧ Below w1.heap.size w1 (wr.setCell ⟨w1.heap.size, k, none⟩ (.int .u32 (((C : Int) + y) % 4294967296)))) := hp
            clear hp hy1
            go_wp2
            all_goals
              go_roundw
              case rel =>
                refine ⟨k + 1, (C + 0 + y) / 4294967296, Z ++ [(C + 0 + y) % 4294967296], by omega, by go_num, by go_num, by omega, by simp [HZ.out], ?_, HP.out.1, HP.out.2⟩
                rw [HX.out, HY.out]
                exact add_step HZ.out HV.out
              case measure => simp [intOf]; omega
          · skip
            have HX : Hid (val (xs.take (k + 1)) = val (xs.take k) + 4294967296 ^ k * 0) := val_take_all hkx
            have HY : Hid (val (ys.take (k + 1)) = val (ys.take k) + 4294967296 ^ k * 0) := val_take_all hky
            have hp := HW2.out.put hbl (Nat.le_refl _) (by simp [HZ.out]; omega) (k := k) (z := (C + 0 + 0) % 4294967296) (V := (C : Int)) (by omega) (by omega) (ys := Z ++ [(C + 0 + 0) % 4294967296] ++ List.replicate (N + 1 - (k + 1)) 0) (by rw [set_mid _ _ _ _ _ HZ.out]; simp)
            have HP : Hid (Ow (wr.setCell ⟨w1.heap.size, k, none⟩ (.int .u32 ((C : Int)))) w1.heap.size (.slice (some ⟨w1.heap.size, 0, none⟩) (N + 1) (N + 1)) (Z ++ [(C + 0 + 0) % 4294967296] ++ List.replicate (N + 1 - (k + 1)) 0) ∧ Below w1.heap.size w1 (wr.setCell ⟨w1.heap.size, k, none⟩ (.int .u32 ((C : Int))))) := hp
            clear hp
            go_wp2
            all_goals
              go_roundw
              case rel =>
                refine ⟨k + 1, (C + 0 + 0) / 4294967296, Z ++ [(C + 0 + 0) % 4294967296], by omega, by go_num, by go_num, by omega, by simp [HZ.out], ?_, HP.out.1, HP.out.2⟩
                rw [HX.out, HY.out]
                exact add_step HZ.out HV.out
              case measure => simp [intOf]; omega
      · have hk' : k = N + 1 := by omega
        subst hk'
        have hv := HV.out
        rw [List.take_of_length_le (by omega), List.take_of_length_le (by omega)] at hv
        have hc := add_carry HS.out.1 HS'.out.1 hN1 hN2 hv
        have HVZ : Hid (val Z = val xs + val ys) := hc
        have hw := HW.out
        rw [Nat.sub_self, List.replicate_zero, List.append_nil] at hw
        have HW2 : Hid (Ow wr w1.heap.size (.slice (some ⟨w1.heap.size, 0, none⟩) (N + 1) (N + 1)) Z) := hw
        clear hv hc hw HW HV
        go_wp2_with fail
        refine (told_any _ Z _ _ HW2.out).mono ?_
        rintro e w3 ⟨v3, rfl, ho3, hw3⟩
        rw [HVZ.out] at ho3 ⊢
        have hb3 : Below w1.heap.size w1 w3 := by rw [hw3]; exact hbl
        have ho4 : Ow w3 w1.heap.size v3 (resL (val xs + val ys)) := by rw [hw3]; exact ho3
        clear hw3 ho3
        go_wp2
        go_ret2
        exact ⟨_, ret2i HE.out.symm, by rw [HLL.out]; exact ho4, hb3⟩

end Go.Proofs.YtdjmjhlbjcgoiaaGreatDoor
