/- Sums and products by their totals: plain data. -/
import Derived.Test.YtfifgmcjilkigaaPRowC
namespace Go.Proofs.Ytfifgmcjilkigaa
open Go.RowKit Go.Maps

theorem cmpX_anti : ∀ {a b : List Int}, cmpX a b < 0 → ¬ cmpX b a < 0
  | [], [], h => by simp [cmpX] at h
  | [], _ :: _, _ => by unfold cmpX; decide
  | _ :: _, [], h => by unfold cmpX at h; exact absurd h (by decide)
  | x :: a, y :: b, h => by
    unfold cmpX at h ⊢
    by_cases h1 : x < y
    · rw [if_neg (by omega), if_pos h1]
      decide
    · rw [if_neg h1] at h
      by_cases h2 : y < x
      · rw [if_pos h2] at h
        exact absurd h (by decide)
      · rw [if_neg h2] at h
        rw [if_neg h2, if_neg h1]
        exact cmpX_anti h

theorem monB_partsX {m : Mn} (h : monB m = true) : m.2.length = 0 ∨ ¬ m.2[m.2.length - 1]? = some 0 := by
  obtain ⟨c, es⟩ := m
  simp only [monB, Bool.and_eq_true, List.all_eq_true, decide_eq_true_eq, Bool.or_eq_true, Bool.not_eq_true', beq_eq_false_iff_ne, ne_eq, beq_iff_eq] at h
  exact h.2

theorem unX_key {m : Mn} (h : monB m = true) (hs : Small m.2) : unX (keyX m.2) = m.2 := by
  have hm := (monB_partsX h)
  refine unX_keyX hs.1 (fun k x hx => (hs.2 k x hx).1) ?_
  by_cases h0 : m.2.length = 0
  · exact .inl h0
  · right
    have hlt : m.2.length - 1 < m.2.length := by omega
    refine ⟨m.2[m.2.length - 1], List.getElem?_eq_getElem hlt, fun e => ?_⟩
    rcases hm with h1 | h1
    · exact h0 h1
    · exact h1 (by rw [List.getElem?_eq_getElem hlt, e])

theorem key_lt {m n : Mn} (hm : monB m = true) (hn : monB n = true) (sm : Small m.2) (sn : Small n.2) (h : cmpX m.2 n.2 < 0) : ltK (keyX m.2) (keyX n.2) := by
  by_cases e : keyX m.2 = keyX n.2
  · have e2 : m.2 = n.2 := by rw [← unX_key hm sm, ← unX_key hn sn, e]
    rw [e2, cmpX_self] at h
    exact absurd h (by decide)
  · by_cases hlt : ltK (keyX m.2) (keyX n.2)
    · exact hlt
    · have h2 := cmp_trim (by rw [keyX_len sm.1, keyX_len sn.1]) (ltK_or e hlt)
      rw [unX_key hm sm, unX_key hn sn] at h2
      exact absurd h2 (cmpX_anti h)

theorem sorted_lt : ∀ {p : List Mn}, Pol p → (p.map fun m => ((keyX m.2, m.1) : List Nat × List Nat)).Pairwise (fun a b => ltK a.1 b.1)
  | [], _ => List.Pairwise.nil
  | m :: p, h => by
    have hp : Pol p := ⟨fun n hn => h.lim n (List.mem_cons_of_mem _ hn), fun n hn => h.mon n (List.mem_cons_of_mem _ hn), h.sort.tail, fun n hn => h.small n (List.mem_cons_of_mem _ hn), by have := h.len; simp at this; omega⟩
    have ih := sorted_lt hp
    rw [List.map_cons, List.pairwise_cons]
    refine ⟨?_, ih⟩
    cases p with
    | nil => intro q hq; simp at hq
    | cons n p =>
      have h1 : ltK (keyX m.2) (keyX n.2) := key_lt (h.mon m (by simp)) (h.mon n (by simp)) (h.dom 0 m rfl) (h.dom 1 n rfl) h.sort.1
      intro q hq
      rw [List.map_cons, List.pairwise_cons] at ih
      rw [List.map_cons] at hq
      rcases List.mem_cons.1 hq with rfl | hq
      · exact h1
      · exact ltK_trans h1 (ih.1 q hq)

/-- A polynomial that Check lets by is the row of its totals. -/
theorem Pol.st {p : List Mn} (h : Pol p) : ∃ L, St L (tot (ofP p)) ∧ (∀ q ∈ L, q.1.length = 512) ∧ rowL L = p ∧ OkF (tot (ofP p)) := by
  have hr : Rising (p.map fun m => ((keyX m.2, m.1) : List Nat × List Nat)) := sorted_lt h
  have hrow : rowL (p.map fun m => ((keyX m.2, m.1) : List Nat × List Nat)) = p := by
    unfold rowL
    rw [List.map_map]
    conv => rhs; rw [← List.map_id p]
    refine List.map_congr_left fun m hm => ?_
    obtain ⟨k, hk⟩ := List.mem_iff_getElem?.1 hm
    have := unX_key (h.mon m hm) (h.dom k m hk)
    simp only [Function.comp, id]
    rw [this]
  have hlen : ∀ q ∈ p.map fun m => ((keyX m.2, m.1) : List Nat × List Nat), q.1.length = 512 := by
    intro q hq
    obtain ⟨m, hm, rfl⟩ := List.mem_map.1 hq
    obtain ⟨k, hk⟩ := List.mem_iff_getElem?.1 hm
    exact keyX_len (h.dom k m hk).1
  have htot : ∀ k, val (coefK (p.map fun m => ((keyX m.2, m.1) : List Nat × List Nat)) k) = tot (ofP p) k := by
    intro k
    have key : ∀ {M : Lk}, Rising M → tot (ofL M) k = val (coefK M k) := by
      intro M
      induction M with
      | nil => intro _; rfl
      | cons q M ih =>
        intro hr2
        unfold Rising at hr2
        rw [List.pairwise_cons] at hr2
        have e : ofL (q :: M) = (q.1, val q.2) :: ofL M := rfl
        rw [e, tot, ih hr2.2]
        by_cases hq : q.1 = k
        · subst hq
          rw [if_pos rfl, coefK_head]
          have : coefK M q.1 = [] := by
            refine coefK_none ?_
            rw [Bool.eq_false_iff]
            intro hh
            obtain ⟨d, hd⟩ := hasK_iff.1 hh
            exact ltK_irrefl q.1 (hr2.1 (q.1, d) hd)
          rw [this]
          simp [val]
        · rw [if_neg hq, coefK_tail (fun e => hq e.symm), Nat.zero_add]
    rw [← key hr]
    congr 1
    unfold ofL ofP
    rw [List.map_map]
    rfl
  have hst : St (p.map fun m => ((keyX m.2, m.1) : List Nat × List Nat)) (tot (ofP p)) := by
    refine ⟨hr, fun q hq => ?_, htot⟩
    obtain ⟨m, hm, rfl⟩ := List.mem_map.1 hq
    obtain ⟨g1, g2, g3, _⟩ := h.good hm
    exact ⟨Rt.of g1 g2, val_pos g1 g2 g3⟩
  refine ⟨_, hst, hlen, hrow, hst.ok (by rw [List.length_map]; exact h.len) fun k hk x hx => ?_⟩
  obtain ⟨q, hq, rfl⟩ := List.mem_map.1 ((hst.keys k).2 hk)
  obtain ⟨m, hm, rfl⟩ := List.mem_map.1 hq
  obtain ⟨i, hi⟩ := List.mem_iff_getElem?.1 hm
  obtain ⟨j, hj⟩ := List.mem_iff_getElem?.1 hx
  exact keyX_le (h.dom i m hi) j x hj

/-- Where a sum is in bounds, and what it is then. -/
theorem sum_spec {p q : List Mn} (hp : Pol p) (hq : Pol q) :
    (sumE p q = 0 ∧ OkF (fun k => tot (ofP p) k + tot (ofP q) k) ∧ ∃ L, St L (fun k => tot (ofP p) k + tot (ofP q) k) ∧ sumL p q = rowL L) ∨ (sumE p q = 2 ∧ ¬ OkF (fun k => tot (ofP p) k + tot (ofP q) k) ∧ sumL p q = []) := by
  obtain ⟨_, _, _, _, hop⟩ := hp.st
  have h1 := puts_spec (fun m hm => hp.good hm) hp.dom St.nil okF_zero
  simp only [Nat.zero_add] at h1
  rcases h1 with ⟨e1, _, s1⟩ | ⟨_, hno⟩
  · have h2 := puts_spec (fun m hm => hq.good hm) hq.dom s1 hop
    rcases h2 with ⟨e2, ho2, s2⟩ | ⟨e2, hno2⟩
    · have e : sumE p q = 0 := by unfold sumE; rw [if_pos e1]; exact e2
      exact .inl ⟨e, ho2, _, s2, by unfold sumL; rw [if_pos e]⟩
    · have e : sumE p q = 2 := by unfold sumE; rw [if_pos e1]; exact e2
      exact .inr ⟨e, hno2, by unfold sumL; rw [if_neg (by rw [e]; decide)]⟩
  · exact absurd hop hno

/-- Sums may change their sides. -/
theorem sum_comm {p q : List Mn} (hp : Pol p) (hq : Pol q) : sumE p q = sumE q p ∧ sumL p q = sumL q p := by
  have ef : (fun k => tot (ofP p) k + tot (ofP q) k) = fun k => tot (ofP q) k + tot (ofP p) k := by funext k; omega
  have h1 := sum_spec hp hq
  have h2 := sum_spec hq hp
  rw [← ef] at h2
  rcases h1 with ⟨a1, a2, L, a3, a4⟩ | ⟨a1, a2, a3⟩
  · rcases h2 with ⟨b1, b2, M, b3, b4⟩ | ⟨b1, b2, b3⟩
    · exact ⟨a1.trans b1.symm, by rw [a4, b4, a3.eq b3]⟩
    · exact absurd a2 b2
  · rcases h2 with ⟨b1, b2, M, b3, b4⟩ | ⟨b1, b2, b3⟩
    · exact absurd b2 a2
    · exact ⟨a1.trans b1.symm, a3.trans b3.symm⟩

end Go.Proofs.Ytfifgmcjilkigaa
