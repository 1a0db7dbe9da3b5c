/- The document's laid, as a plain function, is a put: plain data. -/
import Derived.Test.YtfifgmcjilkigaaPRingB
import Derived.Test.YtfifgmcjilkigaaPRefC
namespace Go.Proofs.Ytfifgmcjilkigaa
open Go.RowKit Go.Maps

/-- A monomial laid into a row: none, where a sum of limbs is too big. -/
def lay (m : Mn) : List Mn → Bool → Option (List Mn)
  | [], done => some (if done then [] else [m])
  | x :: r, done =>
    if ordX m.2 x.2 = 0 then
      if addE x.1 m.1 = 0 then (lay m r true).map (fun t => (addL x.1 m.1, m.2) :: t) else none
    else if ordX m.2 x.2 < 0 ∧ done = false then (lay m r true).map (fun t => m :: x :: t)
    else (lay m r done).map (fun t => x :: t)

theorem lay_done {m : Mn} : ∀ {r : List Mn}, (∀ x ∈ r, ¬ ordX m.2 x.2 = 0) → lay m r true = some r
  | [], _ => rfl
  | x :: r, h => by
    unfold lay
    rw [if_neg (h x (by simp)), if_neg (fun hh => (by simp at hh)), lay_done fun y hy => h y (List.mem_cons_of_mem _ hy)]
    rfl

theorem cmpX_zero : ∀ {a b : List Int}, cmpX a b = 0 → a = b
  | [], [], _ => rfl
  | [], _ :: _, h => by unfold cmpX at h; exact absurd h (by decide)
  | _ :: _, [], h => by unfold cmpX at h; exact absurd h (by decide)
  | x :: a, y :: b, h => by
    unfold cmpX at h
    by_cases h1 : x < y
    · rw [if_pos h1] at h; exact absurd h (by decide)
    · rw [if_neg h1] at h
      by_cases h2 : y < x
      · rw [if_pos h2] at h; exact absurd h (by decide)
      · rw [if_neg h2] at h
        rw [cmpX_zero h, show x = y by omega]

/-- Which of a key and a monomial comes first. -/
theorem ord_key {m : Mn} {q : List Nat × List Nat} (hm : monB m = true) (sm : Small m.2) (hq : monB (q.2, unX q.1) = true) (hl : q.1.length = 512) :
    (ordX m.2 (unX q.1) = 0 ↔ keyX m.2 = q.1) ∧ (ordX m.2 (unX q.1) < 0 ↔ ltK (keyX m.2) q.1) := by
  have e : ordX m.2 (unX q.1) = cmpX m.2 (unX q.1) := ordX_cmpX (n := (q.2, unX q.1)) hm hq
  have hk := keyX_len sm.1
  have hu := unX_key hm sm
  rw [e]
  refine ⟨⟨fun h => ?_, fun h => ?_⟩, ⟨fun h => ?_, fun h => ?_⟩⟩
  · rw [cmpX_zero h, keyX_unX hl]
  · rw [← h, hu, cmpX_self]
  · by_cases e1 : keyX m.2 = q.1
    · rw [← e1, hu, cmpX_self] at h
      exact absurd h (by decide)
    · by_cases h2 : ltK (keyX m.2) q.1
      · exact h2
      · have h3 := cmp_trim (by rw [hk, hl]) (ltK_or e1 h2)
        rw [hu] at h3
        exact absurd h3 (cmpX_anti h)
  · have h3 := cmp_trim (by rw [hk, hl]) h
    rw [hu] at h3
    exact h3

theorem add_nil {c : List Nat} {n : Nat} (h : Rt c n) : addE [] c = 0 ∧ addL [] c = c := by
  obtain ⟨h1, h2⟩ := add_ok rt_nil h (by rw [Nat.zero_add]; exact h.2)
  rw [Nat.zero_add] at h2
  exact ⟨h1, h2.inj h⟩

theorem lay_row {m : Mn} (hm : monB m = true) (sm : Small m.2) (hr : ∃ n, Rt m.1 n) : ∀ {L : Lk}, Rising L → (∀ q ∈ L, q.1.length = 512 ∧ monB (q.2, unX q.1) = true) →
    lay m (rowL L) false = if addE (coefK L (keyX m.2)) m.1 = 0 then some (rowL (insK L (keyX m.2) (addL (coefK L (keyX m.2)) m.1))) else none
  | [], _, _ => by
    obtain ⟨n, hn⟩ := hr
    obtain ⟨h1, h2⟩ := add_nil hn
    have e : coefK [] (keyX m.2) = [] := rfl
    rw [e, if_pos h1, h2]
    have e2 : unX (keyX m.2) = m.2 := unX_key hm sm
    simp [lay, rowL, insK, e2]
  | q :: L, hL, hk => by
    have hL' := hL
    unfold Rising at hL
    rw [List.pairwise_cons] at hL
    obtain ⟨hl, hmq⟩ := hk q (by simp)
    obtain ⟨o1, o2⟩ := ord_key hm sm hmq hl
    have hu := unX_key hm sm
    have erow : rowL (q :: L) = (q.2, unX q.1) :: rowL L := rfl
    have hrest : (keyX m.2 = q.1 ∨ ltK (keyX m.2) q.1) → lay m (rowL L) true = some (rowL L) := by
      intro hle
      refine lay_done fun x hx => ?_
      obtain ⟨q2, hq2, rfl⟩ := List.mem_map.1 hx
      obtain ⟨hl2, hm2⟩ := hk q2 (List.mem_cons_of_mem _ hq2)
      obtain ⟨p1, _⟩ := ord_key hm sm hm2 hl2
      intro e
      have e1 := p1.1 e
      have h1 := hL.1 q2 hq2
      rcases hle with h2 | h2
      · rw [← h2, e1] at h1
        exact ltK_irrefl _ h1
      · have h3 := ltK_trans h2 h1
        rw [e1] at h3
        exact ltK_irrefl _ h3
    rw [erow]
    unfold lay
    simp only
    by_cases h1 : keyX m.2 = q.1
    · rw [if_pos (o1.2 h1), hrest (.inl h1)]
      have ec : coefK (q :: L) (keyX m.2) = q.2 := by rw [h1]; exact coefK_head
      rw [ec]
      unfold insK
      rw [if_pos h1]
      split
      · simp only [Option.map_some, rowL, List.map_cons, hu]
      · rfl
    · rw [if_neg (fun hh => h1 (o1.1 hh))]
      by_cases h2 : ltK (keyX m.2) q.1
      · rw [if_pos ⟨o2.2 h2, trivial⟩, hrest (.inr h2)]
        have hn : hasK (q :: L) (keyX m.2) = false := by
          rw [Bool.eq_false_iff]
          intro h
          rw [hasK_iff] at h
          obtain ⟨c', h⟩ := h
          rcases List.mem_cons.1 h with h | h
          · exact h1 (by rw [← h])
          · exact ltK_irrefl _ (ltK_trans h2 (hL.1 _ h))
        obtain ⟨n, hn2⟩ := hr
        obtain ⟨a1, a2⟩ := add_nil hn2
        rw [coefK_none hn, if_pos a1, a2]
        unfold insK
        rw [if_neg h1, if_pos h2]
        simp only [Option.map_some, rowL, List.map_cons, hu]
      · rw [if_neg (fun hh => h2 (o2.1 hh.1)), lay_row hm sm hr hL.2 fun x hx => hk x (List.mem_cons_of_mem _ hx), coefK_tail h1]
        rw [show insK (q :: L) (keyX m.2) (addL (coefK L (keyX m.2)) m.1) = q :: insK L (keyX m.2) (addL (coefK L (keyX m.2)) m.1) by rw [insK, if_neg h1, if_neg h2]]
        split
        · simp only [Option.map_some, rowL, List.map_cons]
        · rfl

end Go.Proofs.Ytfifgmcjilkigaa
