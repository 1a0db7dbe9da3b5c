/- A row of likes is fixed by its totals; when sums and products are too big: plain data. -/
import Derived.Test.YtfifgmcjilkigaaPWor
namespace Go.Proofs.Ytfifgmcjilkigaa
open Go.RowKit Go.Maps

/-- Terms: a key and a natural each. -/
abbrev Tm := List (List Nat × Nat)

/-- What the terms at a key come to. -/
def tot : Tm → List Nat → Nat
  | [], _ => 0
  | t :: l, k => (if t.1 = k then t.2 else 0) + tot l k

def ofP (p : List Mn) : Tm := p.map fun m => (keyX m.2, val m.1)
def ofL (L : Lk) : Tm := L.map fun q => (q.1, val q.2)

theorem tot_append (l l' : Tm) (k : List Nat) : tot (l ++ l') k = tot l k + tot l' k := by
  induction l with
  | nil => simp [tot]
  | cons t l ih => simp only [List.cons_append, tot, ih]; omega

/-- The likes L hold the totals f, each of them a right natural above 0. -/
structure St (L : Lk) (f : List Nat → Nat) : Prop where
  rising : Rising L
  right : ∀ q ∈ L, Rt q.2 (val q.2) ∧ 1 ≤ val q.2
  tots : ∀ k, val (coefK L k) = f k

theorem St.mem {L : Lk} {f : List Nat → Nat} (h : St L f) (q : List Nat × List Nat) : q ∈ L ↔ 1 ≤ f q.1 ∧ q.2 = limbs (f q.1) := by
  constructor
  · intro hq
    have h1 := coefK_mem (k := q.1) (c := q.2) h.rising hq
    have h2 := h.tots q.1
    rw [h1] at h2
    obtain ⟨h3, h4⟩ := h.right q hq
    rw [← h2]
    exact ⟨h4, h3.1⟩
  · rintro ⟨h1, h2⟩
    cases hk : hasK L q.1 with
    | false =>
      have := h.tots q.1
      rw [coefK_none hk] at this
      simp only [val] at this
      omega
    | true =>
      obtain ⟨c, hc⟩ := hasK_iff.1 hk
      have h3 := coefK_mem h.rising hc
      have h4 := h.tots q.1
      rw [h3] at h4
      have h5 := (h.right _ hc).1.1
      simp only at h5
      rw [h4, ← h2] at h5
      subst h5
      exact hc

theorem rising_eq : ∀ {L L' : Lk}, Rising L → Rising L' → (∀ q, q ∈ L ↔ q ∈ L') → L = L'
  | [], [], _, _, _ => rfl
  | [], b :: l', _, _, h => absurd ((h b).2 (by simp)) (by simp)
  | a :: l, [], _, _, h => absurd ((h a).1 (by simp)) (by simp)
  | a :: l, b :: l', hL, hL', h => by
    unfold Rising at hL hL'
    rw [List.pairwise_cons] at hL hL'
    have hab : a = b := by
      rcases List.mem_cons.1 ((h a).1 (by simp)) with e | ha
      · exact e
      · rcases List.mem_cons.1 ((h b).2 (by simp)) with e | hb
        · exact e.symm
        · exact absurd (ltK_trans (hL.1 b hb) (hL'.1 a ha)) (ltK_irrefl _)
    subst hab
    have hn : a ∉ l := fun ha => ltK_irrefl _ (hL.1 a ha)
    have hn' : a ∉ l' := fun ha => ltK_irrefl _ (hL'.1 a ha)
    rw [rising_eq hL.2 hL'.2 (fun q => ?_)]
    constructor
    · intro hq
      rcases List.mem_cons.1 ((h q).1 (List.mem_cons_of_mem _ hq)) with rfl | hq'
      · exact absurd hq hn
      · exact hq'
    · intro hq
      rcases List.mem_cons.1 ((h q).2 (List.mem_cons_of_mem _ hq)) with rfl | hq'
      · exact absurd hq hn'
      · exact hq'

/-- The totals fix the likes. -/
theorem St.eq {L L' : Lk} {f : List Nat → Nat} (h : St L f) (h' : St L' f) : L = L' :=
  rising_eq h.rising h'.rising fun q => by rw [h.mem, h'.mem]

/-- Totals that are in bounds: each below bigN, no exponent above 64, at most 256 keys. -/
def OkF (f : List Nat → Nat) : Prop := (∀ k, f k < bigN) ∧ (∀ k, 1 ≤ f k → ∀ x ∈ k, x ≤ 64) ∧ ∀ l : List (List Nat), l.Nodup → (∀ k ∈ l, 1 ≤ f k) → l.length ≤ 256

theorem OkF.mono {f g : List Nat → Nat} (h : OkF g) (hle : ∀ k, f k ≤ g k) : OkF f :=
  ⟨fun k => Nat.lt_of_le_of_lt (hle k) (h.1 k), fun k hk => h.2.1 k (Nat.le_trans hk (hle k)), fun l hn hl => h.2.2 l hn fun k hk => Nat.le_trans (hl k hk) (hle k)⟩

theorem St.nodup {L : Lk} {f : List Nat → Nat} (h : St L f) : (L.map (·.1)).Nodup := by
  have := h.rising
  unfold Rising at this
  rw [List.Nodup, List.pairwise_map]
  refine List.Pairwise.imp ?_ this
  intro a b hab e
  rw [e] at hab
  exact ltK_irrefl _ hab

theorem St.keys {L : Lk} {f : List Nat → Nat} (h : St L f) (k : List Nat) : k ∈ L.map (·.1) ↔ 1 ≤ f k := by
  rw [List.mem_map]
  constructor
  · rintro ⟨q, hq, rfl⟩
    exact ((h.mem q).1 hq).1
  · intro hk
    exact ⟨(k, limbs (f k)), (h.mem _).2 ⟨hk, rfl⟩, rfl⟩

theorem nodup_length_le {α : Type} [DecidableEq α] : ∀ {l m : List α}, l.Nodup → (∀ x ∈ l, x ∈ m) → l.length ≤ m.length
  | [], _, _, _ => Nat.zero_le _
  | a :: l, m, hn, h => by
    rw [List.nodup_cons] at hn
    have ha := h a (by simp)
    have h1 : l.length ≤ (m.erase a).length := nodup_length_le hn.2 fun x hx => by
      have hne : x ≠ a := fun e => hn.1 (e ▸ hx)
      rw [List.mem_erase_of_ne hne]
      exact h x (List.mem_cons_of_mem _ hx)
    rw [List.length_erase_of_mem ha] at h1
    have : 0 < m.length := List.length_pos_of_mem ha
    simp only [List.length_cons]
    omega

/-- Totals with likes are in bounds just if there are not too many likes, and no exponent is above 64. -/
theorem St.ok {L : Lk} {f : List Nat → Nat} (h : St L f) (hl : L.length ≤ 256) (hk : ∀ k, 1 ≤ f k → ∀ x ∈ k, x ≤ 64) : OkF f := by
  refine ⟨fun k => ?_, hk, fun l hn hl2 => ?_⟩
  · by_cases h0 : 1 ≤ f k
    · obtain ⟨q, hq, rfl⟩ := List.mem_map.1 ((h.keys k).2 h0)
      have h1 := (h.right q hq).1
      have h2 := coefK_mem (k := q.1) (c := q.2) h.rising hq
      rw [← h.tots q.1, h2]
      exact h1.2
    · have : f k = 0 := by omega
      rw [this]
      exact rt_nil.2
  · have := nodup_length_le hn fun k hk => (h.keys k).2 (hl2 k hk)
    rw [List.length_map] at this
    omega

theorem OkF.len {L : Lk} {f : List Nat → Nat} (h : OkF f) (hs : St L f) : L.length ≤ 256 := by
  have := h.2.2 (L.map (·.1)) hs.nodup fun k hk => (hs.keys k).1 hk
  rwa [List.length_map] at this

/-- Totals with one term more. -/
def plus (f : List Nat → Nat) (k : List Nat) (c : Nat) : List Nat → Nat := fun k' => f k' + if k = k' then c else 0

theorem coefK_ins {L : Lk} {k c k' : List Nat} (hL : Rising L) : coefK (insK L k c) k' = if k = k' then c else coefK L k' := by
  by_cases hk : k = k'
  · subst hk
    rw [if_pos rfl]
    exact coefK_mem (rising_insK hL) ((mem_insK hL _).2 (.inl rfl))
  · rw [if_neg hk]
    cases h : hasK L k' with
    | true =>
      obtain ⟨d, hd⟩ := hasK_iff.1 h
      rw [coefK_mem hL hd]
      exact coefK_mem (rising_insK hL) ((mem_insK hL _).2 (.inr ⟨hd, fun e => hk e.symm⟩))
    | false =>
      rw [coefK_none h]
      refine coefK_none ?_
      rw [Bool.eq_false_iff]
      intro h2
      obtain ⟨d, hd⟩ := hasK_iff.1 h2
      rcases (mem_insK hL _).1 hd with e | ⟨hd2, _⟩
      · exact hk (congrArg Prod.fst e).symm
      · rw [hasK_iff.2 ⟨d, hd2⟩] at h
        cases h

theorem St.coef {L : Lk} {f : List Nat → Nat} (h : St L f) (k : List Nat) : Rt (coefK L k) (f k) := by
  cases hk : hasK L k with
  | false =>
    have := h.tots k
    rw [coefK_none hk] at this ⊢
    rw [← this]
    exact rt_nil
  | true =>
    obtain ⟨c, hc⟩ := hasK_iff.1 hk
    have h1 := (h.right _ hc).1
    have h2 := h.tots k
    rw [coefK_mem h.rising hc] at h2 ⊢
    rw [← h2]
    exact h1

/-- One term put: either it is in bounds, and the totals have it; or it is not. -/
theorem put_spec {L : Lk} {f : List Nat → Nat} {k c : List Nat} {n : Nat} (h : St L f) (hc : Rt c n) (hn : 1 ≤ n) (h64 : ∀ x ∈ k, x ≤ 64) (hf : ∀ k, 1 ≤ f k → ∀ x ∈ k, x ≤ 64) :
    (putE L k c = 0 ∧ OkF (plus f k n) ∧ St (putL L k c) (plus f k n)) ∨ (putE L k c = 2 ∧ ¬ OkF (plus f k n)) := by
  have hf2 : ∀ k', 1 ≤ plus f k n k' → ∀ x ∈ k', x ≤ 64 := by
    intro k' hk'
    unfold plus at hk'
    by_cases e : k = k'
    · subst e; exact h64
    · rw [if_neg e, Nat.add_zero] at hk'; exact hf k' hk'
  have hpk : plus f k n k = f k + n := by unfold plus; rw [if_pos rfl]
  by_cases hb : f k + n < bigN
  · obtain ⟨e1, r1⟩ := add_ok (h.coef k) hc hb
    have hs : St (insK L k (addL (coefK L k) c)) (plus f k n) := by
      refine ⟨rising_insK h.rising, fun q hq => ?_, fun k' => ?_⟩
      · rcases (mem_insK h.rising q).1 hq with rfl | ⟨hq2, _⟩
        · simp only
          rw [r1.val]
          exact ⟨r1, by omega⟩
        · exact h.right q hq2
      · rw [coefK_ins h.rising]
        unfold plus
        by_cases e : k = k'
        · subst e
          rw [if_pos rfl, if_pos rfl, r1.val]
        · rw [if_neg e, if_neg e, h.tots k', Nat.add_zero]
    unfold putE putL
    rw [if_pos e1, if_pos e1]
    by_cases hl : (insK L k (addL (coefK L k) c)).length ≤ 256
    · rw [if_pos hl]
      exact .inl ⟨rfl, hs.ok hl hf2, hs⟩
    · rw [if_neg hl]
      exact .inr ⟨rfl, fun ho => hl (ho.len hs)⟩
  · obtain ⟨e1, _⟩ := add_no (h.coef k) hc (by omega)
    unfold putE
    rw [if_neg (by rw [e1]; decide), e1]
    refine .inr ⟨rfl, fun ho => ?_⟩
    have := ho.1 k
    rw [hpk] at this
    exact hb this

theorem plus_le (f : List Nat → Nat) (k : List Nat) (c : Nat) (k' : List Nat) : f k' ≤ plus f k c k' := Nat.le_add_right _ _

/-- Monomials put one after the other. -/
theorem puts_spec : ∀ {p : List Mn} {L : Lk} {f : List Nat → Nat}, (∀ m ∈ p, GoodM m) → DomM p → St L f → OkF f →
    ((puts L p).2 = 0 ∧ OkF (fun k => f k + tot (ofP p) k) ∧ St (puts L p).1 (fun k => f k + tot (ofP p) k)) ∨ ((puts L p).2 = 2 ∧ ¬ OkF (fun k => f k + tot (ofP p) k))
  | [], L, f, _, _, h, ho => .inl ⟨rfl, ho, h⟩
  | m :: p, L, f, hg, hd, h, ho => by
    obtain ⟨g1, g2, g3, _⟩ := hg m (by simp)
    have hsm : Small m.2 := hd 0 m rfl
    have hk64 : ∀ x ∈ keyX m.2, x ≤ 64 := fun x hx => by
      obtain ⟨j, hj⟩ := List.mem_iff_getElem?.1 hx
      exact keyX_le hsm j x hj
    have efun : (fun k => f k + tot (ofP (m :: p)) k) = fun k => plus f (keyX m.2) (val m.1) k + tot (ofP p) k := by
      funext k
      simp only [ofP, List.map_cons, tot, plus]
      omega
    rw [efun]
    rcases put_spec (k := keyX m.2) (c := m.1) (n := val m.1) h (Rt.of g1 g2) (val_pos g1 g2 g3) hk64 ho.2.1 with ⟨e, ho2, hs2⟩ | ⟨e, hno⟩
    · unfold puts
      rw [if_pos e]
      exact puts_spec (fun n hn => hg n (List.mem_cons_of_mem _ hn)) (fun k x hx => hd (k + 1) x hx) hs2 ho2
    · unfold puts
      rw [if_neg (by rw [e]; decide)]
      exact .inr ⟨e, fun hh => hno (hh.mono fun k => Nat.le_add_right _ _)⟩

/-- The terms of a product. -/
def mulT (l r : Tm) : Tm := l.flatMap fun t => r.map fun u => (addK t.1 u.1, t.2 * u.2)

theorem mulT_cons (t : List Nat × Nat) (l r : Tm) : mulT (t :: l) r = (r.map fun u => (addK t.1 u.1, t.2 * u.2)) ++ mulT l r := rfl

theorem prodIn_spec {m : Mn} (hgm : GoodM m) (hm : Small m.2) : ∀ {q : List Mn} {L : Lk} {f : List Nat → Nat}, (∀ n ∈ q, GoodM n) → DomM q → St L f → OkF f →
    ((prodIn m L q).2 = 0 ∧ OkF (fun k => f k + tot ((ofP q).map fun u => (addK (keyX m.2) u.1, val m.1 * u.2)) k) ∧ St (prodIn m L q).1 (fun k => f k + tot ((ofP q).map fun u => (addK (keyX m.2) u.1, val m.1 * u.2)) k)) ∨
    ((prodIn m L q).2 = 2 ∧ ¬ OkF (fun k => f k + tot ((ofP q).map fun u => (addK (keyX m.2) u.1, val m.1 * u.2)) k))
  | [], L, f, _, _, h, ho => .inl ⟨rfl, ho, h⟩
  | n :: q, L, f, hg, hd, h, ho => by
    obtain ⟨g1, g2, g3, _⟩ := hg n (by simp)
    obtain ⟨c1, c2, c3, _⟩ := hgm
    have hp1 := val_pos g1 g2 g3
    have hp2 := val_pos c1 c2 c3
    have hpos : 1 ≤ val m.1 * val n.1 := Nat.mul_pos hp2 hp1
    have efun : (fun k => f k + tot ((ofP (n :: q)).map fun u => (addK (keyX m.2) u.1, val m.1 * u.2)) k) = fun k => plus f (addK (keyX m.2) (keyX n.2)) (val m.1 * val n.1) k + tot ((ofP q).map fun u => (addK (keyX m.2) u.1, val m.1 * u.2)) k := by
      funext k
      simp only [ofP, List.map_cons, tot, plus]
      omega
    have hat : plus f (addK (keyX m.2) (keyX n.2)) (val m.1 * val n.1) (addK (keyX m.2) (keyX n.2)) = f (addK (keyX m.2) (keyX n.2)) + val m.1 * val n.1 := by unfold plus; rw [if_pos rfl]
    rw [efun]
    by_cases ha : (addK (keyX m.2) (keyX n.2)).all (fun x => decide (x ≤ 64)) = true
    · have e0 : raisedE (keyX m.2) n.2 = 0 := by unfold raisedE; rw [if_pos ha]
      have ek : raisedK (keyX m.2) n.2 = addK (keyX m.2) (keyX n.2) := by unfold raisedK; rw [if_pos ha]
      have h64 : ∀ x ∈ addK (keyX m.2) (keyX n.2), x ≤ 64 := fun x hx => by simpa using List.all_eq_true.1 ha x hx
      unfold prodIn
      rw [if_pos e0, ek]
      by_cases hb : val m.1 * val n.1 < bigN
      · obtain ⟨e1, r1⟩ := mul_ok (Rt.of c1 c2) (Rt.of g1 g2) hb
        rw [if_pos e1]
        rcases put_spec h r1 hpos h64 ho.2.1 with ⟨e, ho2, hs2⟩ | ⟨e, hno⟩
        · rw [if_pos e]
          exact prodIn_spec ⟨c1, c2, c3, by assumption⟩ hm (fun x hx => hg x (List.mem_cons_of_mem _ hx)) (fun k x hx => hd (k + 1) x hx) hs2 ho2
        · rw [if_neg (by rw [e]; decide)]
          exact .inr ⟨e, fun hh => hno (hh.mono fun k => Nat.le_add_right _ _)⟩
      · obtain ⟨e1, _⟩ := mul_no (Rt.of c1 c2) (Rt.of g1 g2) (by omega)
        rw [if_neg (by rw [e1]; decide)]
        refine .inr ⟨e1, fun hh => ?_⟩
        have h1 := hh.1 (addK (keyX m.2) (keyX n.2))
        simp only at h1
        rw [hat] at h1
        omega
    · have e0 : raisedE (keyX m.2) n.2 = 2 := by unfold raisedE; rw [if_neg ha]
      unfold prodIn
      rw [if_neg (by rw [e0]; decide)]
      refine .inr ⟨e0, fun hh => ha ?_⟩
      rw [List.all_eq_true]
      intro x hx
      have h1 := hh.2.1 (addK (keyX m.2) (keyX n.2)) (by simp only; rw [hat]; omega) x hx
      simpa using h1

theorem prods_spec {q : List Mn} (hgq : ∀ n ∈ q, GoodM n) (hdq : DomM q) : ∀ {p : List Mn} {L : Lk} {f : List Nat → Nat}, (∀ m ∈ p, GoodM m) → DomM p → St L f → OkF f →
    ((prods q L p).2 = 0 ∧ OkF (fun k => f k + tot (mulT (ofP p) (ofP q)) k) ∧ St (prods q L p).1 (fun k => f k + tot (mulT (ofP p) (ofP q)) k)) ∨ ((prods q L p).2 = 2 ∧ ¬ OkF (fun k => f k + tot (mulT (ofP p) (ofP q)) k))
  | [], L, f, _, _, h, ho => .inl ⟨rfl, ho, h⟩
  | m :: p, L, f, hg, hd, h, ho => by
    have efun : (fun k => f k + tot (mulT (ofP (m :: p)) (ofP q)) k) = fun k => (f k + tot ((ofP q).map fun u => (addK (keyX m.2) u.1, val m.1 * u.2)) k) + tot (mulT (ofP p) (ofP q)) k := by
      funext k
      have e : ofP (m :: p) = (keyX m.2, val m.1) :: ofP p := rfl
      rw [e, mulT_cons, tot_append]
      simp only
      omega
    rw [efun]
    rcases prodIn_spec (hg m (by simp)) (hd 0 m rfl) hgq hdq h ho with ⟨e, ho2, hs2⟩ | ⟨e, hno⟩
    · unfold prods
      rw [if_pos e]
      exact prods_spec hgq hdq (fun x hx => hg x (List.mem_cons_of_mem _ hx)) (fun k x hx => hd (k + 1) x hx) hs2 ho2
    · unfold prods
      rw [if_neg (by rw [e]; decide)]
      exact .inr ⟨e, fun hh => hno (hh.mono fun k => Nat.le_add_right _ _)⟩

theorem St.nil : St [] (fun _ => 0) := ⟨rising_nil, fun q hq => (by cases hq), fun k => rfl⟩
theorem okF_zero : OkF (fun _ => 0) := ⟨fun _ => rt_nil.2, fun k hk => absurd hk (by simp), fun l _ hl => by
  cases l with
  | nil => simp
  | cons a l => exact absurd (hl a (by simp)) (by simp)⟩

theorem Pol.dom {p : List Mn} (h : Pol p) : DomM p := fun _ m hk =>
  ⟨(h.small m (List.mem_of_getElem? hk)).1, fun _ x hj => (h.good (List.mem_of_getElem? hk)).2.2.2 x (List.mem_of_getElem? hj)⟩

/-- Where a product is in bounds, and what it is then. -/
theorem prod_spec {p q : List Mn} (hp : Pol p) (hq : Pol q) :
    (prodE p q = 0 ∧ OkF (tot (mulT (ofP p) (ofP q))) ∧ ∃ L, St L (tot (mulT (ofP p) (ofP q))) ∧ prodL p q = rowL L) ∨ (prodE p q = 2 ∧ ¬ OkF (tot (mulT (ofP p) (ofP q))) ∧ prodL p q = []) := by
  have h := prods_spec (fun n hn => hq.good hn) hq.dom (fun m hm => hp.good hm) hp.dom St.nil okF_zero
  simp only [Nat.zero_add] at h
  rcases h with ⟨e, ho, hs⟩ | ⟨e, hno⟩
  · have e2 : prodE p q = 0 := e
    exact .inl ⟨e, ho, _, hs, by unfold prodL; rw [if_pos e2]⟩
  · have e2 : prodE p q = 2 := e
    exact .inr ⟨e, hno, by unfold prodL; rw [if_neg (by rw [e2]; decide)]⟩

end Go.Proofs.Ytfifgmcjilkigaa
