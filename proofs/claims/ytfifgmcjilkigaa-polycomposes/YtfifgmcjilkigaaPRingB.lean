/- Sums and products: their laws, by their totals: plain data. -/
import Derived.Test.YtfifgmcjilkigaaPRing
namespace Go.Proofs.Ytfifgmcjilkigaa
open Go.RowKit Go.Maps

/-- Each once. -/
def dd : List (List Nat) → List (List Nat)
  | [] => []
  | a :: l => if a ∈ dd l then dd l else a :: dd l

theorem mem_dd : ∀ {l : List (List Nat)} {x : List Nat}, x ∈ dd l ↔ x ∈ l
  | [], x => by simp [dd]
  | a :: l, x => by
    unfold dd
    split
    · rename_i h
      rw [mem_dd, List.mem_cons]
      constructor
      · exact .inr
      · rintro (rfl | hx)
        · exact mem_dd.1 h
        · exact hx
    · rw [List.mem_cons, List.mem_cons, mem_dd]

theorem nodup_dd : ∀ l : List (List Nat), (dd l).Nodup
  | [] => List.Pairwise.nil
  | a :: l => by
    unfold dd
    split
    · exact nodup_dd l
    · rename_i h
      exact List.nodup_cons.2 ⟨h, nodup_dd l⟩

/-- A sum of terms, each times what a key is worth. -/
def wsum (G : List Nat → Nat) : Tm → Nat
  | [] => 0
  | t :: l => t.2 * G t.1 + wsum G l

def ksum (F : List Nat → Nat) : List (List Nat) → Nat
  | [] => 0
  | k :: K => F k + ksum F K

theorem ksum_add (F G : List Nat → Nat) : ∀ K, ksum (fun k => F k + G k) K = ksum F K + ksum G K
  | [] => rfl
  | k :: K => by unfold ksum; rw [ksum_add F G K]; omega

theorem ksum_none {c : Nat} {a : List Nat} {G : List Nat → Nat} : ∀ {K : List (List Nat)}, a ∉ K → ksum (fun k => (if a = k then c else 0) * G k) K = 0
  | [], _ => rfl
  | k :: K, h => by
    rw [List.mem_cons, not_or] at h
    unfold ksum
    rw [if_neg h.1, ksum_none h.2]
    simp

theorem ksum_one {c : Nat} {a : List Nat} {G : List Nat → Nat} : ∀ {K : List (List Nat)}, K.Nodup → a ∈ K → ksum (fun k => (if a = k then c else 0) * G k) K = c * G a
  | [], _, h => by cases h
  | k :: K, hn, h => by
    rw [List.nodup_cons] at hn
    unfold ksum
    by_cases e : a = k
    · subst e
      rw [if_pos rfl, ksum_none hn.1, Nat.add_zero]
    · rw [if_neg e, ksum_one hn.2 ((List.mem_cons.1 h).resolve_left e)]
      omega

theorem ksum_zero (G : List Nat → Nat) : ∀ K, ksum (fun k => 0 * G k) K = 0
  | [] => rfl
  | k :: K => by unfold ksum; rw [ksum_zero G K]; omega

theorem wsum_ksum (G : List Nat → Nat) {K : List (List Nat)} (hn : K.Nodup) : ∀ {l : Tm}, (∀ t ∈ l, t.1 ∈ K) → wsum G l = ksum (fun k => tot l k * G k) K
  | [], _ => (ksum_zero G K).symm
  | t :: l, h => by
    have e : (fun k => tot (t :: l) k * G k) = fun k => (if t.1 = k then t.2 else 0) * G k + tot l k * G k := by
      funext k
      rw [tot, Nat.add_mul]
    rw [wsum, e, ksum_add, ksum_one hn (h t (by simp)), wsum_ksum G hn fun u hu => h u (List.mem_cons_of_mem _ hu)]

/-- Such a sum goes by the totals alone. -/
theorem wsum_congr (G : List Nat → Nat) {l l' : Tm} (h : tot l = tot l') : wsum G l = wsum G l' := by
  have hm : ∀ t ∈ l ++ l', t.1 ∈ dd ((l ++ l').map (·.1)) := fun t ht => mem_dd.2 (List.mem_map.2 ⟨t, ht, rfl⟩)
  rw [wsum_ksum G (nodup_dd _) fun t ht => hm t (List.mem_append_left _ ht), wsum_ksum G (nodup_dd _) fun t ht => hm t (List.mem_append_right _ ht), h]

theorem tot_scale (a : List Nat) (c : Nat) (k : List Nat) : ∀ r : Tm, tot (r.map fun u => (addK a u.1, c * u.2)) k = c * tot (r.map fun u => (addK a u.1, u.2)) k
  | [] => rfl
  | u :: r => by
    rw [List.map_cons, List.map_cons, tot, tot, tot_scale a c k r, Nat.mul_add]
    simp only
    split
    · rfl
    · simp

theorem tot_mul (r : Tm) (k : List Nat) : ∀ l : Tm, tot (mulT l r) k = wsum (fun a => tot (r.map fun u => (addK a u.1, u.2)) k) l
  | [] => rfl
  | t :: l => by rw [mulT_cons, tot_append, tot_mul r k l, wsum, tot_scale]

theorem mul_congr_left {l l' r : Tm} (h : tot l = tot l') : tot (mulT l r) = tot (mulT l' r) := by
  funext k
  rw [tot_mul, tot_mul, wsum_congr _ h]

theorem addK_comm (a b : List Nat) : addK a b = addK b a := by
  unfold addK
  rw [List.zipWith_comm]
  congr 1
  funext x y
  omega

theorem addK_assoc : ∀ (a b c : List Nat), addK (addK a b) c = addK a (addK b c)
  | [], b, c => by cases b <;> cases c <;> rfl
  | _ :: _, [], c => by cases c <;> rfl
  | _ :: _, _ :: _, [] => rfl
  | x :: a, y :: b, z :: c => by
    have ih := addK_assoc a b c
    unfold addK at ih ⊢
    simp only [List.zipWith_cons_cons]
    rw [ih, Nat.add_assoc]

theorem mulT_cons_right (t : List Nat × Nat) (l : Tm) (k : List Nat) : ∀ r : Tm, tot (mulT r (t :: l)) k = tot (r.map fun u => (addK u.1 t.1, u.2 * t.2)) k + tot (mulT r l) k
  | [] => rfl
  | u :: r => by
    rw [mulT_cons, mulT_cons, tot_append, tot_append, mulT_cons_right t l k r, List.map_cons, List.map_cons, tot, tot]
    omega

theorem mulT_nil_right : ∀ r : Tm, mulT r [] = []
  | [] => rfl
  | u :: r => by rw [mulT_cons, mulT_nil_right r]; rfl

theorem mul_comm_tot : ∀ l r : Tm, tot (mulT l r) = tot (mulT r l)
  | [], r => by rw [mulT_nil_right]; rfl
  | t :: l, r => by
    funext k
    rw [mulT_cons, tot_append, mulT_cons_right, mul_comm_tot l r]
    congr 2
    refine List.map_congr_left fun u _ => ?_
    rw [addK_comm, Nat.mul_comm]

theorem mul_congr_right {l r r' : Tm} (h : tot r = tot r') : tot (mulT l r) = tot (mulT l r') := by
  rw [mul_comm_tot l r, mul_comm_tot l r', mul_congr_left h]

theorem mulT_append (l l' r : Tm) : mulT (l ++ l') r = mulT l r ++ mulT l' r := by
  unfold mulT
  rw [List.flatMap_append]

theorem mulT_map (t : List Nat × Nat) (c : Tm) : ∀ b : Tm, mulT (b.map fun u => (addK t.1 u.1, t.2 * u.2)) c = (mulT b c).map fun u => (addK t.1 u.1, t.2 * u.2)
  | [] => rfl
  | u :: b => by
    rw [List.map_cons, mulT_cons, mulT_cons, List.map_append, mulT_map t c b, List.map_map]
    congr 1
    refine List.map_congr_left fun v _ => ?_
    simp only [Function.comp]
    rw [addK_assoc, Nat.mul_assoc]

theorem mulT_assoc (b c : Tm) : ∀ a : Tm, mulT (mulT a b) c = mulT a (mulT b c)
  | [] => rfl
  | t :: a => by rw [mulT_cons, mulT_append, mulT_assoc b c a, mulT_map, mulT_cons]

theorem keysLe_puts : ∀ {p : List Mn} {L : Lk}, DomM p → KeysLe L → KeysLe (puts L p).1
  | [], L, _, h => h
  | m :: p, L, hd, h => by
    have hk : (keyX m.2).length = 512 ∧ ∀ x ∈ keyX m.2, x ≤ 64 := ⟨keyX_len (hd 0 m rfl).1, fun x hx => by
      obtain ⟨j, hj⟩ := List.mem_iff_getElem?.1 hx
      exact keyX_le (hd 0 m rfl) j x hj⟩
    unfold puts
    split
    · exact keysLe_puts (fun k x hx => hd (k + 1) x hx) (keysLe_putL h hk)
    · exact keysLe_putL h hk

theorem keysLe_nil : KeysLe [] := fun q hq => by cases hq

/-- What the totals of a sum in bounds make. -/
theorem sum_yes {p q : List Mn} (hp : Pol p) (hq : Pol q) (ho : OkF (fun k => tot (ofP p) k + tot (ofP q) k)) : sumE p q = 0 ∧ Pol (sumL p q) ∧ checkE (sumL p q) 9223372036854775807 = 0 ∧ tot (ofP (sumL p q)) = fun k => tot (ofP p) k + tot (ofP q) k := by
  rcases sum_spec hp hq with ⟨e, _, L, hs, hr⟩ | ⟨_, hno, _⟩
  · have hL : L = (puts (puts [] p).1 q).1 := by
      have e1 : sumL p q = rowL (puts (puts [] p).1 q).1 := by unfold sumL; rw [if_pos e]
      have h0 : (puts [] p).2 = 0 := by
        unfold sumE at e
        split at e
        · assumption
        · rename_i h1; exact absurd e h1
      have h1 := puts_spec (fun m hm => hp.good hm) hp.dom St.nil okF_zero
      simp only [Nat.zero_add] at h1
      rcases h1 with ⟨_, o1, s1⟩ | ⟨e2, _⟩
      · have h2 := puts_spec (fun m hm => hq.good hm) hq.dom s1 o1
        rcases h2 with ⟨_, _, s2⟩ | ⟨_, hno⟩
        · exact hs.eq s2
        · exact absurd ho hno
      · rw [h0] at e2; exact absurd e2 (by decide)
    have hk : ∀ x ∈ L, x.1.length = 512 := fun x hx => (keysLe_puts hq.dom (keysLe_puts hp.dom keysLe_nil) x (hL ▸ hx)).1
    obtain ⟨r1, r2, r3⟩ := hs.row ho hk
    rw [hr]
    exact ⟨e, r1, r2, r3⟩
  · exact absurd ho hno

theorem sum_no {p q : List Mn} (hp : Pol p) (hq : Pol q) (ho : ¬ OkF (fun k => tot (ofP p) k + tot (ofP q) k)) : sumE p q = 2 ∧ sumL p q = [] := by
  rcases sum_spec hp hq with ⟨_, h, _⟩ | ⟨e, _, h⟩
  · exact absurd h ho
  · exact ⟨e, h⟩

theorem prod_yes {p q : List Mn} (hp : Pol p) (hq : Pol q) (ho : OkF (tot (mulT (ofP p) (ofP q)))) : prodE p q = 0 ∧ Pol (prodL p q) ∧ checkE (prodL p q) 9223372036854775807 = 0 ∧ tot (ofP (prodL p q)) = tot (mulT (ofP p) (ofP q)) := by
  have h := prods_spec (fun n hn => hq.good hn) hq.dom (fun m hm => hp.good hm) hp.dom St.nil okF_zero
  simp only [Nat.zero_add] at h
  rcases h with ⟨e, _, hs⟩ | ⟨_, hno⟩
  · have hk : ∀ x ∈ (prods q [] p).1, x.1.length = 512 := fun x hx => (keysLe_prods hq.dom hp.dom keysLe_nil x hx).1
    obtain ⟨r1, r2, r3⟩ := hs.row ho hk
    have e2 : prodE p q = 0 := e
    have e3 : prodL p q = rowL (prods q [] p).1 := by unfold prodL; rw [if_pos e2]
    rw [e3]
    exact ⟨e, r1, r2, r3⟩
  · exact absurd ho hno

theorem prod_no {p q : List Mn} (hp : Pol p) (hq : Pol q) (ho : ¬ OkF (tot (mulT (ofP p) (ofP q)))) : prodE p q = 2 ∧ prodL p q = [] := by
  rcases prod_spec hp hq with ⟨_, h, _⟩ | ⟨e, _, h⟩
  · exact absurd h ho
  · exact ⟨e, h⟩

/-- The totals fix the polynomial. -/
theorem Pol.eq {p q : List Mn} (hp : Pol p) (hq : Pol q) (h : tot (ofP p) = tot (ofP q)) : p = q := by
  obtain ⟨L, s1, _, r1, _⟩ := hp.st
  obtain ⟨M, s2, _, r2, _⟩ := hq.st
  rw [← h] at s2
  rw [← r1, ← r2, s1.eq s2]

theorem prod_comm {p q : List Mn} (hp : Pol p) (hq : Pol q) : prodE p q = prodE q p ∧ prodL p q = prodL q p := by
  have ef := mul_comm_tot (ofP p) (ofP q)
  by_cases ho : OkF (tot (mulT (ofP p) (ofP q)))
  · obtain ⟨a1, a2, _, a4⟩ := prod_yes hp hq ho
    obtain ⟨b1, b2, _, b4⟩ := prod_yes hq hp (ef ▸ ho)
    exact ⟨a1.trans b1.symm, a2.eq b2 (by rw [a4, b4, ef])⟩
  · obtain ⟨a1, a2⟩ := prod_no hp hq ho
    obtain ⟨b1, b2⟩ := prod_no hq hp (fun h => ho (by rw [ef]; exact h))
    exact ⟨a1.trans b1.symm, a2.trans b2.symm⟩

theorem sum_ok_iff {p q : List Mn} (hp : Pol p) (hq : Pol q) : sumE p q = 0 ↔ OkF (fun k => tot (ofP p) k + tot (ofP q) k) := by
  constructor
  · intro h
    apply Classical.byContradiction
    intro hn
    rw [(sum_no hp hq hn).1] at h
    exact absurd h (by decide)
  · intro h; exact (sum_yes hp hq h).1

theorem prod_ok_iff {p q : List Mn} (hp : Pol p) (hq : Pol q) : prodE p q = 0 ↔ OkF (tot (mulT (ofP p) (ofP q))) := by
  constructor
  · intro h
    apply Classical.byContradiction
    intro hn
    rw [(prod_no hp hq hn).1] at h
    exact absurd h (by decide)
  · intro h; exact (prod_yes hp hq h).1

/-- Sums may be put together otherwise. -/
theorem sum_assoc {p q r : List Mn} (hp : Pol p) (hq : Pol q) (hr : Pol r) (h1 : sumE p q = 0) (h2 : sumE (sumL p q) r = 0) : sumE q r = 0 ∧ sumE p (sumL q r) = 0 ∧ sumL (sumL p q) r = sumL p (sumL q r) := by
  obtain ⟨_, s2, _, s4⟩ := sum_yes hp hq ((sum_ok_iff hp hq).1 h1)
  have o1 := (sum_ok_iff s2 hr).1 h2
  rw [s4] at o1
  have o2 : OkF (fun k => tot (ofP q) k + tot (ofP r) k) := o1.mono fun k => by simp only; omega
  obtain ⟨e2, t2, _, t4⟩ := sum_yes hq hr o2
  have o3 : OkF (fun k => tot (ofP p) k + tot (ofP (sumL q r)) k) := by
    rw [t4]
    exact o1.mono fun k => by simp only; omega
  obtain ⟨e3, u2, _, u4⟩ := sum_yes hp t2 o3
  obtain ⟨_, v2, _, v4⟩ := sum_yes s2 hr ((sum_ok_iff s2 hr).1 h2)
  refine ⟨e2, e3, v2.eq u2 ?_⟩
  rw [v4, u4, s4, t4]
  funext k
  simp only
  omega

/-- Products may be put together otherwise. -/
theorem prod_assoc {p q r : List Mn} (hp : Pol p) (hq : Pol q) (hr : Pol r) (h1 : prodE p q = 0) (h2 : prodE (prodL p q) r = 0) (h3 : prodE q r = 0) : prodE p (prodL q r) = 0 ∧ prodL (prodL p q) r = prodL p (prodL q r) := by
  obtain ⟨_, s2, _, s4⟩ := prod_yes hp hq ((prod_ok_iff hp hq).1 h1)
  obtain ⟨_, t2, _, t4⟩ := prod_yes hq hr ((prod_ok_iff hq hr).1 h3)
  have o1 := (prod_ok_iff s2 hr).1 h2
  have ef : tot (mulT (ofP (prodL p q)) (ofP r)) = tot (mulT (ofP p) (ofP (prodL q r))) := by
    rw [mul_congr_left (r := ofP r) s4, mulT_assoc, mul_congr_right (l := ofP p) t4]
  obtain ⟨e3, u2, _, u4⟩ := prod_yes hp t2 (ef ▸ o1)
  obtain ⟨_, v2, _, v4⟩ := prod_yes s2 hr o1
  exact ⟨e3, v2.eq u2 (by rw [v4, u4, ef])⟩

/-- Products of sums. -/
theorem prod_sum {p q r : List Mn} (hp : Pol p) (hq : Pol q) (hr : Pol r) (h1 : sumE p q = 0) (h2 : prodE (sumL p q) r = 0) : prodE p r = 0 ∧ prodE q r = 0 ∧ sumE (prodL p r) (prodL q r) = 0 ∧ prodL (sumL p q) r = sumL (prodL p r) (prodL q r) := by
  obtain ⟨_, s2, _, s4⟩ := sum_yes hp hq ((sum_ok_iff hp hq).1 h1)
  have o1 := (prod_ok_iff s2 hr).1 h2
  have ef : tot (mulT (ofP (sumL p q)) (ofP r)) = fun k => tot (mulT (ofP p) (ofP r)) k + tot (mulT (ofP q) (ofP r)) k := by
    have e : tot (ofP (sumL p q)) = tot (ofP p ++ ofP q) := by
      rw [s4]
      funext k
      rw [tot_append]
    rw [mul_congr_left (r := ofP r) e, mulT_append]
    funext k
    rw [tot_append]
  have o2 : OkF (fun k => tot (mulT (ofP p) (ofP r)) k + tot (mulT (ofP q) (ofP r)) k) := by rw [← ef]; exact o1
  obtain ⟨e1, a2, _, a4⟩ := prod_yes hp hr (o2.mono fun k => Nat.le_add_right _ _)
  obtain ⟨e2, b2, _, b4⟩ := prod_yes hq hr (o2.mono fun k => Nat.le_add_left _ _)
  have o3 : OkF (fun k => tot (ofP (prodL p r)) k + tot (ofP (prodL q r)) k) := by rw [a4, b4]; exact o2
  obtain ⟨e3, c2, _, c4⟩ := sum_yes a2 b2 o3
  obtain ⟨_, v2, _, v4⟩ := prod_yes s2 hr o1
  exact ⟨e1, e2, e3, v2.eq c2 (by rw [v4, c4, ef, a4, b4])⟩

theorem pol_nil : Pol [] := ⟨fun m hm => (by cases hm), fun m hm => (by cases hm), trivial, fun m hm => (by cases hm), by simp⟩

theorem tot_nil : tot (ofP []) = fun _ => 0 := rfl

theorem sum_zero {p : List Mn} (hp : Pol p) : sumE p [] = 0 ∧ sumL p [] = p := by
  obtain ⟨_, _, _, _, ho⟩ := hp.st
  obtain ⟨e, a2, _, a4⟩ := sum_yes hp pol_nil ho
  exact ⟨e, a2.eq hp a4⟩

theorem prod_none {p : List Mn} (hp : Pol p) : prodE p [] = 0 ∧ prodL p [] = [] := by
  have ef : tot (mulT (ofP p) (ofP [])) = fun _ => 0 := by
    have : ofP [] = [] := rfl
    rw [this, mulT_nil_right]
    rfl
  obtain ⟨e, a2, _, a4⟩ := prod_yes hp pol_nil (by rw [ef]; exact okF_zero)
  exact ⟨e, a2.eq pol_nil (by rw [a4, ef, tot_nil])⟩

theorem addK_zeros : ∀ (a : List Nat) (n : Nat), a.length = n → addK a (List.replicate n 0) = a
  | [], _, h => by subst h; rfl
  | x :: a, n, h => by
    obtain ⟨m, rfl⟩ : ∃ m, n = m + 1 := ⟨n - 1, by simp at h; omega⟩
    have ih := addK_zeros a m (by simpa using h)
    unfold addK at ih ⊢
    rw [List.replicate_succ, List.zipWith_cons_cons, ih, Nat.add_zero]

theorem mulT_one {l : Tm} (h : ∀ t ∈ l, t.1.length = 512) : mulT l [(List.replicate 512 0, 1)] = l := by
  induction l with
  | nil => rfl
  | cons t l ih =>
    rw [mulT_cons, ih fun u hu => h u (List.mem_cons_of_mem _ hu)]
    simp only [List.map_cons, List.map_nil, List.cons_append, List.nil_append]
    rw [addK_zeros _ _ (h t (by simp)), Nat.mul_one]

theorem prod_one {p : List Mn} (hp : Pol p) (hi : Pol [([1], [])]) : prodE p [([1], [])] = 0 ∧ prodL p [([1], [])] = p := by
  have e1 : ofP [([1], [])] = [(List.replicate 512 0, 1)] := by
    show [((([] : List Int).map Int.toNat ++ List.replicate (512 - 0) 0), val [1])] = _
    rw [List.map_nil, List.nil_append]
    rfl
  have ef : tot (mulT (ofP p) (ofP [([1], [])])) = tot (ofP p) := by
    rw [e1, mulT_one]
    intro t ht
    obtain ⟨m, hm, rfl⟩ := List.mem_map.1 ht
    obtain ⟨k, hk⟩ := List.mem_iff_getElem?.1 hm
    exact keyX_len (hp.dom k m hk).1
  obtain ⟨_, _, _, _, ho⟩ := hp.st
  obtain ⟨e, a2, _, a4⟩ := prod_yes hp hi (by rw [ef]; exact ho)
  exact ⟨e, a2.eq hp (by rw [a4, ef])⟩

theorem addP_of {p q : List Mn} (hp : checkE p 9223372036854775807 = 0) (hq : checkE q 9223372036854775807 = 0) : addPE p q = sumE p q ∧ addPL p q = sumL p q ∧ mulPE p q = prodE p q ∧ mulPL p q = prodL p q := by
  have h := checkAll2_iff.2 ⟨hp, hq⟩
  unfold addPE addPL mulPE mulPL
  rw [if_pos h, if_pos h, if_pos h, if_pos h]
  exact ⟨rfl, rfl, rfl, rfl⟩

theorem addP_no {p q : List Mn} (h : ¬ (checkE p 9223372036854775807 = 0 ∧ checkE q 9223372036854775807 = 0)) : ¬ addPE p q = 0 ∧ addPL p q = [] ∧ ¬ mulPE p q = 0 ∧ mulPL p q = [] := by
  have h2 : ¬ checkAllE [p, q] = 0 := fun hh => h (checkAll2_iff.1 hh)
  unfold addPE addPL mulPE mulPL
  rw [if_neg h2, if_neg h2, if_neg h2, if_neg h2]
  exact ⟨h2, rfl, h2, rfl⟩

/-- A polynomial that Check lets by. -/
def Ch (p : List Mn) : Prop := Pol p ∧ checkE p 9223372036854775807 = 0

theorem ring_comm {p q : List Mn} (hp : Ch p) (hq : Ch q) : addPE p q = addPE q p ∧ addPL p q = addPL q p ∧ mulPE p q = mulPE q p ∧ mulPL p q = mulPL q p := by
  obtain ⟨a1, a2, a3, a4⟩ := addP_of hp.2 hq.2
  obtain ⟨b1, b2, b3, b4⟩ := addP_of hq.2 hp.2
  obtain ⟨c1, c2⟩ := sum_comm hp.1 hq.1
  obtain ⟨d1, d2⟩ := prod_comm hp.1 hq.1
  rw [a1, a2, a3, a4, b1, b2, b3, b4]
  exact ⟨c1, c2, d1, d2⟩

theorem Ch.add {p q : List Mn} (hp : Ch p) (hq : Ch q) (h : addPE p q = 0) : Ch (addPL p q) := by
  obtain ⟨a1, a2, _, _⟩ := addP_of hp.2 hq.2
  rw [a1] at h
  obtain ⟨_, b2, b3, _⟩ := sum_yes hp.1 hq.1 ((sum_ok_iff hp.1 hq.1).1 h)
  rw [a2]
  exact ⟨b2, b3⟩

theorem Ch.mul {p q : List Mn} (hp : Ch p) (hq : Ch q) (h : mulPE p q = 0) : Ch (mulPL p q) := by
  obtain ⟨_, _, a1, a2⟩ := addP_of hp.2 hq.2
  rw [a1] at h
  obtain ⟨_, b2, b3, _⟩ := prod_yes hp.1 hq.1 ((prod_ok_iff hp.1 hq.1).1 h)
  rw [a2]
  exact ⟨b2, b3⟩

theorem ring_add {p q r : List Mn} (hp : Ch p) (hq : Ch q) (hr : Ch r) (h1 : addPE p q = 0) (h2 : addPE (addPL p q) r = 0) : addPE q r = 0 ∧ addPE p (addPL q r) = 0 ∧ addPL (addPL p q) r = addPL p (addPL q r) := by
  have hs := hp.add hq h1
  obtain ⟨a1, a2, _, _⟩ := addP_of hp.2 hq.2
  obtain ⟨b1, b2, _, _⟩ := addP_of hs.2 hr.2
  obtain ⟨c1, c2, _, _⟩ := addP_of hq.2 hr.2
  rw [a1] at h1
  rw [b1, a2] at h2
  obtain ⟨d1, d2, d3⟩ := sum_assoc hp.1 hq.1 hr.1 h1 h2
  have ht := hq.add hr (c1.trans d1)
  obtain ⟨e1, e2, _, _⟩ := addP_of hp.2 ht.2
  refine ⟨c1.trans d1, ?_, ?_⟩
  · rw [e1, c2]; exact d2
  · rw [b2, e2, a2, c2]; exact d3

theorem ring_mul {p q r : List Mn} (hp : Ch p) (hq : Ch q) (hr : Ch r) (h1 : mulPE p q = 0) (h2 : mulPE (mulPL p q) r = 0) (h3 : mulPE q r = 0) : mulPE p (mulPL q r) = 0 ∧ mulPL (mulPL p q) r = mulPL p (mulPL q r) := by
  have hs := hp.mul hq h1
  have ht := hq.mul hr h3
  obtain ⟨_, _, a1, a2⟩ := addP_of hp.2 hq.2
  obtain ⟨_, _, b1, b2⟩ := addP_of hs.2 hr.2
  obtain ⟨_, _, c1, c2⟩ := addP_of hq.2 hr.2
  obtain ⟨_, _, e1, e2⟩ := addP_of hp.2 ht.2
  rw [a1] at h1
  rw [b1, a2] at h2
  rw [c1] at h3
  obtain ⟨d1, d2⟩ := prod_assoc hp.1 hq.1 hr.1 h1 h2 h3
  refine ⟨?_, ?_⟩
  · rw [e1, c2]; exact d1
  · rw [b2, e2, a2, c2]; exact d2

theorem ring_both {p q r : List Mn} (hp : Ch p) (hq : Ch q) (hr : Ch r) (h1 : addPE p q = 0) (h2 : mulPE (addPL p q) r = 0) : mulPE p r = 0 ∧ mulPE q r = 0 ∧ addPE (mulPL p r) (mulPL q r) = 0 ∧ mulPL (addPL p q) r = addPL (mulPL p r) (mulPL q r) := by
  have hs := hp.add hq h1
  obtain ⟨a1, a2, _, _⟩ := addP_of hp.2 hq.2
  obtain ⟨_, _, b1, b2⟩ := addP_of hs.2 hr.2
  obtain ⟨_, _, c1, c2⟩ := addP_of hp.2 hr.2
  obtain ⟨_, _, e1, e2⟩ := addP_of hq.2 hr.2
  rw [a1] at h1
  rw [b1, a2] at h2
  obtain ⟨d1, d2, d3, d4⟩ := prod_sum hp.1 hq.1 hr.1 h1 h2
  have hz := hp.mul hr (c1.trans d1)
  have hv := hq.mul hr (e1.trans d2)
  obtain ⟨f1, f2, _, _⟩ := addP_of hz.2 hv.2
  refine ⟨c1.trans d1, e1.trans d2, ?_, ?_⟩
  · rw [f1, c2, e2]; exact d3
  · rw [b2, f2, a2, c2, e2]; exact d4

theorem ch_nil : Ch [] := ⟨pol_nil, by decide +kernel⟩
theorem ch_one : Ch [([1], [])] := by
  have h : checkE [([1], [])] 9223372036854775807 = 0 := by decide +kernel
  exact ⟨Pol.of (fun m hm => by simp at hm; subst hm; intro x hx; simp at hx; omega) (by omega) h, h⟩

theorem ring_units {p : List Mn} (hp : Ch p) : (addPE p [] = 0 ∧ addPL p [] = p) ∧ (mulPE p [([1], [])] = 0 ∧ mulPL p [([1], [])] = p) ∧ (mulPE p [] = 0 ∧ mulPL p [] = []) := by
  obtain ⟨a1, a2, a3, a4⟩ := addP_of hp.2 ch_nil.2
  obtain ⟨_, _, b3, b4⟩ := addP_of hp.2 ch_one.2
  rw [a1, a2, a3, a4, b3, b4]
  exact ⟨sum_zero hp.1, prod_one hp.1 ch_one.1, prod_none hp.1⟩

theorem check_any_iff (p : List Mn) : checkE p 1099511627776 = 0 ↔ checkE p 9223372036854775807 = 0 := ⟨fun h => check_vars (by omega) (by omega) h, fun h => check_vars (by omega) (by omega) h⟩

end Go.Proofs.Ytfifgmcjilkigaa
