/- Texts of the proof, one behind the other. -/
import Derived.Test.YtdjmjhlbjcgoiaaGreatDoorOwn13
import Derived.Deep.Quiet
import Derived.BigQuiet
/- Sums and products by their totals: plain data. -/
namespace Go.Proofs.YtdjmjhlbjcgoiaaGreatDoor
open Go.RowKit Go.Maps

theorem cmpX_anti : ∀ {a b : List Int}, cmpX a b < 0 → ¬ cmpX b a < 0
  | [], [], h => by simp [cmpX] at h
  | [], _ :: _, _ => by unfold cmpX; decide
  | _ :: _, [], h => by unfold cmpX at h; exact absurd h (by decide)
  | x :: a, y :: b, h => by
    unfold cmpX at h ⊢
    by_cases h1 : x < y
    · rw [if_neg (by omega), if_pos h1]
      decide
    · rw [if_neg h1] at h
      by_cases h2 : y < x
      · rw [if_pos h2] at h
        exact absurd h (by decide)
      · rw [if_neg h2] at h
        rw [if_neg h2, if_neg h1]
        exact cmpX_anti h

theorem monB_partsX {m : Mn} (h : monB m = true) : m.2.length = 0 ∨ ¬ m.2[m.2.length - 1]? = some 0 := by
  obtain ⟨c, es⟩ := m
  simp only [monB, Bool.and_eq_true, List.all_eq_true, decide_eq_true_eq, Bool.or_eq_true, Bool.not_eq_true', beq_eq_false_iff_ne, ne_eq, beq_iff_eq] at h
  exact h.2

theorem unX_key {m : Mn} (h : monB m = true) (hs : Small m.2) : unX (keyX m.2) = m.2 := by
  have hm := (monB_partsX h)
  refine unX_keyX hs.1 (fun k x hx => (hs.2 k x hx).1) ?_
  by_cases h0 : m.2.length = 0
  · exact .inl h0
  · right
    have hlt : m.2.length - 1 < m.2.length := by omega
    refine ⟨m.2[m.2.length - 1], List.getElem?_eq_getElem hlt, fun e => ?_⟩
    rcases hm with h1 | h1
    · exact h0 h1
    · exact h1 (by rw [List.getElem?_eq_getElem hlt, e])

theorem key_lt {m n : Mn} (hm : monB m = true) (hn : monB n = true) (sm : Small m.2) (sn : Small n.2) (h : cmpX m.2 n.2 < 0) : ltK (keyX m.2) (keyX n.2) := by
  by_cases e : keyX m.2 = keyX n.2
  · have e2 : m.2 = n.2 := by rw [← unX_key hm sm, ← unX_key hn sn, e]
    rw [e2, cmpX_self] at h
    exact absurd h (by decide)
  · by_cases hlt : ltK (keyX m.2) (keyX n.2)
    · exact hlt
    · have h2 := cmp_trim (by rw [keyX_len sm.1, keyX_len sn.1]) (ltK_or e hlt)
      rw [unX_key hm sm, unX_key hn sn] at h2
      exact absurd h2 (cmpX_anti h)

theorem sorted_lt : ∀ {p : List Mn}, Pol p → (p.map fun m => ((keyX m.2, m.1) : List Nat × List Nat)).Pairwise (fun a b => ltK a.1 b.1)
  | [], _ => List.Pairwise.nil
  | m :: p, h => by
    have hp : Pol p := ⟨fun n hn => h.lim n (List.mem_cons_of_mem _ hn), fun n hn => h.mon n (List.mem_cons_of_mem _ hn), h.sort.tail, fun n hn => h.small n (List.mem_cons_of_mem _ hn), by have := h.len; simp at this; omega⟩
    have ih := sorted_lt hp
    rw [List.map_cons, List.pairwise_cons]
    refine ⟨?_, ih⟩
    cases p with
    | nil => intro q hq; simp at hq
    | cons n p =>
      have h1 : ltK (keyX m.2) (keyX n.2) := key_lt (h.mon m (by simp)) (h.mon n (by simp)) (h.dom 0 m rfl) (h.dom 1 n rfl) h.sort.1
      intro q hq
      rw [List.map_cons, List.pairwise_cons] at ih
      rw [List.map_cons] at hq
      rcases List.mem_cons.1 hq with rfl | hq
      · exact h1
      · exact ltK_trans h1 (ih.1 q hq)

/-- A polynomial that Check lets by is the row of its totals. -/
theorem Pol.st {p : List Mn} (h : Pol p) : ∃ L, StY L (tot (ofP p)) ∧ (∀ q ∈ L, q.1.length = 512) ∧ rowLY L = p ∧ OkF (tot (ofP p)) := by
  have hr : Rising (p.map fun m => ((keyX m.2, m.1) : List Nat × List Nat)) := sorted_lt h
  have hrow : rowLY (p.map fun m => ((keyX m.2, m.1) : List Nat × List Nat)) = p := by
    unfold rowLY
    rw [List.map_map]
    conv => rhs; rw [← List.map_id p]
    refine List.map_congr_left fun m hm => ?_
    obtain ⟨k, hk⟩ := List.mem_iff_getElem?.1 hm
    have := unX_key (h.mon m hm) (h.dom k m hk)
    simp only [Function.comp, id]
    rw [this]
  have hlen : ∀ q ∈ p.map fun m => ((keyX m.2, m.1) : List Nat × List Nat), q.1.length = 512 := by
    intro q hq
    obtain ⟨m, hm, rfl⟩ := List.mem_map.1 hq
    obtain ⟨k, hk⟩ := List.mem_iff_getElem?.1 hm
    exact keyX_len (h.dom k m hk).1
  have htot : ∀ k, val (coefK (p.map fun m => ((keyX m.2, m.1) : List Nat × List Nat)) k) = tot (ofP p) k := by
    intro k
    have key : ∀ {M : LkY}, Rising M → tot (ofL M) k = val (coefK M k) := by
      intro M
      induction M with
      | nil => intro _; rfl
      | cons q M ih =>
        intro hr2
        unfold Rising at hr2
        rw [List.pairwise_cons] at hr2
        have e : ofL (q :: M) = (q.1, val q.2) :: ofL M := rfl
        rw [e, tot, ih hr2.2]
        by_cases hq : q.1 = k
        · subst hq
          rw [if_pos rfl, coefK_head]
          have : coefK M q.1 = [] := by
            refine coefK_none ?_
            rw [Bool.eq_false_iff]
            intro hh
            obtain ⟨d, hd⟩ := hasK_iff.1 hh
            exact ltK_irrefl q.1 (hr2.1 (q.1, d) hd)
          rw [this]
          simp [val]
        · rw [if_neg hq, coefK_tail (fun e => hq e.symm), Nat.zero_add]
    rw [← key hr]
    congr 1
    unfold ofL ofP
    rw [List.map_map]
    rfl
  have hst : StY (p.map fun m => ((keyX m.2, m.1) : List Nat × List Nat)) (tot (ofP p)) := by
    refine ⟨hr, fun q hq => ?_, htot⟩
    obtain ⟨m, hm, rfl⟩ := List.mem_map.1 hq
    obtain ⟨g1, g2, g3, _⟩ := h.good hm
    exact ⟨RtY.of g1 g2, val_pos g1 g2 g3⟩
  refine ⟨_, hst, hlen, hrow, hst.ok (by rw [List.length_map]; exact h.len) fun k hk x hx => ?_⟩
  obtain ⟨q, hq, rfl⟩ := List.mem_map.1 ((hst.keys k).2 hk)
  obtain ⟨m, hm, rfl⟩ := List.mem_map.1 hq
  obtain ⟨i, hi⟩ := List.mem_iff_getElem?.1 hm
  obtain ⟨j, hj⟩ := List.mem_iff_getElem?.1 hx
  exact keyX_le (h.dom i m hi) j x hj

end Go.Proofs.YtdjmjhlbjcgoiaaGreatDoor

/- Sums and products: their laws, by their totals: plain data. -/
namespace Go.Proofs.YtdjmjhlbjcgoiaaGreatDoor
open Go.RowKit Go.Maps

/-- Each once. -/
def dd : List (List Nat) → List (List Nat)
  | [] => []
  | a :: l => if a ∈ dd l then dd l else a :: dd l

theorem mem_dd : ∀ {l : List (List Nat)} {x : List Nat}, x ∈ dd l ↔ x ∈ l
  | [], x => by simp [dd]
  | a :: l, x => by
    unfold dd
    split
    · rename_i h
      rw [mem_dd, List.mem_cons]
      constructor
      · exact .inr
      · rintro (rfl | hx)
        · exact mem_dd.1 h
        · exact hx
    · rw [List.mem_cons, List.mem_cons, mem_dd]

theorem nodup_dd : ∀ l : List (List Nat), (dd l).Nodup
  | [] => List.Pairwise.nil
  | a :: l => by
    unfold dd
    split
    · exact nodup_dd l
    · rename_i h
      exact List.nodup_cons.2 ⟨h, nodup_dd l⟩

/-- A sum of terms, each times what a key is worth. -/
def wsum (G : List Nat → Nat) : Tm → Nat
  | [] => 0
  | t :: l => t.2 * G t.1 + wsum G l

def ksum (F : List Nat → Nat) : List (List Nat) → Nat
  | [] => 0
  | k :: K => F k + ksum F K

theorem ksum_add (F G : List Nat → Nat) : ∀ K, ksum (fun k => F k + G k) K = ksum F K + ksum G K
  | [] => rfl
  | k :: K => by unfold ksum; rw [ksum_add F G K]; omega

theorem ksum_none {c : Nat} {a : List Nat} {G : List Nat → Nat} : ∀ {K : List (List Nat)}, a ∉ K → ksum (fun k => (if a = k then c else 0) * G k) K = 0
  | [], _ => rfl
  | k :: K, h => by
    rw [List.mem_cons, not_or] at h
    unfold ksum
    rw [if_neg h.1, ksum_none h.2]
    simp

theorem ksum_one {c : Nat} {a : List Nat} {G : List Nat → Nat} : ∀ {K : List (List Nat)}, K.Nodup → a ∈ K → ksum (fun k => (if a = k then c else 0) * G k) K = c * G a
  | [], _, h => by cases h
  | k :: K, hn, h => by
    rw [List.nodup_cons] at hn
    unfold ksum
    by_cases e : a = k
    · subst e
      rw [if_pos rfl, ksum_none hn.1, Nat.add_zero]
    · rw [if_neg e, ksum_one hn.2 ((List.mem_cons.1 h).resolve_left e)]
      omega

theorem ksum_zero (G : List Nat → Nat) : ∀ K, ksum (fun k => 0 * G k) K = 0
  | [] => rfl
  | k :: K => by unfold ksum; rw [ksum_zero G K]; omega

theorem wsum_ksum (G : List Nat → Nat) {K : List (List Nat)} (hn : K.Nodup) : ∀ {l : Tm}, (∀ t ∈ l, t.1 ∈ K) → wsum G l = ksum (fun k => tot l k * G k) K
  | [], _ => (ksum_zero G K).symm
  | t :: l, h => by
    have e : (fun k => tot (t :: l) k * G k) = fun k => (if t.1 = k then t.2 else 0) * G k + tot l k * G k := by
      funext k
      rw [tot, Nat.add_mul]
    rw [wsum, e, ksum_add, ksum_one hn (h t (by simp)), wsum_ksum G hn fun u hu => h u (List.mem_cons_of_mem _ hu)]

/-- Such a sum goes by the totals alone. -/
theorem wsum_congr (G : List Nat → Nat) {l l' : Tm} (h : tot l = tot l') : wsum G l = wsum G l' := by
  have hm : ∀ t ∈ l ++ l', t.1 ∈ dd ((l ++ l').map (·.1)) := fun t ht => mem_dd.2 (List.mem_map.2 ⟨t, ht, rfl⟩)
  rw [wsum_ksum G (nodup_dd _) fun t ht => hm t (List.mem_append_left _ ht), wsum_ksum G (nodup_dd _) fun t ht => hm t (List.mem_append_right _ ht), h]

theorem tot_scale (a : List Nat) (c : Nat) (k : List Nat) : ∀ r : Tm, tot (r.map fun u => (addK a u.1, c * u.2)) k = c * tot (r.map fun u => (addK a u.1, u.2)) k
  | [] => rfl
  | u :: r => by
    rw [List.map_cons, List.map_cons, tot, tot, tot_scale a c k r, Nat.mul_add]
    simp only
    split
    · rfl
    · simp

theorem tot_mul (r : Tm) (k : List Nat) : ∀ l : Tm, tot (mulT l r) k = wsum (fun a => tot (r.map fun u => (addK a u.1, u.2)) k) l
  | [] => rfl
  | t :: l => by rw [mulT_cons, tot_append, tot_mul r k l, wsum, tot_scale]

theorem mul_congr_left {l l' r : Tm} (h : tot l = tot l') : tot (mulT l r) = tot (mulT l' r) := by
  funext k
  rw [tot_mul, tot_mul, wsum_congr _ h]

theorem addK_comm (a b : List Nat) : addK a b = addK b a := by
  unfold addK
  rw [List.zipWith_comm]
  congr 1
  funext x y
  omega

theorem addK_assoc : ∀ (a b c : List Nat), addK (addK a b) c = addK a (addK b c)
  | [], b, c => by cases b <;> cases c <;> rfl
  | _ :: _, [], c => by cases c <;> rfl
  | _ :: _, _ :: _, [] => rfl
  | x :: a, y :: b, z :: c => by
    have ih := addK_assoc a b c
    unfold addK at ih ⊢
    simp only [List.zipWith_cons_cons]
    rw [ih, Nat.add_assoc]

theorem mulT_cons_right (t : List Nat × Nat) (l : Tm) (k : List Nat) : ∀ r : Tm, tot (mulT r (t :: l)) k = tot (r.map fun u => (addK u.1 t.1, u.2 * t.2)) k + tot (mulT r l) k
  | [] => rfl
  | u :: r => by
    rw [mulT_cons, mulT_cons, tot_append, tot_append, mulT_cons_right t l k r, List.map_cons, List.map_cons, tot, tot]
    omega

theorem mulT_nil_right : ∀ r : Tm, mulT r [] = []
  | [] => rfl
  | u :: r => by rw [mulT_cons, mulT_nil_right r]; rfl

theorem mul_comm_tot : ∀ l r : Tm, tot (mulT l r) = tot (mulT r l)
  | [], r => by rw [mulT_nil_right]; rfl
  | t :: l, r => by
    funext k
    rw [mulT_cons, tot_append, mulT_cons_right, mul_comm_tot l r]
    congr 2
    refine List.map_congr_left fun u _ => ?_
    rw [addK_comm, Nat.mul_comm]

theorem mul_congr_right {l r r' : Tm} (h : tot r = tot r') : tot (mulT l r) = tot (mulT l r') := by
  rw [mul_comm_tot l r, mul_comm_tot l r', mul_congr_left h]

theorem mulT_append (l l' r : Tm) : mulT (l ++ l') r = mulT l r ++ mulT l' r := by
  unfold mulT
  rw [List.flatMap_append]

theorem mulT_map (t : List Nat × Nat) (c : Tm) : ∀ b : Tm, mulT (b.map fun u => (addK t.1 u.1, t.2 * u.2)) c = (mulT b c).map fun u => (addK t.1 u.1, t.2 * u.2)
  | [] => rfl
  | u :: b => by
    rw [List.map_cons, mulT_cons, mulT_cons, List.map_append, mulT_map t c b, List.map_map]
    congr 1
    refine List.map_congr_left fun v _ => ?_
    simp only [Function.comp]
    rw [addK_assoc, Nat.mul_assoc]

theorem mulT_assoc (b c : Tm) : ∀ a : Tm, mulT (mulT a b) c = mulT a (mulT b c)
  | [] => rfl
  | t :: a => by rw [mulT_cons, mulT_append, mulT_assoc b c a, mulT_map, mulT_cons]

theorem keysLe_puts : ∀ {p : List Mn} {L : LkY}, DomM p → KeysLe L → KeysLe (puts L p).1
  | [], L, _, h => h
  | m :: p, L, hd, h => by
    have hk : (keyX m.2).length = 512 ∧ ∀ x ∈ keyX m.2, x ≤ 64 := ⟨keyX_len (hd 0 m rfl).1, fun x hx => by
      obtain ⟨j, hj⟩ := List.mem_iff_getElem?.1 hx
      exact keyX_le (hd 0 m rfl) j x hj⟩
    unfold puts
    split
    · exact keysLe_puts (fun k x hx => hd (k + 1) x hx) (keysLe_putL h hk)
    · exact keysLe_putL h hk

theorem keysLe_nil : KeysLe [] := fun q hq => by cases hq

theorem prod_yes {p q : List Mn} (hp : Pol p) (hq : Pol q) (ho : OkF (tot (mulT (ofP p) (ofP q)))) : prodE p q = 0 ∧ Pol (prodL p q) ∧ checkE (prodL p q) 9223372036854775807 = 0 ∧ tot (ofP (prodL p q)) = tot (mulT (ofP p) (ofP q)) := by
  have h := prods_spec (fun n hn => hq.good hn) hq.dom (fun m hm => hp.good hm) hp.dom StY.nil okF_zero
  simp only [Nat.zero_add] at h
  rcases h with ⟨e, _, hs⟩ | ⟨_, hno⟩
  · have hk : ∀ x ∈ (prods q [] p).1, x.1.length = 512 := fun x hx => (keysLe_prods hq.dom hp.dom keysLe_nil x hx).1
    obtain ⟨r1, r2, r3⟩ := hs.row ho hk
    have e2 : prodE p q = 0 := e
    have e3 : prodL p q = rowLY (prods q [] p).1 := by unfold prodL; rw [if_pos e2]
    rw [e3]
    exact ⟨e, r1, r2, r3⟩
  · exact absurd ho hno

theorem prod_no {p q : List Mn} (hp : Pol p) (hq : Pol q) (ho : ¬ OkF (tot (mulT (ofP p) (ofP q)))) : prodE p q = 2 ∧ prodL p q = [] := by
  rcases prod_spec hp hq with ⟨_, h, _⟩ | ⟨e, _, h⟩
  · exact absurd h ho
  · exact ⟨e, h⟩

/-- The totals fix the polynomial. -/
theorem Pol.eq {p q : List Mn} (hp : Pol p) (hq : Pol q) (h : tot (ofP p) = tot (ofP q)) : p = q := by
  obtain ⟨L, s1, _, r1, _⟩ := hp.st
  obtain ⟨M, s2, _, r2, _⟩ := hq.st
  rw [← h] at s2
  rw [← r1, ← r2, s1.eq s2]

theorem addP_of {p q : List Mn} (hp : checkE p 9223372036854775807 = 0) (hq : checkE q 9223372036854775807 = 0) : addPE p q = sumE p q ∧ addPL p q = sumL p q ∧ mulPE p q = prodE p q ∧ mulPL p q = prodL p q := by
  have h := checkAll2_iff.2 ⟨hp, hq⟩
  unfold addPE addPL mulPE mulPL
  rw [if_pos h, if_pos h, if_pos h, if_pos h]
  exact ⟨rfl, rfl, rfl, rfl⟩

/-- A polynomial that Check lets by. -/
def Ch (p : List Mn) : Prop := Pol p ∧ checkE p 9223372036854775807 = 0

end Go.Proofs.YtdjmjhlbjcgoiaaGreatDoor

/- What the document's Check answers is what Check answers: plain data. -/
namespace Go.Proofs.YtdjmjhlbjcgoiaaGreatDoor
open Go.RowKit Go.Maps

/-- The document's order, from the front on. -/
def ordN : List Int → Int
  | [] => 0
  | b :: fs => if 0 < b then -1 else if b < 0 then 1 else ordN fs

def ordZ : List Int → List Int → Int
  | [], fs => ordN fs
  | a :: es, [] => if a < 0 then -1 else if 0 < a then 1 else ordZ es []
  | a :: es, b :: fs => if a < b then -1 else if b < a then 1 else ordZ es fs

theorem ordGo_eq (es fs : List Int) : ∀ n k, max es.length fs.length - k = n → ordGo es fs n k = ordZ (es.drop k) (fs.drop k) := by
  intro n
  induction n with
  | zero =>
    intro k hk
    rw [List.drop_of_length_le (by omega), List.drop_of_length_le (by omega)]
    rfl
  | succ n ih =>
    intro k hk
    rw [ordGo, ih (k + 1) (by omega)]
    by_cases h1 : k < es.length
    · have e1 : expI es k = es[k] := by unfold expI; rw [List.getElem?_eq_getElem h1]; rfl
      rw [List.drop_eq_getElem_cons h1, e1]
      by_cases h2 : k < fs.length
      · have e2 : expI fs k = fs[k] := by unfold expI; rw [List.getElem?_eq_getElem h2]; rfl
        rw [List.drop_eq_getElem_cons h2, e2]
        rfl
      · have e2 : expI fs k = 0 := by unfold expI; rw [List.getElem?_eq_none (by omega)]; rfl
        rw [e2, List.drop_of_length_le (show fs.length ≤ k by omega), List.drop_of_length_le (show fs.length ≤ k + 1 by omega)]
        rfl
    · have e1 : expI es k = 0 := by unfold expI; rw [List.getElem?_eq_none (by omega)]; rfl
      have h2 : k < fs.length := by omega
      have e2 : expI fs k = fs[k] := by unfold expI; rw [List.getElem?_eq_getElem h2]; rfl
      rw [e1, e2, List.drop_eq_getElem_cons h2, List.drop_of_length_le (show es.length ≤ k by omega), List.drop_of_length_le (show es.length ≤ k + 1 by omega)]
      rfl

theorem ordX_eq (es fs : List Int) : ordX es fs = ordZ es fs := by
  unfold ordX
  rw [ordGo_eq es fs _ 0 (by omega)]
  rfl

/-- Exponents as a monomial has them. -/
def RightX (es : List Int) : Prop := (∀ x ∈ es, 0 ≤ x) ∧ es.getLast? ≠ some 0

theorem RightX.tail {a : Int} {es : List Int} (h : RightX (a :: es)) (hne : es ≠ []) : RightX es :=
  ⟨fun x hx => h.1 x (List.mem_cons_of_mem _ hx), by have := h.2; rwa [List.getLast?_cons_of_ne_nil hne] at this⟩

theorem ordZ_nil_left : ∀ {fs : List Int}, RightX fs → fs ≠ [] → ordN fs = -1
  | [], _, h => absurd rfl h
  | b :: fs, h, _ => by
    unfold ordN
    have hb := h.1 b (by simp)
    by_cases h0 : 0 < b
    · rw [if_pos h0]
    · have hb0 : b = 0 := by omega
      subst hb0
      rw [if_neg (by omega), if_neg (by omega)]
      have hne : fs ≠ [] := by rintro rfl; exact h.2 rfl
      exact ordZ_nil_left (h.tail hne) hne

theorem ordZ_nil_right : ∀ {fs : List Int}, RightX fs → fs ≠ [] → ordZ fs [] = 1
  | [], _, h => absurd rfl h
  | b :: fs, h, _ => by
    unfold ordZ
    have hb := h.1 b (by simp)
    by_cases h0 : 0 < b
    · rw [if_neg (by omega), if_pos h0]
    · have hb0 : b = 0 := by omega
      subst hb0
      rw [if_neg (by omega), if_neg (by omega)]
      have hne : fs ≠ [] := by rintro rfl; exact h.2 rfl
      exact ordZ_nil_right (h.tail hne) hne

theorem ordZ_cmpX : ∀ {es fs : List Int}, (es = [] ∨ RightX es) → (fs = [] ∨ RightX fs) → ordZ es fs = cmpX es fs
  | [], [], _, _ => rfl
  | [], b :: fs, _, h => by show ordN (b :: fs) = _; rw [ordZ_nil_left (h.resolve_left (by simp)) (by simp)]; rfl
  | a :: es, [], h, _ => by rw [ordZ_nil_right (h.resolve_left (by simp)) (by simp)]; rfl
  | a :: es, b :: fs, h, h' => by
    have h1 := h.resolve_left (by simp)
    have h2 := h'.resolve_left (by simp)
    unfold ordZ cmpX
    split
    · rfl
    · split
      · rfl
      · refine ordZ_cmpX ?_ ?_
        · by_cases he : es = []
          · exact .inl he
          · exact .inr (h1.tail he)
        · by_cases he : fs = []
          · exact .inl he
          · exact .inr (h2.tail he)

theorem monB_parts {m : Mn} (h : monB m = true) : m.1 ≠ [] ∧ rightB m.1 = true ∧ (m.2 = [] ∨ RightX m.2) := by
  obtain ⟨c, es⟩ := m
  simp only [monB, Bool.and_eq_true, List.all_eq_true, decide_eq_true_eq, Bool.or_eq_true, Bool.not_eq_true', beq_eq_false_iff_ne, ne_eq, beq_iff_eq] at h
  obtain ⟨⟨⟨h1, h2⟩, h3⟩, h4⟩ := h
  refine ⟨fun e => h1 (by simp only at e; rw [e]; rfl), h2, ?_⟩
  by_cases he : es = []
  · exact .inl he
  · refine .inr ⟨h3, ?_⟩
    rcases h4 with h4 | h4
    · exact absurd (List.eq_nil_of_length_eq_zero h4) he
    · rw [List.getLast?_eq_getElem?]
      exact h4

theorem ordX_cmpX {m n : Mn} (h : monB m = true) (h' : monB n = true) : ordX m.2 n.2 = cmpX m.2 n.2 := by
  rw [ordX_eq]
  exact ordZ_cmpX (monB_parts h).2.2 (monB_parts h').2.2

/-- Whether the monomial of that number is right where it stands, as the document's Check asks it. -/
def okR (p : List Mn) (vars : Int) (k : Nat) : Bool :=
  (match p[k]? with | some m => monB m && decide ((m.2.length : Int) ≤ vars) | none => false) && (k == 0 || decide (ordX (expsAt p (k - 1)) (expsAt p k) < 0))

def polyR (p : List Mn) (vars : Int) : Bool := (List.range p.length).all (okR p vars)

theorem polyR_iff {p : List Mn} {vars : Int} : polyR p vars = true ↔ ∀ k, k < p.length → okR p vars k = true := by
  simp [polyR, List.all_eq_true]

def checkR (p : List Mn) (vars : Int) : Int := if vars < 0 then 1 else if polyR p vars = false then 20 else if p.all smallR = false then 2 else if p.length ≤ 256 then 0 else 2

theorem polyR_eq (p : List Mn) (vars : Int) : polyR p vars = polyB p vars := by
  have key : (∀ k, k < p.length → ∃ m, p[k]? = some m ∧ monB m = true) → ∀ k, k < p.length → okR p vars k = okAt p vars k := by
    intro hm k hk
    unfold okR okAt
    by_cases h0 : k = 0
    · subst h0
      obtain ⟨m, h1, _⟩ := hm 0 hk
      rw [h1]
      simp
    · obtain ⟨m, h1, h2⟩ := hm k hk
      obtain ⟨n, h3, h4⟩ := hm (k - 1) (by omega)
      have e : ordX (expsAt p (k - 1)) (expsAt p k) = cmpX (expsAt p (k - 1)) (expsAt p k) := by
        unfold expsAt
        rw [h1, h3]
        exact ordX_cmpX h4 h2
      rw [e, h1]
  have mon1 : (∀ k, k < p.length → okR p vars k = true) → ∀ k, k < p.length → ∃ m, p[k]? = some m ∧ monB m = true := by
    intro h k hk
    have := h k hk
    unfold okR at this
    rw [List.getElem?_eq_getElem hk] at this ⊢
    simp only [Bool.and_eq_true] at this
    exact ⟨_, rfl, this.1.1⟩
  have mon2 : (∀ k, k < p.length → okAt p vars k = true) → ∀ k, k < p.length → ∃ m, p[k]? = some m ∧ monB m = true := by
    intro h k hk
    have := h k hk
    unfold okAt at this
    rw [List.getElem?_eq_getElem hk] at this ⊢
    simp only [Bool.and_eq_true] at this
    exact ⟨_, rfl, this.1.1⟩
  rw [Bool.eq_iff_iff, polyR_iff, polyB_iff]
  exact ⟨fun h k hk => (key (mon1 h) k hk) ▸ h k hk, fun h k hk => (key (mon2 h) k hk).symm ▸ h k hk⟩

theorem polyB_mon {p : List Mn} {vars : Int} (h : polyB p vars = true) {m : Mn} (hm : m ∈ p) : monB m = true := by
  obtain ⟨k, hk⟩ := List.mem_iff_getElem?.1 hm
  have := polyB_iff.1 h k (List.getElem?_eq_some_iff.1 hk).1
  unfold okAt at this
  rw [hk] at this
  simp only [Bool.and_eq_true] at this
  exact this.1.1

theorem smallR_eq {m : Mn} (h : monB m = true) : smallR m = smallB m := by
  have := length_le_of_right (monB_parts h).2.1
  unfold smallR smallB
  rw [decide_eq_true this, Bool.true_and, Bool.and_comm]

theorem all_congr' {α : Type} {p : List α} {f g : α → Bool} (h : ∀ x ∈ p, f x = g x) : p.all f = p.all g := by
  rw [Bool.eq_iff_iff, List.all_eq_true, List.all_eq_true]
  exact ⟨fun H x hx => h x hx ▸ H x hx, fun H x hx => (h x hx).symm ▸ H x hx⟩

theorem checkR_eq (p : List Mn) (vars : Int) : checkR p vars = checkE p vars := by
  unfold checkR checkE
  rw [polyR_eq]
  split
  · rfl
  · cases hp : polyB p vars
    · rfl
    · rw [all_congr' (fun m hm => smallR_eq (polyB_mon hp hm))]
      simp only [Bool.true_eq_false, if_false]
      unfold boundsB
      by_cases h : p.length ≤ 256
      · rw [decide_eq_true h, Bool.true_and, if_pos h]
      · rw [decide_eq_false h, Bool.false_and, if_neg h]
        split <;> rfl

end Go.Proofs.YtdjmjhlbjcgoiaaGreatDoor

/- What the document's Check answers. -/
namespace Go.Proofs.YtdjmjhlbjcgoiaaGreatDoor
open Go.RowKit Go.Maps Go.BigFrame

theorem okR_no {p : List Mn} {vars : Int} {k : Nat} {m : Mn} (hk : p[k]? = some m) (h : (monB m && decide ((m.2.length : Int) ≤ vars)) = false) : okR p vars k = false := by
  unfold okR
  rw [hk]
  simp only [h, Bool.false_and]

theorem okR_0 {p : List Mn} {vars : Int} {m : Mn} (hk : p[0]? = some m) (h : (monB m && decide ((m.2.length : Int) ≤ vars)) = true) : okR p vars 0 = true := by
  unfold okR
  rw [hk]
  simp only [h]
  rfl

theorem okR_s {p : List Mn} {vars : Int} {j : Nat} {m n : Mn} (hk : p[j + 1]? = some m) (hj : p[j]? = some n) (h : (monB m && decide ((m.2.length : Int) ≤ vars)) = true) : okR p vars (j + 1) = decide (ordX n.2 m.2 < 0) := by
  unfold okR expsAt
  rw [hk, Nat.add_sub_cancel, hj]
  simp only [h, Bool.true_and, Option.map_some, Option.getD_some]
  rw [show (j + 1 == 0) = false from rfl, Bool.false_or]

theorem polyR_no {p : List Mn} {vars : Int} {k : Nat} (hk : k < p.length) (h : okR p vars k = false) : polyR p vars = false := by
  rw [Bool.eq_false_iff]
  intro hh
  rw [polyR_iff.1 hh k hk] at h
  cases h

theorem region_belowY {P : Program} {id : Nat} {Q : Exit → Act → World → Prop} {a : Act} {w : World} {l : List Oper} (hm : P.follows .mixedOrders = true) (hB : Region.lexB .any l.toArray = true)
    (h : wpQuiet P l.toArray (fun w' => Below w.heap.size w w') (fun a' => ∀ w', Below w.heap.size w w' → Q .normal a' w') l a) : (Code.region id l.toArray true).wp P Q a w :=
  wp_region_quiet (C := fun w' => Below w.heap.size w w') hm hB (Below.refl _ _).drew (by simpa using h)

set_option maxRecDepth 100000 in
set_option maxHeartbeats 40000000 in
theorem refCheck_anyY (v : Value) (p : List Mn) (vars : Int) (w : World) (h : Ms w v p) (hv1 : -9223372036854775808 ≤ vars) (hv2 : vars ≤ 9223372036854775807) :
    Calls Tryz.prog 42 #[v, .int .i64 vars] w fun e w' => e = .returned (.int .i64 (checkR p vars)) ∧ Below w.heap.size w w' := by
  by_cases h0 : vars < 0
  · have HF : Hid (checkR p vars = 1) := by show _ = _; unfold checkR; rw [if_pos h0]
    go_enter Tryz.func42, Tryz.ntmps42
    go_wp2
    go_ret
    exact ⟨ret1i HF.out.symm, Below.refl _ _⟩
  have H0 : Hid (0 ≤ vars) := by show _ ≤ _; omega
  have hnn : 0 ≤ vars := by omega
  obtain ⟨ao, cap, rfl, hao, hca, q0⟩ := Row.flat h
  unfold maxLen at hca
  have HM : Hid (Ms w (.slice ao p.length cap) p) := h
  clear h q0 h0
  go_enter Tryz.func42, Tryz.ntmps42
  go_wp2
  go_loopw [5] (fun i wr => ∃ k : Nat, k ≤ p.length ∧ i = .int .i64 k ∧ (∀ j : Nat, j < k → okR p vars j = true) ∧ Below w.heap.size w wr) (fun i _ => p.length - (intOf i).toNat)
  case atStart => exact ⟨0, by omega, rfl, fun j hj => absurd hj (by omega), Below.refl _ _⟩
  case round =>
    obtain ⟨k, hk, rfl, hp, hbl⟩ := hrel
    have HP : Hid (∀ j : Nat, j < k → okR p vars j = true) := hp
    clear hp
    by_cases hlt : k < p.length
    · have HMr : Hid (Ms wr (.slice ao p.length cap) p) := HM.out.kp (Kp.of_below hbl)
      obtain ⟨g, off, c, es, a1, c1, a2, c2, rfl, hm1, hc0, hc1, hmo, hl1, hl2, hl3, hl4⟩ := HMr.out.at hlt
      have HX : Hid (p[k]? = some (c, es)) := hm1
      have HMo : Hid (Mo wr (.slice a1 c.length c1) (.slice a2 es.length c2) (c, es)) := hmo
      have HBd : Hid (Below w.heap.size w wr) := hbl
      clear hm1 hmo
      cases hmb : monB (c, es)
      · have HF : Hid (checkR p vars = 20) := by
          show _ = _
          unfold checkR
          rw [if_neg (Int.not_lt.2 H0.out), if_pos (polyR_no hlt (okR_no HX.out (by rw [hmb]; rfl)))]
        have HMb : Hid (monB (c, es) = false) := hmb
        clear hmb
        go_wp2_with fail
        refine region_belowY (by kernel_rfl) (by kernel_rfl) ?_
        (go_big_quiet_want; go_big_quiet_op; go_big_quiet_on)
        (go_big_quiet_want; go_big_quiet_op; go_big_quiet_on)
        go_big_quiet_want
        refine ⟨.pointer (some ⟨g, off + k * 2, none⟩), fun w' hw' => ?_, ?_⟩
        · unfold Oper.quietAt; go_simp
        simp only [Act.put, List.setIfInBounds_toArray, List.set_cons_zero, List.set_cons_succ]
        go_big_quiet_on
        go_big_quiet_want
        refine ⟨.agg #[.slice a1 c.length c1, .slice a2 es.length c2], fun w' hw' => ?_, ?_⟩
        · have hh0 := (Kp.of_below hw').cell _ _ hc0; have hh1 := (Kp.of_below hw').cell _ _ hc1; unfold Oper.quietAt; go_simp
        simp only [Act.put, List.setIfInBounds_toArray, List.set_cons_zero, List.set_cons_succ]
        go_big_quiet_on
        go_big_quiet_want
        refine ⟨.bool false, fun w' hw' => ?_, ?_⟩
        · unfold Oper.quietAt; go_simp; exact (refForm_any _ _ (c, es) _ (HMo.out.kp (Kp.of_below hw'))).mono (fun e w1 ⟨he, hb⟩ => ⟨by rw [he, HMb.out], below_step hw' hb⟩)
        simp only [Act.put, List.setIfInBounds_toArray, List.set_cons_zero, List.set_cons_succ]
        go_big_quiet_on
        go_big_quiet_want
        refine ⟨.bool true, fun w' hw' => ?_, ?_⟩
        · unfold Oper.quietAt; go_simp
        simp only [Act.put, List.setIfInBounds_toArray, List.set_cons_zero, List.set_cons_succ]
        go_big_quiet_on
        (go_big_quiet_want; go_big_quiet_op; go_big_quiet_on)
        go_big_quiet_skip
        go_big_quiet_skip
        go_big_quiet_skip
        go_big_quiet_skip
        go_big_quiet_skip
        go_big_quiet_skip
        go_big_quiet_skip
        go_big_quiet_skip
        go_big_quiet_want
        refine ⟨.bool true, fun w' hw' => ?_, ?_⟩
        · unfold Oper.quietAt; go_simp
        simp only [Act.put, List.setIfInBounds_toArray, List.set_cons_zero, List.set_cons_succ]
        go_big_quiet_on
        (go_big_quiet_want; go_big_quiet_op; go_big_quiet_on)
        go_big_quiet_skip
        go_big_quiet_skip
        go_big_quiet_skip
        go_big_quiet_skip
        go_big_quiet_skip
        go_big_quiet_skip
        go_big_quiet_skip
        go_big_quiet_skip
        go_big_quiet_skip
        go_big_quiet_skip
        go_big_quiet_skip
        go_big_quiet_skip
        go_big_quiet_skip
        go_big_quiet_skip
        go_big_quiet_skip
        go_big_quiet_skip
        go_big_quiet_skip
        go_big_quiet_want
        refine ⟨.bool true, fun w' hw' => ?_, ?_⟩
        · unfold Oper.quietAt; go_simp
        simp only [Act.put, List.setIfInBounds_toArray, List.set_cons_zero, List.set_cons_succ]
        go_big_quiet_on
        refine wpQuiet_nil ?_
        intro w1 hb1
        go_wp2
        go_ret
        exact ⟨ret1i HF.out.symm, below_step HBd.out hb1⟩
      have HMb : Hid (monB (c, es) = true) := hmb
      clear hmb
      by_cases hv : (es.length : Int) ≤ vars
      · have hT : (monB (c, es) && decide (((c, es).2.length : Int) ≤ vars)) = true := by rw [HMb.out]; simpa using hv
        have HT : Hid ((monB (c, es) && decide (((c, es).2.length : Int) ≤ vars)) = true) := hT
        clear hT
        by_cases hk0 : k = 0
        · subst hk0
          have HO : Hid (okR p vars 0 = true) := okR_0 HX.out HT.out
          rw [Nat.zero_mul, Nat.add_zero] at hc0 hc1
          go_wp2_with fail
          refine region_belowY (by kernel_rfl) (by kernel_rfl) ?_
          (go_big_quiet_want; go_big_quiet_op; go_big_quiet_on)
          (go_big_quiet_want; go_big_quiet_op; go_big_quiet_on)
          go_big_quiet_want
          refine ⟨.pointer (some ⟨g, off, none⟩), fun w' hw' => ?_, ?_⟩
          · unfold Oper.quietAt; go_simp
          simp only [Act.put, List.setIfInBounds_toArray, List.set_cons_zero, List.set_cons_succ]
          go_big_quiet_on
          go_big_quiet_want
          refine ⟨.agg #[.slice a1 c.length c1, .slice a2 es.length c2], fun w' hw' => ?_, ?_⟩
          · have hh0 := (Kp.of_below hw').cell _ _ hc0; have hh1 := (Kp.of_below hw').cell _ _ hc1; unfold Oper.quietAt; go_simp
          simp only [Act.put, List.setIfInBounds_toArray, List.set_cons_zero, List.set_cons_succ]
          go_big_quiet_on
          go_big_quiet_want
          refine ⟨.bool true, fun w' hw' => ?_, ?_⟩
          · unfold Oper.quietAt; go_simp; exact (refForm_any _ _ (c, es) _ (HMo.out.kp (Kp.of_below hw'))).mono (fun e w1 ⟨he, hb⟩ => ⟨by rw [he, HMb.out], below_step hw' hb⟩)
          simp only [Act.put, List.setIfInBounds_toArray, List.set_cons_zero, List.set_cons_succ]
          go_big_quiet_on
          go_big_quiet_want
          refine ⟨.bool false, fun w' hw' => ?_, ?_⟩
          · unfold Oper.quietAt; go_simp
          simp only [Act.put, List.setIfInBounds_toArray, List.set_cons_zero, List.set_cons_succ]
          go_big_quiet_on
          (go_big_quiet_want; go_big_quiet_op; go_big_quiet_on)
          (go_big_quiet_want; go_big_quiet_op; go_big_quiet_on)
          (go_big_quiet_want; go_big_quiet_op; go_big_quiet_on)
          go_big_quiet_want
          refine ⟨.pointer (some ⟨g, off, none⟩), fun w' hw' => ?_, ?_⟩
          · unfold Oper.quietAt; go_simp
          simp only [Act.put, List.setIfInBounds_toArray, List.set_cons_zero, List.set_cons_succ]
          go_big_quiet_on
          go_big_quiet_want
          refine ⟨.pointer (some ⟨g, off + 1, none⟩), fun w' hw' => ?_, ?_⟩
          · unfold Oper.quietAt; go_simp
          simp only [Act.put, List.setIfInBounds_toArray, List.set_cons_zero, List.set_cons_succ]
          go_big_quiet_on
          go_big_quiet_want
          refine ⟨.slice a2 es.length c2, fun w' hw' => ?_, ?_⟩
          · have hh := (Kp.of_below hw').cell _ _ hc1; unfold Oper.quietAt; go_simp
          simp only [Act.put, List.setIfInBounds_toArray, List.set_cons_zero, List.set_cons_succ]
          go_big_quiet_on
          go_big_quiet_want
          refine ⟨.int .i64 (es.length : Int), fun w' hw' => ?_, ?_⟩
          · unfold Oper.quietAt; go_simp
          simp only [Act.put, List.setIfInBounds_toArray, List.set_cons_zero, List.set_cons_succ]
          go_big_quiet_on
          (go_big_quiet_want; go_big_quiet_op; go_big_quiet_on)
          go_big_quiet_want
          refine ⟨.bool false, fun w' hw' => ?_, ?_⟩
          · unfold Oper.quietAt; go_simp
          simp only [Act.put, List.setIfInBounds_toArray, List.set_cons_zero, List.set_cons_succ]
          go_big_quiet_on
          go_big_quiet_want
          refine ⟨.bool false, fun w' hw' => ?_, ?_⟩
          · unfold Oper.quietAt; go_simp
          simp only [Act.put, List.setIfInBounds_toArray, List.set_cons_zero, List.set_cons_succ]
          go_big_quiet_on
          (go_big_quiet_want; go_big_quiet_op; go_big_quiet_on)
          (go_big_quiet_want; go_big_quiet_op; go_big_quiet_on)
          go_big_quiet_want
          refine ⟨.bool false, fun w' hw' => ?_, ?_⟩
          · unfold Oper.quietAt; go_simp
          simp only [Act.put, List.setIfInBounds_toArray, List.set_cons_zero, List.set_cons_succ]
          go_big_quiet_on
          (go_big_quiet_want; go_big_quiet_op; go_big_quiet_on)
          go_big_quiet_skip
          go_big_quiet_skip
          go_big_quiet_skip
          go_big_quiet_skip
          go_big_quiet_skip
          go_big_quiet_skip
          go_big_quiet_skip
          go_big_quiet_skip
          go_big_quiet_skip
          go_big_quiet_skip
          go_big_quiet_skip
          go_big_quiet_skip
          go_big_quiet_skip
          go_big_quiet_want
          refine ⟨.bool false, fun w' hw' => ?_, ?_⟩
          · unfold Oper.quietAt; go_simp
          simp only [Act.put, List.setIfInBounds_toArray, List.set_cons_zero, List.set_cons_succ]
          go_big_quiet_on
          go_big_quiet_want
          refine ⟨.bool false, fun w' hw' => ?_, ?_⟩
          · unfold Oper.quietAt; go_simp
          simp only [Act.put, List.setIfInBounds_toArray, List.set_cons_zero, List.set_cons_succ]
          go_big_quiet_on
          refine wpQuiet_nil ?_
          intro w1 hb1
          have HB1 : Hid (Below w.heap.size w w1) := below_step HBd.out hb1
          clear hb1
          go_wp2
          go_roundw
          case rel => exact ⟨1, by omega, by go_num, fun j hj => by obtain rfl : j = 0 := Nat.lt_one_iff.1 hj; exact HO.out, HB1.out⟩
          case measure => simp [intOf]; omega
        · obtain ⟨j, rfl⟩ : ∃ j, k = j + 1 := ⟨k - 1, by omega⟩
          clear hk0
          obtain ⟨g', off', d, fs, b1, d1, b2, d2, hq, hm2, he0, he1, hmo2, hk1, hk2, hk3, hk4⟩ := HMr.out.at (k := j) (by omega)
          obtain ⟨rfl, rfl⟩ : g = g' ∧ off = off' := by simpa using hq
          have HX2 : Hid (p[j]? = some (d, fs)) := hm2
          have HI2 : Hid (Is wr (.slice b2 fs.length d2) fs) := hmo2.2
          have HO : Hid (okR p vars (j + 1) = decide (ordX fs es < 0)) := okR_s HX.out HX2.out HT.out
          obtain ⟨O, hO⟩ : ∃ O, O = ordX fs es := ⟨_, rfl⟩
          have HOe : Hid (O = ordX fs es) := hO
          rw [← hO] at HO
          clear hm2 hmo2 he0 hq hO
          have hg0 : (0 : Int) < (j : Int) + 1 := by omega
          have hg1 : (0 : Int) ≤ (j : Int) + 1 := by omega
          have HJw : Hid (IntKind.i64.wrap (j : Int) = (j : Int)) := IntWalk.i64_in _ ⟨by omega, by omega⟩
          have hjl : j < p.length := by omega
          by_cases hneg : O < 0
          · obtain ⟨BO, hBO⟩ : ∃ B, B = false := ⟨_, rfl⟩
            have hdn : decide (0 ≤ O) = BO := by rw [hBO]; exact decide_eq_false (by omega)
            have HOk : Hid (okR p vars (j + 1) = true) := by show _ = _; rw [HO.out]; exact decide_eq_true hneg
            clear hneg
            go_wp2_with fail
            refine region_belowY (by kernel_rfl) (by kernel_rfl) ?_
            (go_big_quiet_want; go_big_quiet_op; go_big_quiet_on)
            (go_big_quiet_want; go_big_quiet_op; go_big_quiet_on)
            go_big_quiet_want
            refine ⟨.pointer (some ⟨g, off + (j + 1) * 2, none⟩), fun w' hw' => ?_, ?_⟩
            · unfold Oper.quietAt; go_simp
            simp only [Act.put, List.setIfInBounds_toArray, List.set_cons_zero, List.set_cons_succ]
            go_big_quiet_on
            go_big_quiet_want
            refine ⟨.agg #[.slice a1 c.length c1, .slice a2 es.length c2], fun w' hw' => ?_, ?_⟩
            · have hh0 := (Kp.of_below hw').cell _ _ hc0; have hh1 := (Kp.of_below hw').cell _ _ hc1; unfold Oper.quietAt; go_simp
            simp only [Act.put, List.setIfInBounds_toArray, List.set_cons_zero, List.set_cons_succ]
            go_big_quiet_on
            go_big_quiet_want
            refine ⟨.bool true, fun w' hw' => ?_, ?_⟩
            · unfold Oper.quietAt; go_simp; exact (refForm_any _ _ (c, es) _ (HMo.out.kp (Kp.of_below hw'))).mono (fun e w1 ⟨he, hb⟩ => ⟨by rw [he, HMb.out], below_step hw' hb⟩)
            simp only [Act.put, List.setIfInBounds_toArray, List.set_cons_zero, List.set_cons_succ]
            go_big_quiet_on
            go_big_quiet_want
            refine ⟨.bool false, fun w' hw' => ?_, ?_⟩
            · unfold Oper.quietAt; go_simp
            simp only [Act.put, List.setIfInBounds_toArray, List.set_cons_zero, List.set_cons_succ]
            go_big_quiet_on
            (go_big_quiet_want; go_big_quiet_op; go_big_quiet_on)
            (go_big_quiet_want; go_big_quiet_op; go_big_quiet_on)
            (go_big_quiet_want; go_big_quiet_op; go_big_quiet_on)
            go_big_quiet_want
            refine ⟨.pointer (some ⟨g, off + (j + 1) * 2, none⟩), fun w' hw' => ?_, ?_⟩
            · unfold Oper.quietAt; go_simp
            simp only [Act.put, List.setIfInBounds_toArray, List.set_cons_zero, List.set_cons_succ]
            go_big_quiet_on
            go_big_quiet_want
            refine ⟨.pointer (some ⟨g, off + (j + 1) * 2 + 1, none⟩), fun w' hw' => ?_, ?_⟩
            · unfold Oper.quietAt; go_simp
            simp only [Act.put, List.setIfInBounds_toArray, List.set_cons_zero, List.set_cons_succ]
            go_big_quiet_on
            go_big_quiet_want
            refine ⟨.slice a2 es.length c2, fun w' hw' => ?_, ?_⟩
            · have hh := (Kp.of_below hw').cell _ _ hc1; unfold Oper.quietAt; go_simp
            simp only [Act.put, List.setIfInBounds_toArray, List.set_cons_zero, List.set_cons_succ]
            go_big_quiet_on
            go_big_quiet_want
            refine ⟨.int .i64 (es.length : Int), fun w' hw' => ?_, ?_⟩
            · unfold Oper.quietAt; go_simp
            simp only [Act.put, List.setIfInBounds_toArray, List.set_cons_zero, List.set_cons_succ]
            go_big_quiet_on
            (go_big_quiet_want; go_big_quiet_op; go_big_quiet_on)
            go_big_quiet_want
            refine ⟨.bool false, fun w' hw' => ?_, ?_⟩
            · unfold Oper.quietAt; go_simp
            simp only [Act.put, List.setIfInBounds_toArray, List.set_cons_zero, List.set_cons_succ]
            go_big_quiet_on
            go_big_quiet_want
            refine ⟨.bool false, fun w' hw' => ?_, ?_⟩
            · unfold Oper.quietAt; go_simp
            simp only [Act.put, List.setIfInBounds_toArray, List.set_cons_zero, List.set_cons_succ]
            go_big_quiet_on
            (go_big_quiet_want; go_big_quiet_op; go_big_quiet_on)
            (go_big_quiet_want; go_big_quiet_op; go_big_quiet_on)
            go_big_quiet_want
            refine ⟨.bool true, fun w' hw' => ?_, ?_⟩
            · unfold Oper.quietAt; go_simp
            simp only [Act.put, List.setIfInBounds_toArray, List.set_cons_zero, List.set_cons_succ]
            go_big_quiet_on
            (go_big_quiet_want; go_big_quiet_op; go_big_quiet_on)
            (go_big_quiet_want; go_big_quiet_op; go_big_quiet_on)
            (go_big_quiet_want; go_big_quiet_op; go_big_quiet_on)
            go_big_quiet_want
            refine ⟨.int .i64 (j : Int), fun w' hw' => ?_, ?_⟩
            · unfold Oper.quietAt; go_simp; exact HJw.out
            simp only [Act.put, List.setIfInBounds_toArray, List.set_cons_zero, List.set_cons_succ]
            go_big_quiet_on
            go_big_quiet_want
            refine ⟨.pointer (some ⟨g, off + j * 2, none⟩), fun w' hw' => ?_, ?_⟩
            · unfold Oper.quietAt; go_simp
            simp only [Act.put, List.setIfInBounds_toArray, List.set_cons_zero, List.set_cons_succ]
            go_big_quiet_on
            go_big_quiet_want
            refine ⟨.pointer (some ⟨g, off + j * 2 + 1, none⟩), fun w' hw' => ?_, ?_⟩
            · unfold Oper.quietAt; go_simp
            simp only [Act.put, List.setIfInBounds_toArray, List.set_cons_zero, List.set_cons_succ]
            go_big_quiet_on
            go_big_quiet_want
            refine ⟨.slice b2 fs.length d2, fun w' hw' => ?_, ?_⟩
            · have hh := (Kp.of_below hw').cell _ _ he1; unfold Oper.quietAt; go_simp
            simp only [Act.put, List.setIfInBounds_toArray, List.set_cons_zero, List.set_cons_succ]
            go_big_quiet_on
            (go_big_quiet_want; go_big_quiet_op; go_big_quiet_on)
            (go_big_quiet_want; go_big_quiet_op; go_big_quiet_on)
            go_big_quiet_want
            refine ⟨.pointer (some ⟨g, off + (j + 1) * 2, none⟩), fun w' hw' => ?_, ?_⟩
            · unfold Oper.quietAt; go_simp
            simp only [Act.put, List.setIfInBounds_toArray, List.set_cons_zero, List.set_cons_succ]
            go_big_quiet_on
            go_big_quiet_want
            refine ⟨.pointer (some ⟨g, off + (j + 1) * 2 + 1, none⟩), fun w' hw' => ?_, ?_⟩
            · unfold Oper.quietAt; go_simp
            simp only [Act.put, List.setIfInBounds_toArray, List.set_cons_zero, List.set_cons_succ]
            go_big_quiet_on
            go_big_quiet_want
            refine ⟨.slice a2 es.length c2, fun w' hw' => ?_, ?_⟩
            · have hh := (Kp.of_below hw').cell _ _ hc1; unfold Oper.quietAt; go_simp
            simp only [Act.put, List.setIfInBounds_toArray, List.set_cons_zero, List.set_cons_succ]
            go_big_quiet_on
            go_big_quiet_want
            refine ⟨.int .i64 O, fun w' hw' => ?_, ?_⟩
            · unfold Oper.quietAt; go_simp; exact (refOrder_any _ _ fs es _ (HI2.out.kp (Kp.of_below hw')) (HMo.out.2.kp (Kp.of_below hw'))).mono (fun e w1 ⟨he, hw9⟩ => ⟨by rw [he, ← HOe.out], by rw [hw9]; exact hw'⟩)
            simp only [Act.put, List.setIfInBounds_toArray, List.set_cons_zero, List.set_cons_succ]
            go_big_quiet_on
            go_big_quiet_want
            refine ⟨.bool BO, fun w' hw' => ?_, ?_⟩
            · unfold Oper.quietAt; go_simp
            simp only [Act.put, List.setIfInBounds_toArray, List.set_cons_zero, List.set_cons_succ]
            go_big_quiet_on
            go_big_quiet_want
            refine ⟨.bool BO, fun w' hw' => ?_, ?_⟩
            · unfold Oper.quietAt; go_simp
            simp only [Act.put, List.setIfInBounds_toArray, List.set_cons_zero, List.set_cons_succ]
            go_big_quiet_on
            go_big_quiet_want
            refine ⟨.bool BO, fun w' hw' => ?_, ?_⟩
            · unfold Oper.quietAt; go_simp
            simp only [Act.put, List.setIfInBounds_toArray, List.set_cons_zero, List.set_cons_succ]
            go_big_quiet_on
            refine wpQuiet_nil ?_
            intro w1 hb1
            subst hBO
            have HB1 : Hid (Below w.heap.size w w1) := below_step HBd.out hb1
            clear hb1
            go_wp2
            go_roundw
            case rel =>
              refine ⟨j + 1 + 1, by omega, by go_num, fun i hi => ?_, HB1.out⟩
              by_cases hij : i = j + 1
              · subst hij; exact HOk.out
              · exact HP.out i (by omega)
            case measure => simp [intOf]; omega
          · obtain ⟨BO, hBO⟩ : ∃ B, B = true := ⟨_, rfl⟩
            have hdn : decide (0 ≤ O) = BO := by rw [hBO]; exact decide_eq_true (by omega)
            have HF : Hid (checkR p vars = 20) := by
              show _ = _
              unfold checkR
              rw [if_neg (Int.not_lt.2 H0.out), if_pos (polyR_no hlt (HO.out.trans (decide_eq_false hneg)))]
            clear hneg
            go_wp2_with fail
            refine region_belowY (by kernel_rfl) (by kernel_rfl) ?_
            (go_big_quiet_want; go_big_quiet_op; go_big_quiet_on)
            (go_big_quiet_want; go_big_quiet_op; go_big_quiet_on)
            go_big_quiet_want
            refine ⟨.pointer (some ⟨g, off + (j + 1) * 2, none⟩), fun w' hw' => ?_, ?_⟩
            · unfold Oper.quietAt; go_simp
            simp only [Act.put, List.setIfInBounds_toArray, List.set_cons_zero, List.set_cons_succ]
            go_big_quiet_on
            go_big_quiet_want
            refine ⟨.agg #[.slice a1 c.length c1, .slice a2 es.length c2], fun w' hw' => ?_, ?_⟩
            · have hh0 := (Kp.of_below hw').cell _ _ hc0; have hh1 := (Kp.of_below hw').cell _ _ hc1; unfold Oper.quietAt; go_simp
            simp only [Act.put, List.setIfInBounds_toArray, List.set_cons_zero, List.set_cons_succ]
            go_big_quiet_on
            go_big_quiet_want
            refine ⟨.bool true, fun w' hw' => ?_, ?_⟩
            · unfold Oper.quietAt; go_simp; exact (refForm_any _ _ (c, es) _ (HMo.out.kp (Kp.of_below hw'))).mono (fun e w1 ⟨he, hb⟩ => ⟨by rw [he, HMb.out], below_step hw' hb⟩)
            simp only [Act.put, List.setIfInBounds_toArray, List.set_cons_zero, List.set_cons_succ]
            go_big_quiet_on
            go_big_quiet_want
            refine ⟨.bool false, fun w' hw' => ?_, ?_⟩
            · unfold Oper.quietAt; go_simp
            simp only [Act.put, List.setIfInBounds_toArray, List.set_cons_zero, List.set_cons_succ]
            go_big_quiet_on
            (go_big_quiet_want; go_big_quiet_op; go_big_quiet_on)
            (go_big_quiet_want; go_big_quiet_op; go_big_quiet_on)
            (go_big_quiet_want; go_big_quiet_op; go_big_quiet_on)
            go_big_quiet_want
            refine ⟨.pointer (some ⟨g, off + (j + 1) * 2, none⟩), fun w' hw' => ?_, ?_⟩
            · unfold Oper.quietAt; go_simp
            simp only [Act.put, List.setIfInBounds_toArray, List.set_cons_zero, List.set_cons_succ]
            go_big_quiet_on
            go_big_quiet_want
            refine ⟨.pointer (some ⟨g, off + (j + 1) * 2 + 1, none⟩), fun w' hw' => ?_, ?_⟩
            · unfold Oper.quietAt; go_simp
            simp only [Act.put, List.setIfInBounds_toArray, List.set_cons_zero, List.set_cons_succ]
            go_big_quiet_on
            go_big_quiet_want
            refine ⟨.slice a2 es.length c2, fun w' hw' => ?_, ?_⟩
            · have hh := (Kp.of_below hw').cell _ _ hc1; unfold Oper.quietAt; go_simp
            simp only [Act.put, List.setIfInBounds_toArray, List.set_cons_zero, List.set_cons_succ]
            go_big_quiet_on
            go_big_quiet_want
            refine ⟨.int .i64 (es.length : Int), fun w' hw' => ?_, ?_⟩
            · unfold Oper.quietAt; go_simp
            simp only [Act.put, List.setIfInBounds_toArray, List.set_cons_zero, List.set_cons_succ]
            go_big_quiet_on
            (go_big_quiet_want; go_big_quiet_op; go_big_quiet_on)
            go_big_quiet_want
            refine ⟨.bool false, fun w' hw' => ?_, ?_⟩
            · unfold Oper.quietAt; go_simp
            simp only [Act.put, List.setIfInBounds_toArray, List.set_cons_zero, List.set_cons_succ]
            go_big_quiet_on
            go_big_quiet_want
            refine ⟨.bool false, fun w' hw' => ?_, ?_⟩
            · unfold Oper.quietAt; go_simp
            simp only [Act.put, List.setIfInBounds_toArray, List.set_cons_zero, List.set_cons_succ]
            go_big_quiet_on
            (go_big_quiet_want; go_big_quiet_op; go_big_quiet_on)
            (go_big_quiet_want; go_big_quiet_op; go_big_quiet_on)
            go_big_quiet_want
            refine ⟨.bool true, fun w' hw' => ?_, ?_⟩
            · unfold Oper.quietAt; go_simp
            simp only [Act.put, List.setIfInBounds_toArray, List.set_cons_zero, List.set_cons_succ]
            go_big_quiet_on
            (go_big_quiet_want; go_big_quiet_op; go_big_quiet_on)
            (go_big_quiet_want; go_big_quiet_op; go_big_quiet_on)
            (go_big_quiet_want; go_big_quiet_op; go_big_quiet_on)
            go_big_quiet_want
            refine ⟨.int .i64 (j : Int), fun w' hw' => ?_, ?_⟩
            · unfold Oper.quietAt; go_simp; exact HJw.out
            simp only [Act.put, List.setIfInBounds_toArray, List.set_cons_zero, List.set_cons_succ]
            go_big_quiet_on
            go_big_quiet_want
            refine ⟨.pointer (some ⟨g, off + j * 2, none⟩), fun w' hw' => ?_, ?_⟩
            · unfold Oper.quietAt; go_simp
            simp only [Act.put, List.setIfInBounds_toArray, List.set_cons_zero, List.set_cons_succ]
            go_big_quiet_on
            go_big_quiet_want
            refine ⟨.pointer (some ⟨g, off + j * 2 + 1, none⟩), fun w' hw' => ?_, ?_⟩
            · unfold Oper.quietAt; go_simp
            simp only [Act.put, List.setIfInBounds_toArray, List.set_cons_zero, List.set_cons_succ]
            go_big_quiet_on
            go_big_quiet_want
            refine ⟨.slice b2 fs.length d2, fun w' hw' => ?_, ?_⟩
            · have hh := (Kp.of_below hw').cell _ _ he1; unfold Oper.quietAt; go_simp
            simp only [Act.put, List.setIfInBounds_toArray, List.set_cons_zero, List.set_cons_succ]
            go_big_quiet_on
            (go_big_quiet_want; go_big_quiet_op; go_big_quiet_on)
            (go_big_quiet_want; go_big_quiet_op; go_big_quiet_on)
            go_big_quiet_want
            refine ⟨.pointer (some ⟨g, off + (j + 1) * 2, none⟩), fun w' hw' => ?_, ?_⟩
            · unfold Oper.quietAt; go_simp
            simp only [Act.put, List.setIfInBounds_toArray, List.set_cons_zero, List.set_cons_succ]
            go_big_quiet_on
            go_big_quiet_want
            refine ⟨.pointer (some ⟨g, off + (j + 1) * 2 + 1, none⟩), fun w' hw' => ?_, ?_⟩
            · unfold Oper.quietAt; go_simp
            simp only [Act.put, List.setIfInBounds_toArray, List.set_cons_zero, List.set_cons_succ]
            go_big_quiet_on
            go_big_quiet_want
            refine ⟨.slice a2 es.length c2, fun w' hw' => ?_, ?_⟩
            · have hh := (Kp.of_below hw').cell _ _ hc1; unfold Oper.quietAt; go_simp
            simp only [Act.put, List.setIfInBounds_toArray, List.set_cons_zero, List.set_cons_succ]
            go_big_quiet_on
            go_big_quiet_want
            refine ⟨.int .i64 O, fun w' hw' => ?_, ?_⟩
            · unfold Oper.quietAt; go_simp; exact (refOrder_any _ _ fs es _ (HI2.out.kp (Kp.of_below hw')) (HMo.out.2.kp (Kp.of_below hw'))).mono (fun e w1 ⟨he, hw9⟩ => ⟨by rw [he, ← HOe.out], by rw [hw9]; exact hw'⟩)
            simp only [Act.put, List.setIfInBounds_toArray, List.set_cons_zero, List.set_cons_succ]
            go_big_quiet_on
            go_big_quiet_want
            refine ⟨.bool BO, fun w' hw' => ?_, ?_⟩
            · unfold Oper.quietAt; go_simp
            simp only [Act.put, List.setIfInBounds_toArray, List.set_cons_zero, List.set_cons_succ]
            go_big_quiet_on
            go_big_quiet_want
            refine ⟨.bool BO, fun w' hw' => ?_, ?_⟩
            · unfold Oper.quietAt; go_simp
            simp only [Act.put, List.setIfInBounds_toArray, List.set_cons_zero, List.set_cons_succ]
            go_big_quiet_on
            go_big_quiet_want
            refine ⟨.bool BO, fun w' hw' => ?_, ?_⟩
            · unfold Oper.quietAt; go_simp
            simp only [Act.put, List.setIfInBounds_toArray, List.set_cons_zero, List.set_cons_succ]
            go_big_quiet_on
            refine wpQuiet_nil ?_
            intro w1 hb1
            subst hBO
            have HB1 : Hid (Below w.heap.size w w1) := below_step HBd.out hb1
            clear hb1
            go_wp2
            go_ret
            exact ⟨ret1i HF.out.symm, HB1.out⟩
      · have HF : Hid (checkR p vars = 20) := by
          show _ = _
          unfold checkR
          rw [if_neg (Int.not_lt.2 H0.out), if_pos (polyR_no hlt (okR_no HX.out (by rw [HMb.out]; simpa using hv)))]
        go_wp2_with fail
        refine region_belowY (by kernel_rfl) (by kernel_rfl) ?_
        (go_big_quiet_want; go_big_quiet_op; go_big_quiet_on)
        (go_big_quiet_want; go_big_quiet_op; go_big_quiet_on)
        go_big_quiet_want
        refine ⟨.pointer (some ⟨g, off + k * 2, none⟩), fun w' hw' => ?_, ?_⟩
        · unfold Oper.quietAt; go_simp
        simp only [Act.put, List.setIfInBounds_toArray, List.set_cons_zero, List.set_cons_succ]
        go_big_quiet_on
        go_big_quiet_want
        refine ⟨.agg #[.slice a1 c.length c1, .slice a2 es.length c2], fun w' hw' => ?_, ?_⟩
        · have hh0 := (Kp.of_below hw').cell _ _ hc0; have hh1 := (Kp.of_below hw').cell _ _ hc1; unfold Oper.quietAt; go_simp
        simp only [Act.put, List.setIfInBounds_toArray, List.set_cons_zero, List.set_cons_succ]
        go_big_quiet_on
        go_big_quiet_want
        refine ⟨.bool true, fun w' hw' => ?_, ?_⟩
        · unfold Oper.quietAt; go_simp; exact (refForm_any _ _ (c, es) _ (HMo.out.kp (Kp.of_below hw'))).mono (fun e w1 ⟨he, hb⟩ => ⟨by rw [he, HMb.out], below_step hw' hb⟩)
        simp only [Act.put, List.setIfInBounds_toArray, List.set_cons_zero, List.set_cons_succ]
        go_big_quiet_on
        go_big_quiet_want
        refine ⟨.bool false, fun w' hw' => ?_, ?_⟩
        · unfold Oper.quietAt; go_simp
        simp only [Act.put, List.setIfInBounds_toArray, List.set_cons_zero, List.set_cons_succ]
        go_big_quiet_on
        (go_big_quiet_want; go_big_quiet_op; go_big_quiet_on)
        (go_big_quiet_want; go_big_quiet_op; go_big_quiet_on)
        (go_big_quiet_want; go_big_quiet_op; go_big_quiet_on)
        go_big_quiet_want
        refine ⟨.pointer (some ⟨g, off + k * 2, none⟩), fun w' hw' => ?_, ?_⟩
        · unfold Oper.quietAt; go_simp
        simp only [Act.put, List.setIfInBounds_toArray, List.set_cons_zero, List.set_cons_succ]
        go_big_quiet_on
        go_big_quiet_want
        refine ⟨.pointer (some ⟨g, off + k * 2 + 1, none⟩), fun w' hw' => ?_, ?_⟩
        · unfold Oper.quietAt; go_simp
        simp only [Act.put, List.setIfInBounds_toArray, List.set_cons_zero, List.set_cons_succ]
        go_big_quiet_on
        go_big_quiet_want
        refine ⟨.slice a2 es.length c2, fun w' hw' => ?_, ?_⟩
        · have hh := (Kp.of_below hw').cell _ _ hc1; unfold Oper.quietAt; go_simp
        simp only [Act.put, List.setIfInBounds_toArray, List.set_cons_zero, List.set_cons_succ]
        go_big_quiet_on
        go_big_quiet_want
        refine ⟨.int .i64 (es.length : Int), fun w' hw' => ?_, ?_⟩
        · unfold Oper.quietAt; go_simp
        simp only [Act.put, List.setIfInBounds_toArray, List.set_cons_zero, List.set_cons_succ]
        go_big_quiet_on
        (go_big_quiet_want; go_big_quiet_op; go_big_quiet_on)
        go_big_quiet_want
        refine ⟨.bool true, fun w' hw' => ?_, ?_⟩
        · unfold Oper.quietAt; go_simp
        simp only [Act.put, List.setIfInBounds_toArray, List.set_cons_zero, List.set_cons_succ]
        go_big_quiet_on
        go_big_quiet_want
        refine ⟨.bool true, fun w' hw' => ?_, ?_⟩
        · unfold Oper.quietAt; go_simp
        simp only [Act.put, List.setIfInBounds_toArray, List.set_cons_zero, List.set_cons_succ]
        go_big_quiet_on
        (go_big_quiet_want; go_big_quiet_op; go_big_quiet_on)
        go_big_quiet_skip
        go_big_quiet_skip
        go_big_quiet_skip
        go_big_quiet_skip
        go_big_quiet_skip
        go_big_quiet_skip
        go_big_quiet_skip
        go_big_quiet_skip
        go_big_quiet_skip
        go_big_quiet_skip
        go_big_quiet_skip
        go_big_quiet_skip
        go_big_quiet_skip
        go_big_quiet_skip
        go_big_quiet_skip
        go_big_quiet_skip
        go_big_quiet_skip
        go_big_quiet_want
        refine ⟨.bool true, fun w' hw' => ?_, ?_⟩
        · unfold Oper.quietAt; go_simp
        simp only [Act.put, List.setIfInBounds_toArray, List.set_cons_zero, List.set_cons_succ]
        go_big_quiet_on
        refine wpQuiet_nil ?_
        intro w1 hb1
        go_wp2
        go_ret
        exact ⟨ret1i HF.out.symm, below_step HBd.out hb1⟩
    · have HR : Hid (polyR p vars = true) := polyR_iff.2 fun j hj => HP.out j (by omega)
      have HBw : Hid (Below w.heap.size w wr) := hbl
      clear hbl
      go_wp2
      go_loopw [6] (fun i ws => ∃ l : Nat, l ≤ p.length ∧ i = .int .i64 l ∧ (∀ (j : Nat) (m : Mn), j < l → p[j]? = some m → smallR m = true) ∧ Below w.heap.size w ws) (fun i _ => p.length - (intOf i).toNat)
      case atStart => exact ⟨0, by omega, rfl, fun j m hj => absurd hj (by omega), HBw.out⟩
      case round =>
        obtain ⟨l, hl, rfl, hq, hbl⟩ := hrel
        have HQ : Hid (∀ (j : Nat) (m : Mn), j < l → p[j]? = some m → smallR m = true) := hq
        clear hq
        by_cases hll : l < p.length
        · obtain ⟨g, off, c, es, a1, c1, a2, c2, rfl, hm1, hc0, hc1, hmo, hl1, hl2, hl3, hl4⟩ := (HM.out.kp (Kp.of_below hbl)).at hll
          have HX : Hid (p[l]? = some (c, es)) := hm1
          have HMo : Hid (Mo wr (.slice a1 c.length c1) (.slice a2 es.length c2) (c, es)) := hmo
          have HBs : Hid (Below w.heap.size w wr) := hbl
          clear hm1 hmo hbl
          go_wp2_with fail
          refine (refSmall_any _ _ (c, es) _ HMo.out).mono ?_
          rintro e w1 ⟨rfl, hb1⟩
          have HB1 : Hid (Below w.heap.size w w1) := below_step HBs.out hb1
          clear hb1 hc0 hc1
          cases hs : smallR (c, es)
          · have HF : Hid (checkR p vars = 2) := by
              show _ = _
              unfold checkR
              have : p.all smallR = false := by rw [List.all_eq_false]; exact ⟨_, List.mem_of_getElem? HX.out, by rw [hs]; simp⟩
              rw [if_neg (Int.not_lt.2 H0.out), HR.out, this, if_neg (by simp), if_pos rfl]
            clear hs
            go_wp2
            go_ret
            exact ⟨ret1i HF.out.symm, HB1.out⟩
          · have HSm : Hid (smallR (c, es) = true) := hs
            clear hs
            go_wp2
            go_roundw
            case rel =>
              refine ⟨l + 1, by omega, by go_num, fun j m hj hm => ?_, HB1.out⟩
              by_cases hjl : j = l
              · subst hjl; rw [HX.out] at hm; cases hm; exact HSm.out
              · exact HQ.out j m (by omega) hm
            case measure => simp [intOf]; omega
        · have HAll : Hid (p.all smallR = true) := by
            show _ = _
            rw [List.all_eq_true]
            intro m hm
            obtain ⟨j, hj⟩ := List.mem_iff_getElem?.1 hm
            exact HQ.out j m (by have := (List.getElem?_eq_some_iff.1 hj).1; omega) hj
          have HBs : Hid (Below w.heap.size w wr) := hbl
          clear hbl
          by_cases h256 : p.length ≤ 256
          · have HF : Hid (checkR p vars = 0) := by
              show _ = _
              unfold checkR
              rw [if_neg (Int.not_lt.2 H0.out), HR.out, HAll.out, if_neg (by simp), if_neg (by simp), if_pos h256]
            go_wp2
            go_ret
            exact ⟨ret1i HF.out.symm, HBs.out⟩
          · have HF : Hid (checkR p vars = 2) := by
              show _ = _
              unfold checkR
              rw [if_neg (Int.not_lt.2 H0.out), HR.out, HAll.out, if_neg (by simp), if_neg (by simp), if_neg h256]
            go_wp2
            go_ret
            exact ⟨ret1i HF.out.symm, HBs.out⟩

end Go.Proofs.YtdjmjhlbjcgoiaaGreatDoor
