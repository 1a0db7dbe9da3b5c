/- Texts of the proof, one behind the other. -/
import Derived.Test.YtdjmjhlbjcgoiaaGreatDoorOwn12
import Derived.Test.YtdjmjhlbjcgoiaaGreatDoorOwn11
set_option maxRecDepth 1000000
set_option maxHeartbeats 6400000
namespace Go.Proofs.YtdjmjhlbjcgoiaaGreatDoor
open Go.RowKit Go.Maps
abbrev Tm := List (List Nat × Nat)
def tot : Tm → List Nat → Nat
 | [], _ => 0
 | t :: l, k => (if t.1 = k then t.2 else 0) + tot l k
def ofP (p : List Mn) : Tm := p.map fun m => (keyX m.2, val m.1)
def ofL (L : LkY) : Tm := L.map fun q => (q.1, val q.2)
theorem xDU (l l' : Tm) (k : List Nat) : tot (l ++ l') k = tot l k + tot l' k := by
 induction l with
 | nil => simp [tot]
 | cons t l ih => simp only [yG, tot, ih]; omega
structure StY (L : LkY) (f : List Nat → Nat) : Prop where
 rising : Rising L
 right : ∀ q ∈ L, RtY q.2 (val q.2) ∧ 1 ≤ val q.2
 tots : ∀ k, val (coefK L k) = f k
theorem StY.mem {L : LkY} {f : List Nat → Nat} (h : StY L f) (q : List Nat × List Nat) : q ∈ L ↔ 1 ≤ f q.1 ∧ q.2 = limbs (f q.1) := by
 constructor
 ·intro hq
  have h1 := xCV (k := q.1) (c := q.2) h.rising hq
  have h2 := h.tots q.1
  rw [h1] at h2
  obtain ⟨h3, h4⟩ := h.right q hq
  rw [← h2]
  exact ⟨h4, h3.1⟩
 rintro ⟨h1, h2⟩
 cases hk : hasK L q.1 with
 | false =>
  have := h.tots q.1
  rw [xBZ hk] at this
  simp only [val] at this
  omega
 | true =>
  obtain ⟨c, hc⟩ := xBI.1 hk
  have h3 := xCV h.rising hc
  have h4 := h.tots q.1
  rw [h3] at h4
  have h5 := (h.right _ hc).1.1
  simp only at h5
  rw [h4, ← h2] at h5
  subst h5
  exact hc
theorem rising_eq : ∀ {L L' : LkY}, Rising L → Rising L' → (∀ q, q ∈ L ↔ q ∈ L') → L = L'
 | [], [], _, _, _ => rfl
 | [], b :: l', _, _, h => absurd ((h b).2 (by simp)) (by simp)
 | a :: l, [], _, _, h => absurd ((h a).1 (by simp)) (by simp)
 | a :: l, b :: l', hL, hL', h => by
  unfold Rising at hL hL'
  rw [List.pairwise_cons] at hL hL'
  have hab : a = b := by
   rcases yB.1 ((h a).1 (by simp)) with e | ha
   ·exact e
   rcases yB.1 ((h b).2 (by simp)) with e | hb
   ·exact e.symm
   exact absurd (xBT (hL.1 b hb) (hL'.1 a ha)) (xAS _)
  subst hab
  have hn : a ∉ l := fun ha => xAS _ (hL.1 a ha)
  have hn' : a ∉ l' := fun ha => xAS _ (hL'.1 a ha)
  rw [rising_eq hL.2 hL'.2 (fun q => ?_)]
  constructor
  ·intro hq
   rcases yB.1 ((h q).1 (zT _ hq)) with rfl | hq'
   ·exact absurd hq hn
   exact hq'
  intro hq
  rcases yB.1 ((h q).2 (zT _ hq)) with rfl | hq'
  ·exact absurd hq hn'
  exact hq'
theorem StY.eq {L L' : LkY} {f : List Nat → Nat} (h : StY L f) (h' : StY L' f) : L = L' :=
 rising_eq h.rising h'.rising fun q => by rw [h.mem, h'.mem]
def OkF (f : List Nat → Nat) : Prop := (∀ k, f k < bigN) ∧ (∀ k, 1 ≤ f k → ∀ x ∈ k, x ≤ 64) ∧ ∀ l : List (List Nat), l.Nodup → (∀ k ∈ l, 1 ≤ f k) → l.length ≤ 256
theorem OkF.mono {f g : List Nat → Nat} (h : OkF g) (hle : ∀ k, f k ≤ g k) : OkF f :=
 ⟨fun k => Nat.lt_of_le_of_lt (hle k) (h.1 k), fun k hk => h.2.1 k (Nat.le_trans hk (hle k)), fun l hn hl => h.2.2 l hn fun k hk => Nat.le_trans (hl k hk) (hle k)⟩
theorem StY.nodup {L : LkY} {f : List Nat → Nat} (h : StY L f) : (L.map (·.1)).Nodup := by
 have := h.rising
 unfold Rising at this
 rw [List.Nodup, List.pairwise_map]
 refine List.Pairwise.imp ?_ this
 intro a b hab e
 rw [e] at hab
 exact xAS _ hab
theorem StY.keys {L : LkY} {f : List Nat → Nat} (h : StY L f) (k : List Nat) : k ∈ L.map (·.1) ↔ 1 ≤ f k := by
 rw [yL]
 constructor
 ·rintro ⟨q, hq, rfl⟩
  exact ((h.mem q).1 hq).1
 intro hk
 exact ⟨(k, limbs (f k)), (h.mem _).2 ⟨hk, rfl⟩, rfl⟩
theorem xEX {α : Type} [DecidableEq α] : ∀ {l m : List α}, l.Nodup → (∀ x ∈ l, x ∈ m) → l.length ≤ m.length
 | [], _, _, _ => Nat.zero_le _
 | a :: l, m, hn, h => by
  rw [List.nodup_cons] at hn
  have ha := h a (by simp)
  have h1 : l.length ≤ (m.erase a).length := xEX hn.2 fun x hx => by
   have hne : x ≠ a := fun e => hn.1 (e ▸ hx)
   rw [List.mem_erase_of_ne hne]
   exact h x (zT _ hx)
  rw [List.length_erase_of_mem ha] at h1
  have : 0 < m.length := List.length_pos_of_mem ha
  simp only [zG]
  omega
theorem StY.ok {L : LkY} {f : List Nat → Nat} (h : StY L f) (hl : L.length ≤ 256) (hk : ∀ k, 1 ≤ f k → ∀ x ∈ k, x ≤ 64) : OkF f := by
 refine ⟨fun k => ?_, hk, fun l hn hl2 => ?_⟩
 ·by_cases h0 : 1 ≤ f k
  ·obtain ⟨q, hq, rfl⟩ := yL.1 ((h.keys k).2 h0)
   have h1 := (h.right q hq).1
   have h2 := xCV (k := q.1) (c := q.2) h.rising hq
   rw [← h.tots q.1, h2]
   exact h1.2
  have : f k = 0 := by omega
  rw [this]
  exact rt_nil.2
 have := xEX hn fun k hk => (h.keys k).2 (hl2 k hk)
 rw [zJ] at this
 omega
theorem OkF.len {L : LkY} {f : List Nat → Nat} (h : OkF f) (hs : StY L f) : L.length ≤ 256 := by
 have := h.2.2 (L.map (·.1)) hs.nodup fun k hk => (hs.keys k).1 hk
 rwa [zJ] at this
def plus (f : List Nat → Nat) (k : List Nat) (c : Nat) : List Nat → Nat := fun k' => f k' + if k = k' then c else 0
theorem coefK_ins {L : LkY} {k c k' : List Nat} (hL : Rising L) : coefK (insK L k c) k' = if k = k' then c else coefK L k' := by
 by_cases hk : k = k'
 ·subst hk
  rw [if_pos rfl]
  exact xCV (xDE hL) ((xCX hL _).2 (.inl rfl))
 rw [if_neg hk]
 cases h : hasK L k' with
 | true =>
  obtain ⟨d, hd⟩ := xBI.1 h
  rw [xCV hL hd]
  exact xCV (xDE hL) ((xCX hL _).2 (.inr ⟨hd, fun e => hk e.symm⟩))
 | false =>
  rw [xBZ h]
  refine xBZ ?_
  rw [Bool.eq_false_iff]
  intro h2
  obtain ⟨d, hd⟩ := xBI.1 h2
  rcases (xCX hL _).1 hd with e | ⟨hd2, _⟩
  ·exact hk (congrArg Prod.fst e).symm
  rw [xBI.2 ⟨d, hd2⟩] at h
  cases h
theorem StY.coef {L : LkY} {f : List Nat → Nat} (h : StY L f) (k : List Nat) : RtY (coefK L k) (f k) := by
 cases hk : hasK L k with
 | false =>
  have := h.tots k
  rw [xBZ hk] at this ⊢
  rw [← this]
  exact rt_nil
 | true =>
  obtain ⟨c, hc⟩ := xBI.1 hk
  have h1 := (h.right _ hc).1
  have h2 := h.tots k
  rw [xCV h.rising hc] at h2 ⊢
  rw [← h2]
  exact h1
theorem put_spec {L : LkY} {f : List Nat → Nat} {k c : List Nat} {n : Nat} (h : StY L f) (hc : RtY c n) (hn : 1 ≤ n) (h64 : ∀ x ∈ k, x ≤ 64) (hf : ∀ k, 1 ≤ f k → ∀ x ∈ k, x ≤ 64) :
  (putE L k c = 0 ∧ OkF (plus f k n) ∧ StY (putL L k c) (plus f k n)) ∨ (putE L k c = 2 ∧ ¬ OkF (plus f k n)) := by
 have hf2 : ∀ k', 1 ≤ plus f k n k' → ∀ x ∈ k', x ≤ 64 := by
  intro k' hk'
  unfold plus at hk'
  by_cases e : k = k'
  ·subst e; exact h64
  rw [if_neg e, Nat.add_zero] at hk'; exact hf k' hk'
 have hpk : plus f k n k = f k + n := by unfold plus; rw [if_pos rfl]
 by_cases hb : f k + n < bigN
 ·obtain ⟨e1, r1⟩ := add_ok (h.coef k) hc hb
  have hs : StY (insK L k (addL (coefK L k) c)) (plus f k n) := by
   refine ⟨xDE h.rising, fun q hq => ?_, fun k' => ?_⟩
   ·rcases (xCX h.rising q).1 hq with rfl | ⟨hq2, _⟩
    ·simp only
     rw [r1.val]
     exact ⟨r1, by omega⟩
    exact h.right q hq2
   rw [coefK_ins h.rising]
   unfold plus
   by_cases e : k = k'
   ·subst e
    rw [if_pos rfl, if_pos rfl, r1.val]
   rw [if_neg e, if_neg e, h.tots k', Nat.add_zero]
  unfold putE putL
  rw [if_pos e1, if_pos e1]
  by_cases hl : (insK L k (addL (coefK L k) c)).length ≤ 256
  ·rw [if_pos hl]
   exact .inl ⟨rfl, hs.ok hl hf2, hs⟩
  rw [if_neg hl]
  exact .inr ⟨rfl, fun ho => hl (ho.len hs)⟩
 obtain ⟨e1, _⟩ := add_no (h.coef k) hc (by omega)
 unfold putE
 rw [if_neg (by rw [e1]; decide), e1]
 refine .inr ⟨rfl, fun ho => ?_⟩
 have := ho.1 k
 rw [hpk] at this
 exact hb this
theorem puts_spec : ∀ {p : List Mn} {L : LkY} {f : List Nat → Nat}, (∀ m ∈ p, GoodM m) → DomM p → StY L f → OkF f →
  ((puts L p).2 = 0 ∧ OkF (fun k => f k + tot (ofP p) k) ∧ StY (puts L p).1 (fun k => f k + tot (ofP p) k)) ∨ ((puts L p).2 = 2 ∧ ¬ OkF (fun k => f k + tot (ofP p) k))
 | [], L, f, _, _, h, ho => .inl ⟨rfl, ho, h⟩
 | m :: p, L, f, hg, hd, h, ho => by
  obtain ⟨g1, g2, g3, _⟩ := hg m (by simp)
  have hsm : Small m.2 := hd 0 m rfl
  have hk64 : ∀ x ∈ keyX m.2, x ≤ 64 := fun x hx => by
   obtain ⟨j, hj⟩ := zW.1 hx
   exact keyX_le hsm j x hj
  have efun : (fun k => f k + tot (ofP (m :: p)) k) = fun k => plus f (keyX m.2) (val m.1) k + tot (ofP p) k := by
   funext k
   simp only [ofP, yW, tot, plus]
   omega
  rw [efun]
  rcases put_spec (k := keyX m.2) (c := m.1) (n := val m.1) h (RtY.of g1 g2) (val_pos g1 g2 g3) hk64 ho.2.1 with ⟨e, ho2, hs2⟩ | ⟨e, hno⟩
  ·unfold puts
   rw [if_pos e]
   exact puts_spec (fun n hn => hg n (zT _ hn)) (fun k x hx => hd (k + 1) x hx) hs2 ho2
  unfold puts
  rw [if_neg (by rw [e]; decide)]
  exact .inr ⟨e, fun hh => hno (hh.mono fun k => Nat.le_add_right _ _)⟩
def mulT (l r : Tm) : Tm := l.flatMap fun t => r.map fun u => (addK t.1 u.1, t.2 * u.2)
theorem xBS (t : List Nat × Nat) (l r : Tm) : mulT (t :: l) r = (r.map fun u => (addK t.1 u.1, t.2 * u.2)) ++ mulT l r := rfl
theorem prodIn_spec {m : Mn} (hgm : GoodM m) (hm : Small m.2) : ∀ {q : List Mn} {L : LkY} {f : List Nat → Nat}, (∀ n ∈ q, GoodM n) → DomM q → StY L f → OkF f →
  ((prodIn m L q).2 = 0 ∧ OkF (fun k => f k + tot ((ofP q).map fun u => (addK (keyX m.2) u.1, val m.1 * u.2)) k) ∧ StY (prodIn m L q).1 (fun k => f k + tot ((ofP q).map fun u => (addK (keyX m.2) u.1, val m.1 * u.2)) k)) ∨
  ((prodIn m L q).2 = 2 ∧ ¬ OkF (fun k => f k + tot ((ofP q).map fun u => (addK (keyX m.2) u.1, val m.1 * u.2)) k))
 | [], L, f, _, _, h, ho => .inl ⟨rfl, ho, h⟩
 | n :: q, L, f, hg, hd, h, ho => by
  obtain ⟨g1, g2, g3, _⟩ := hg n (by simp)
  obtain ⟨c1, c2, c3, _⟩ := hgm
  have hp1 := val_pos g1 g2 g3
  have hp2 := val_pos c1 c2 c3
  have hpos : 1 ≤ val m.1 * val n.1 := Nat.mul_pos hp2 hp1
  have efun : (fun k => f k + tot ((ofP (n :: q)).map fun u => (addK (keyX m.2) u.1, val m.1 * u.2)) k) = fun k => plus f (addK (keyX m.2) (keyX n.2)) (val m.1 * val n.1) k + tot ((ofP q).map fun u => (addK (keyX m.2) u.1, val m.1 * u.2)) k := by
   funext k
   simp only [ofP, yW, tot, plus]
   omega
  have hat : plus f (addK (keyX m.2) (keyX n.2)) (val m.1 * val n.1) (addK (keyX m.2) (keyX n.2)) = f (addK (keyX m.2) (keyX n.2)) + val m.1 * val n.1 := by unfold plus; rw [if_pos rfl]
  rw [efun]
  by_cases ha : (addK (keyX m.2) (keyX n.2)).all (fun x => decide (x ≤ 64)) = true
  ·have e0 : raisedE (keyX m.2) n.2 = 0 := by unfold raisedE; rw [if_pos ha]
   have ek : raisedK (keyX m.2) n.2 = addK (keyX m.2) (keyX n.2) := by unfold raisedK; rw [if_pos ha]
   have h64 : ∀ x ∈ addK (keyX m.2) (keyX n.2), x ≤ 64 := fun x hx => by simpa using List.all_eq_true.1 ha x hx
   unfold prodIn
   rw [if_pos e0, ek]
   by_cases hb : val m.1 * val n.1 < bigN
   ·obtain ⟨e1, r1⟩ := mul_ok (RtY.of c1 c2) (RtY.of g1 g2) hb
    rw [if_pos e1]
    rcases put_spec h r1 hpos h64 ho.2.1 with ⟨e, ho2, hs2⟩ | ⟨e, hno⟩
    ·rw [if_pos e]
     exact prodIn_spec ⟨c1, c2, c3, by assumption⟩ hm (fun x hx => hg x (zT _ hx)) (fun k x hx => hd (k + 1) x hx) hs2 ho2
    rw [if_neg (by rw [e]; decide)]
    exact .inr ⟨e, fun hh => hno (hh.mono fun k => Nat.le_add_right _ _)⟩
   obtain ⟨e1, _⟩ := mul_no (RtY.of c1 c2) (RtY.of g1 g2) (by omega)
   rw [if_neg (by rw [e1]; decide)]
   refine .inr ⟨e1, fun hh => ?_⟩
   have h1 := hh.1 (addK (keyX m.2) (keyX n.2))
   simp only at h1
   rw [hat] at h1
   omega
  have e0 : raisedE (keyX m.2) n.2 = 2 := by unfold raisedE; rw [if_neg ha]
  unfold prodIn
  rw [if_neg (by rw [e0]; decide)]
  refine .inr ⟨e0, fun hh => ha ?_⟩
  rw [List.all_eq_true]
  intro x hx
  have h1 := hh.2.1 (addK (keyX m.2) (keyX n.2)) (by simp only; rw [hat]; omega) x hx
  simpa using h1
theorem prods_spec {q : List Mn} (hgq : ∀ n ∈ q, GoodM n) (hdq : DomM q) : ∀ {p : List Mn} {L : LkY} {f : List Nat → Nat}, (∀ m ∈ p, GoodM m) → DomM p → StY L f → OkF f →
  ((prods q L p).2 = 0 ∧ OkF (fun k => f k + tot (mulT (ofP p) (ofP q)) k) ∧ StY (prods q L p).1 (fun k => f k + tot (mulT (ofP p) (ofP q)) k)) ∨ ((prods q L p).2 = 2 ∧ ¬ OkF (fun k => f k + tot (mulT (ofP p) (ofP q)) k))
 | [], L, f, _, _, h, ho => .inl ⟨rfl, ho, h⟩
 | m :: p, L, f, hg, hd, h, ho => by
  have efun : (fun k => f k + tot (mulT (ofP (m :: p)) (ofP q)) k) = fun k => (f k + tot ((ofP q).map fun u => (addK (keyX m.2) u.1, val m.1 * u.2)) k) + tot (mulT (ofP p) (ofP q)) k := by
   funext k
   have e : ofP (m :: p) = (keyX m.2, val m.1) :: ofP p := rfl
   rw [e, xBS, xDU]
   simp only
   omega
  rw [efun]
  rcases prodIn_spec (hg m (by simp)) (hd 0 m rfl) hgq hdq h ho with ⟨e, ho2, hs2⟩ | ⟨e, hno⟩
  ·unfold prods
   rw [if_pos e]
   exact prods_spec hgq hdq (fun x hx => hg x (zT _ hx)) (fun k x hx => hd (k + 1) x hx) hs2 ho2
  unfold prods
  rw [if_neg (by rw [e]; decide)]
  exact .inr ⟨e, fun hh => hno (hh.mono fun k => Nat.le_add_right _ _)⟩
theorem StY.nil : StY [] (fun _ => 0) := ⟨rising_nil, fun q hq => (by cases hq), fun k => rfl⟩
theorem okF_zero : OkF (fun _ => 0) := ⟨fun _ => rt_nil.2, fun k hk => absurd hk (by simp), fun l _ hl => by
 cases l with
 | nil => simp
 | cons a l => exact absurd (hl a (by simp)) (by simp)⟩
theorem Pol.dom {p : List Mn} (h : Pol p) : DomM p := fun _ m hk =>
 ⟨(h.small m (zD hk)).1, fun _ x hj => (h.good (zD hk)).2.2.2 x (zD hj)⟩
theorem prod_spec {p q : List Mn} (hp : Pol p) (hq : Pol q) :
  (prodE p q = 0 ∧ OkF (tot (mulT (ofP p) (ofP q))) ∧ ∃ L, StY L (tot (mulT (ofP p) (ofP q))) ∧ prodL p q = rowLY L) ∨ (prodE p q = 2 ∧ ¬ OkF (tot (mulT (ofP p) (ofP q))) ∧ prodL p q = []) := by
 have h := prods_spec (fun n hn => hq.good hn) hq.dom (fun m hm => hp.good hm) hp.dom StY.nil okF_zero
 simp only [Nat.zero_add] at h
 rcases h with ⟨e, ho, hs⟩ | ⟨e, hno⟩
 ·have e2 : prodE p q = 0 := e
  exact .inl ⟨e, ho, _, hs, by unfold prodL; rw [if_pos e2]⟩
 have e2 : prodE p q = 2 := e
 exact .inr ⟨e, hno, by unfold prodL; rw [if_neg (by rw [e2]; decide)]⟩
theorem topK_cons (x : Nat) (a : List Nat) : topK (x :: a) = if topK a = 0 ∧ x = 0 then 0 else topK a + 1 := by
 unfold topK
 rw [List.reverse_cons, List.dropWhile_append]
 by_cases h : (a.reverse.dropWhile (· == 0)).isEmpty = true
 ·have h1 : a.reverse.dropWhile (· == 0) = [] := List.isEmpty_iff.1 h
  rw [if_pos h, h1]
  by_cases hx : x = 0
  ·subst hx; simp
  have : (x == 0) = false := by simpa using hx
  simp [List.dropWhile, this, hx]
 have h1 : ¬ (a.reverse.dropWhile (· == 0)).length = 0 := fun e => h (by rw [zE e]; rfl)
 rw [if_neg h, if_neg (fun hh => h1 hh.1)]
 simp
theorem unX_cons (x : Nat) (a : List Nat) : unX (x :: a) = if topK a = 0 ∧ x = 0 then [] else (x : Int) :: unX a := by
 unfold unX
 rw [topK_cons]
 split
 ·rfl
 rw [List.take_succ_cons, yW]; rfl
theorem unX_nil_iff (a : List Nat) : unX a = [] ↔ topK a = 0 := by
 cases a with
 | nil => simp [unX, topK]
 | cons x a =>
  rw [unX_cons, topK_cons]
  split
  ·simp
  simp
theorem cmp_trim : ∀ {a b : List Nat}, a.length = b.length → ltK a b → cmpX (unX a) (unX b) < 0
 | [], [], _, h => absurd h (xAS _)
 | [], _ :: _, h, _ => by simp at h
 | _ :: _, [], h, _ => by simp at h
 | x :: a, y :: b, hl, h => by
  have hl' : a.length = b.length := by simpa using hl
  unfold ltK cmpK at h
  rw [unX_cons, unX_cons]
  by_cases hxy : x < y
  ·rw [if_neg (show ¬ (topK b = 0 ∧ y = 0) by omega)]
   split
   ·unfold cmpX; decide
   unfold cmpX
   rw [if_pos (by omega)]
   decide
  rw [if_neg hxy] at h
  by_cases hyx : y < x
  ·rw [if_pos hyx] at h
   exact absurd h (by decide)
  rw [if_neg hyx] at h
  have hxe : x = y := by omega
  subst hxe
  have ih := cmp_trim hl' h
  by_cases hb : topK b = 0
  ·rw [(unX_nil_iff b).2 hb] at ih
   cases hu : unX a with
   | nil => rw [hu] at ih; exact absurd ih (by decide)
   | cons z r => rw [hu] at ih; exact absurd ih (by unfold cmpX; decide)
  rw [if_neg (show ¬ (topK b = 0 ∧ x = 0) from fun hh => hb hh.1)]
  split
  ·unfold cmpX; decide
  unfold cmpX
  rw [if_neg (by omega), if_neg (by omega)]
  exact ih
theorem keyX_unX {k : List Nat} (h : k.length = 512) : keyX (unX k) = k := by
 obtain ⟨n, hn⟩ := top_split k
 unfold keyX
 have hlen : (unX k).length = (k.take (topK k)).length := by unfold unX; simp
 have hn2 : 512 - (unX k).length = n := by
  have := congrArg List.length hn
  rw [zF, yM, h] at this
  rw [hlen]
  omega
 rw [hn2]
 unfold unX
 rw [map_ofNat]
 exact hn.symm
theorem unX_last (l : List Nat) : (unX l).getLast? ≠ some 0 := by
 induction l with
 | nil => simp [unX]
 | cons x a ih =>
  rw [unX_cons]
  split
  ·simp
  rename_i h
  cases hu : unX a with
  | nil =>
   have := (unX_nil_iff a).1 hu
   simp
   omega
  | cons z r =>
   rw [hu] at ih
   rw [List.getLast?_cons_cons]
   exact ih
theorem StY.row {L : LkY} {f : List Nat → Nat} (h : StY L f) (ho : OkF f) (hk : ∀ q ∈ L, q.1.length = 512) : Pol (rowLY L) ∧ checkE (rowLY L) 9223372036854775807 = 0 ∧ tot (ofP (rowLY L)) = f := by
 have hmem : ∀ m ∈ rowLY L, ∃ q ∈ L, m = (q.2, unX q.1) := by
  intro m hm
  obtain ⟨q, hq, rfl⟩ := yL.1 hm
  exact ⟨q, hq, rfl⟩
 have hmon : ∀ m ∈ rowLY L, monB m = true := by
  intro m hm
  obtain ⟨q, hq, rfl⟩ := hmem m hm
  obtain ⟨h1, h2⟩ := h.right q hq
  have hne : ¬ q.2.length = 0 := fun e => by
   rw [zE e] at h2
   simp [val] at h2
  have hl := unX_last q.1
  rw [List.getLast?_eq_getElem?] at hl
  rw [monB_yes hne h1.right (fun k x hx => by
   unfold unX at hx
   rw [zU] at hx
   cases hy : (q.1.take (topK q.1))[k]? with
   | none => rw [hy] at hx; simp at hx
   | some y => rw [hy] at hx; simp at hx; subst hx; exact Int.natCast_nonneg y)]
  simp only [Bool.or_eq_true, Bool.not_eq_true', zY, ne_eq]
  exact .inr hl
 have hsort : SortedX (rowLY L) := by
  refine sortedX_of fun k m n hm hn => ?_
  unfold rowLY at hm hn
  rw [zU] at hm hn
  cases ha : L[k]? with
  | none => rw [ha] at hm; simp at hm
  | some a =>
   cases hb : L[k + 1]? with
   | none => rw [hb] at hn; simp at hn
   | some b =>
    rw [ha] at hm
    rw [hb] at hn
    simp at hm hn
    subst hm; subst hn
    have hr := h.rising
    unfold Rising at hr
    rw [List.pairwise_iff_getElem] at hr
    obtain ⟨i1, e1⟩ := zB.1 ha
    obtain ⟨i2, e2⟩ := zB.1 hb
    have hlt := hr k (k + 1) i1 i2 (by omega)
    rw [e1, e2] at hlt
    exact cmp_trim (by rw [hk a (zD ha), hk b (zD hb)]) hlt
 have hsm : ∀ m ∈ rowLY L, m.2.length ≤ 512 ∧ ∀ n ∈ m.2, n ≤ 64 := by
  intro m hm
  obtain ⟨q, hq, rfl⟩ := hmem m hm
  refine ⟨?_, fun n hn => ?_⟩
  ·unfold unX
   have := hk q hq
   simp only [zJ, zH]
   omega
  simp only at hn
  unfold unX at hn
  obtain ⟨x, hx, rfl⟩ := yL.1 hn
  have := ho.2.1 q.1 ((h.mem q).1 hq).1 x (List.mem_of_mem_take hx)
  exact Int.ofNat_le.2 this
 have hlim : ∀ m ∈ rowLY L, Lim m.1 := by
  intro m hm
  obtain ⟨q, hq, rfl⟩ := hmem m hm
  simp only
  rw [(h.right q hq).1.1]
  exact xCT _
 have hlen : (rowLY L).length ≤ 256 := by unfold rowLY; rw [zJ]; exact ho.len h
 refine ⟨⟨hlim, hmon, hsort, hsm, hlen⟩, (xDJ (by omega)).2 ⟨xBD.2 fun k hkk => ?_, ?_⟩, ?_⟩
 ·unfold okAt
  rw [zC hkk]
  have hm := List.getElem_mem hkk
  simp only [Bool.and_eq_true, yY, Bool.or_eq_true, beq_iff_eq]
  refine ⟨⟨hmon _ hm, ?_⟩, ?_⟩
  ·have := (hsm _ hm).1
   omega
  by_cases h0 : k = 0
  ·exact .inl h0
  right
  have h1 : k - 1 < (rowLY L).length := by omega
  have hs : ∀ {p : List Mn}, SortedX p → ∀ k m n, p[k]? = some m → p[k + 1]? = some n → cmpX m.2 n.2 < 0 := by
   intro p
   induction p with
   | nil => intro _ k m n hm; simp at hm
   | cons a r ih =>
    intro hs k m n hm hn
    cases k with
    | zero =>
     simp at hm
     subst hm
     exact hs.head (by simpa using hn)
    | succ k => exact ih hs.tail k m n (by simpa using hm) (by simpa using hn)
  unfold expsAt
  rw [zC hkk, zC h1]
  exact hs hsort (k - 1) _ _ (zC h1) (by rw [show k - 1 + 1 = k by omega]; exact zC hkk)
 ·unfold boundsB smallB
  simp only [Bool.and_eq_true, yY, List.all_eq_true]
  exact ⟨hlen, hsm⟩
 funext k
 have key : ∀ {M : LkY}, Rising M → (∀ q ∈ M, q.1.length = 512) → tot (ofP (rowLY M)) k = val (coefK M k) := by
  intro M
  induction M with
  | nil => intro _ _; rfl
  | cons q M ih =>
   intro hr hk2
   have hr' := hr
   unfold Rising at hr
   rw [List.pairwise_cons] at hr
   have e : ofP (rowLY (q :: M)) = (keyX (unX q.1), val q.2) :: ofP (rowLY M) := rfl
   rw [e, tot, ih hr.2 (fun x hx => hk2 x (zT _ hx)), keyX_unX (hk2 q (by simp))]
   by_cases hq : q.1 = k
   ·subst hq
    rw [if_pos rfl, coefK_head]
    have : coefK M q.1 = [] := by
     refine xBZ ?_
     rw [Bool.eq_false_iff]
     intro hh
     obtain ⟨d, hd⟩ := xBI.1 hh
     exact xAS q.1 (hr.1 (q.1, d) hd)
    rw [this]
    simp [val]
   rw [if_neg hq, coefK_tail (fun e => hq e.symm), Nat.zero_add]
 rw [key h.rising hk, h.tots k]
theorem cmpX_anti : ∀ {a b : List Int}, cmpX a b < 0 → ¬ cmpX b a < 0
 | [], [], h => by simp [cmpX] at h
 | [], _ :: _, _ => by unfold cmpX; decide
 | _ :: _, [], h => by unfold cmpX at h; exact absurd h (by decide)
 | x :: a, y :: b, h => by
  unfold cmpX at h ⊢
  by_cases h1 : x < y
  ·rw [if_neg (by omega), if_pos h1]
   decide
  rw [if_neg h1] at h
  by_cases h2 : y < x
  ·rw [if_pos h2] at h
   exact absurd h (by decide)
  rw [if_neg h2] at h
  rw [if_neg h2, if_neg h1]
  exact cmpX_anti h
theorem monB_partsX {m : Mn} (h : monB m = true) : m.2.length = 0 ∨ ¬ m.2[m.2.length - 1]? = some 0 := by
 obtain ⟨c, es⟩ := m
 simp only [monB, Bool.and_eq_true, List.all_eq_true, yY, Bool.or_eq_true, Bool.not_eq_true', zY, ne_eq, beq_iff_eq] at h
 exact h.2
theorem unX_key {m : Mn} (h : monB m = true) (hs : Small m.2) : unX (keyX m.2) = m.2 := by
 have hm := (monB_partsX h)
 refine unX_keyX hs.1 (fun k x hx => (hs.2 k x hx).1) ?_
 by_cases h0 : m.2.length = 0
 ·exact .inl h0
 right
 have hlt : m.2.length - 1 < m.2.length := by omega
 refine ⟨m.2[m.2.length - 1], zC hlt, fun e => ?_⟩
 rcases hm with h1 | h1
 ·exact h0 h1
 exact h1 (by rw [zC hlt, e])
theorem key_lt {m n : Mn} (hm : monB m = true) (hn : monB n = true) (sm : Small m.2) (sn : Small n.2) (h : cmpX m.2 n.2 < 0) : ltK (keyX m.2) (keyX n.2) := by
 by_cases e : keyX m.2 = keyX n.2
 ·have e2 : m.2 = n.2 := by rw [← unX_key hm sm, ← unX_key hn sn, e]
  rw [e2, cmpX_self] at h
  exact absurd h (by decide)
 by_cases hlt : ltK (keyX m.2) (keyX n.2)
 ·exact hlt
 have h2 := cmp_trim (by rw [xBB sm.1, xBB sn.1]) (ltK_or e hlt)
 rw [unX_key hm sm, unX_key hn sn] at h2
 exact absurd h2 (cmpX_anti h)
theorem sorted_lt : ∀ {p : List Mn}, Pol p → (p.map fun m => ((keyX m.2, m.1) : List Nat × List Nat)).Pairwise (fun a b => ltK a.1 b.1)
 | [], _ => List.Pairwise.nil
 | m :: p, h => by
  have hp : Pol p := ⟨fun n hn => h.lim n (zT _ hn), fun n hn => h.mon n (zT _ hn), h.sort.tail, fun n hn => h.small n (zT _ hn), by have := h.len; simp at this; omega⟩
  have ih := sorted_lt hp
  rw [yW, List.pairwise_cons]
  refine ⟨?_, ih⟩
  cases p with
  | nil => intro q hq; simp at hq
  | cons n p =>
   have h1 : ltK (keyX m.2) (keyX n.2) := key_lt (h.mon m (by simp)) (h.mon n (by simp)) (h.dom 0 m rfl) (h.dom 1 n rfl) h.sort.1
   intro q hq
   rw [yW, List.pairwise_cons] at ih
   rw [yW] at hq
   rcases yB.1 hq with rfl | hq
   ·exact h1
   exact xBT h1 (ih.1 q hq)
theorem Pol.st {p : List Mn} (h : Pol p) : ∃ L, StY L (tot (ofP p)) ∧ (∀ q ∈ L, q.1.length = 512) ∧ rowLY L = p ∧ OkF (tot (ofP p)) := by
 have hr : Rising (p.map fun m => ((keyX m.2, m.1) : List Nat × List Nat)) := sorted_lt h
 have hrow : rowLY (p.map fun m => ((keyX m.2, m.1) : List Nat × List Nat)) = p := by
  unfold rowLY
  rw [List.map_map]
  conv => rhs; rw [← List.map_id p]
  refine List.map_congr_left fun m hm => ?_
  obtain ⟨k, hk⟩ := zW.1 hm
  have := unX_key (h.mon m hm) (h.dom k m hk)
  simp only [Function.comp, id]
  rw [this]
 have hlen : ∀ q ∈ p.map fun m => ((keyX m.2, m.1) : List Nat × List Nat), q.1.length = 512 := by
  intro q hq
  obtain ⟨m, hm, rfl⟩ := yL.1 hq
  obtain ⟨k, hk⟩ := zW.1 hm
  exact xBB (h.dom k m hk).1
 have htot : ∀ k, val (coefK (p.map fun m => ((keyX m.2, m.1) : List Nat × List Nat)) k) = tot (ofP p) k := by
  intro k
  have key : ∀ {M : LkY}, Rising M → tot (ofL M) k = val (coefK M k) := by
   intro M
   induction M with
   | nil => intro _; rfl
   | cons q M ih =>
    intro hr2
    unfold Rising at hr2
    rw [List.pairwise_cons] at hr2
    have e : ofL (q :: M) = (q.1, val q.2) :: ofL M := rfl
    rw [e, tot, ih hr2.2]
    by_cases hq : q.1 = k
    ·subst hq
     rw [if_pos rfl, coefK_head]
     have : coefK M q.1 = [] := by
      refine xBZ ?_
      rw [Bool.eq_false_iff]
      intro hh
      obtain ⟨d, hd⟩ := xBI.1 hh
      exact xAS q.1 (hr2.1 (q.1, d) hd)
     rw [this]
     simp [val]
    rw [if_neg hq, coefK_tail (fun e => hq e.symm), Nat.zero_add]
  rw [← key hr]
  congr 1
  unfold ofL ofP
  rw [List.map_map]
  rfl
 have hst : StY (p.map fun m => ((keyX m.2, m.1) : List Nat × List Nat)) (tot (ofP p)) := by
  refine ⟨hr, fun q hq => ?_, htot⟩
  obtain ⟨m, hm, rfl⟩ := yL.1 hq
  obtain ⟨g1, g2, g3, _⟩ := h.good hm
  exact ⟨RtY.of g1 g2, val_pos g1 g2 g3⟩
 refine ⟨_, hst, hlen, hrow, hst.ok (by rw [zJ]; exact h.len) fun k hk x hx => ?_⟩
 obtain ⟨q, hq, rfl⟩ := yL.1 ((hst.keys k).2 hk)
 obtain ⟨m, hm, rfl⟩ := yL.1 hq
 obtain ⟨i, hi⟩ := zW.1 hm
 obtain ⟨j, hj⟩ := zW.1 hx
 exact keyX_le (h.dom i m hi) j x hj
def dd : List (List Nat) → List (List Nat)
 | [] => []
 | a :: l => if a ∈ dd l then dd l else a :: dd l
theorem mem_dd : ∀ {l : List (List Nat)} {x : List Nat}, x ∈ dd l ↔ x ∈ l
 | [], x => by simp [dd]
 | a :: l, x => by
  unfold dd
  split
  ·rename_i h
   rw [mem_dd, yB]
   constructor
   ·exact .inr
   rintro (rfl | hx)
   ·exact mem_dd.1 h
   exact hx
  rw [yB, yB, mem_dd]
theorem nodup_dd : ∀ l : List (List Nat), (dd l).Nodup
 | [] => List.Pairwise.nil
 | a :: l => by
  unfold dd
  split
  ·exact nodup_dd l
  rename_i h
  exact List.nodup_cons.2 ⟨h, nodup_dd l⟩
def wsum (G : List Nat → Nat) : Tm → Nat
 | [] => 0
 | t :: l => t.2 * G t.1 + wsum G l
def ksum (F : List Nat → Nat) : List (List Nat) → Nat
 | [] => 0
 | k :: K => F k + ksum F K
theorem ksum_add (F G : List Nat → Nat) : ∀ K, ksum (fun k => F k + G k) K = ksum F K + ksum G K
 | [] => rfl
 | k :: K => by unfold ksum; rw [ksum_add F G K]; omega
theorem ksum_none {c : Nat} {a : List Nat} {G : List Nat → Nat} : ∀ {K : List (List Nat)}, a ∉ K → ksum (fun k => (if a = k then c else 0) * G k) K = 0
 | [], _ => rfl
 | k :: K, h => by
  rw [yB, not_or] at h
  unfold ksum
  rw [if_neg h.1, ksum_none h.2]
  simp
theorem ksum_one {c : Nat} {a : List Nat} {G : List Nat → Nat} : ∀ {K : List (List Nat)}, K.Nodup → a ∈ K → ksum (fun k => (if a = k then c else 0) * G k) K = c * G a
 | [], _, h => by cases h
 | k :: K, hn, h => by
  rw [List.nodup_cons] at hn
  unfold ksum
  by_cases e : a = k
  ·subst e
   rw [if_pos rfl, ksum_none hn.1, Nat.add_zero]
  rw [if_neg e, ksum_one hn.2 ((yB.1 h).resolve_left e)]
  omega
theorem ksum_zero (G : List Nat → Nat) : ∀ K, ksum (fun k => 0 * G k) K = 0
 | [] => rfl
 | k :: K => by unfold ksum; rw [ksum_zero G K]; omega
theorem wsum_ksum (G : List Nat → Nat) {K : List (List Nat)} (hn : K.Nodup) : ∀ {l : Tm}, (∀ t ∈ l, t.1 ∈ K) → wsum G l = ksum (fun k => tot l k * G k) K
 | [], _ => (ksum_zero G K).symm
 | t :: l, h => by
  have e : (fun k => tot (t :: l) k * G k) = fun k => (if t.1 = k then t.2 else 0) * G k + tot l k * G k := by
   funext k
   rw [tot, Nat.add_mul]
  rw [wsum, e, ksum_add, ksum_one hn (h t (by simp)), wsum_ksum G hn fun u hu => h u (zT _ hu)]
theorem wsum_congr (G : List Nat → Nat) {l l' : Tm} (h : tot l = tot l') : wsum G l = wsum G l' := by
 have hm : ∀ t ∈ l ++ l', t.1 ∈ dd ((l ++ l').map (·.1)) := fun t ht => mem_dd.2 (yL.2 ⟨t, ht, rfl⟩)
 rw [wsum_ksum G (nodup_dd _) fun t ht => hm t (List.mem_append_left _ ht), wsum_ksum G (nodup_dd _) fun t ht => hm t (List.mem_append_right _ ht), h]
theorem tot_scale (a : List Nat) (c : Nat) (k : List Nat) : ∀ r : Tm, tot (r.map fun u => (addK a u.1, c * u.2)) k = c * tot (r.map fun u => (addK a u.1, u.2)) k
 | [] => rfl
 | u :: r => by
  rw [yW, yW, tot, tot, tot_scale a c k r, Nat.mul_add]
  simp only
  split
  ·rfl
  simp
theorem tot_mul (r : Tm) (k : List Nat) : ∀ l : Tm, tot (mulT l r) k = wsum (fun a => tot (r.map fun u => (addK a u.1, u.2)) k) l
 | [] => rfl
 | t :: l => by rw [xBS, xDU, tot_mul r k l, wsum, tot_scale]
theorem xFU {l l' r : Tm} (h : tot l = tot l') : tot (mulT l r) = tot (mulT l' r) := by
 funext k
 rw [tot_mul, tot_mul, wsum_congr _ h]
theorem addK_comm (a b : List Nat) : addK a b = addK b a := by
 unfold addK
 rw [List.zipWith_comm]
 congr 1
 funext x y
 omega
theorem addK_assoc : ∀ (a b c : List Nat), addK (addK a b) c = addK a (addK b c)
 | [], b, c => by cases b <;> cases c <;> rfl
 | _ :: _, [], c => by cases c <;> rfl
 | _ :: _, _ :: _, [] => rfl
 | x :: a, y :: b, z :: c => by
  have ih := addK_assoc a b c
  unfold addK at ih ⊢
  simp only [List.zipWith_cons_cons]
  rw [ih, Nat.add_assoc]
theorem xCE (t : List Nat × Nat) (l : Tm) (k : List Nat) : ∀ r : Tm, tot (mulT r (t :: l)) k = tot (r.map fun u => (addK u.1 t.1, u.2 * t.2)) k + tot (mulT r l) k
 | [] => rfl
 | u :: r => by
  rw [xBS, xBS, xDU, xDU, xCE t l k r, yW, yW, tot, tot]
  omega
theorem xFV : ∀ r : Tm, mulT r [] = []
 | [] => rfl
 | u :: r => by rw [xBS, xFV r]; rfl
theorem xDN : ∀ l r : Tm, tot (mulT l r) = tot (mulT r l)
 | [], r => by rw [xFV]; rfl
 | t :: l, r => by
  funext k
  rw [xBS, xDU, xCE, xDN l r]
  congr 2
  refine List.map_congr_left fun u _ => ?_
  rw [addK_comm, Nat.mul_comm]
theorem mul_congr_right {l r r' : Tm} (h : tot r = tot r') : tot (mulT l r) = tot (mulT l r') := by
 rw [xDN l r, xDN l r', xFU h]
theorem mulT_append (l l' r : Tm) : mulT (l ++ l') r = mulT l r ++ mulT l' r := by
 unfold mulT
 rw [List.flatMap_append]
theorem mulT_map (t : List Nat × Nat) (c : Tm) : ∀ b : Tm, mulT (b.map fun u => (addK t.1 u.1, t.2 * u.2)) c = (mulT b c).map fun u => (addK t.1 u.1, t.2 * u.2)
 | [] => rfl
 | u :: b => by
  rw [yW, xBS, xBS, yI, mulT_map t c b, List.map_map]
  congr 1
  refine List.map_congr_left fun v _ => ?_
  simp only [Function.comp]
  rw [addK_assoc, Nat.mul_assoc]
theorem mulT_assoc (b c : Tm) : ∀ a : Tm, mulT (mulT a b) c = mulT a (mulT b c)
 | [] => rfl
 | t :: a => by rw [xBS, mulT_append, mulT_assoc b c a, mulT_map, xBS]
theorem keysLe_puts : ∀ {p : List Mn} {L : LkY}, DomM p → KeysLe L → KeysLe (puts L p).1
 | [], L, _, h => h
 | m :: p, L, hd, h => by
  have hk : (keyX m.2).length = 512 ∧ ∀ x ∈ keyX m.2, x ≤ 64 := ⟨xBB (hd 0 m rfl).1, fun x hx => by
   obtain ⟨j, hj⟩ := zW.1 hx
   exact keyX_le (hd 0 m rfl) j x hj⟩
  unfold puts
  split
  ·exact keysLe_puts (fun k x hx => hd (k + 1) x hx) (xGH h hk)
  exact xGH h hk
theorem keysLe_nil : KeysLe [] := fun q hq => by cases hq
theorem prod_yes {p q : List Mn} (hp : Pol p) (hq : Pol q) (ho : OkF (tot (mulT (ofP p) (ofP q)))) : prodE p q = 0 ∧ Pol (prodL p q) ∧ checkE (prodL p q) 9223372036854775807 = 0 ∧ tot (ofP (prodL p q)) = tot (mulT (ofP p) (ofP q)) := by
 have h := prods_spec (fun n hn => hq.good hn) hq.dom (fun m hm => hp.good hm) hp.dom StY.nil okF_zero
 simp only [Nat.zero_add] at h
 rcases h with ⟨e, _, hs⟩ | ⟨_, hno⟩
 ·have hk : ∀ x ∈ (prods q [] p).1, x.1.length = 512 := fun x hx => (keysLe_prods hq.dom hp.dom keysLe_nil x hx).1
  obtain ⟨r1, r2, r3⟩ := hs.row ho hk
  have e2 : prodE p q = 0 := e
  have e3 : prodL p q = rowLY (prods q [] p).1 := by unfold prodL; rw [if_pos e2]
  rw [e3]
  exact ⟨e, r1, r2, r3⟩
 exact absurd ho hno
theorem prod_no {p q : List Mn} (hp : Pol p) (hq : Pol q) (ho : ¬ OkF (tot (mulT (ofP p) (ofP q)))) : prodE p q = 2 ∧ prodL p q = [] := by
 rcases prod_spec hp hq with ⟨_, h, _⟩ | ⟨e, _, h⟩
 ·exact absurd h ho
 exact ⟨e, h⟩
theorem Pol.eq {p q : List Mn} (hp : Pol p) (hq : Pol q) (h : tot (ofP p) = tot (ofP q)) : p = q := by
 obtain ⟨L, s1, _, r1, _⟩ := hp.st
 obtain ⟨M, s2, _, r2, _⟩ := hq.st
 rw [← h] at s2
 rw [← r1, ← r2, s1.eq s2]
theorem addP_of {p q : List Mn} (hp : checkE p 9223372036854775807 = 0) (hq : checkE q 9223372036854775807 = 0) : addPE p q = sumE p q ∧ addPL p q = sumL p q ∧ mulPE p q = prodE p q ∧ mulPL p q = prodL p q := by
 have h := checkAll2_iff.2 ⟨hp, hq⟩
 unfold addPE addPL mulPE mulPL
 rw [if_pos h, if_pos h, if_pos h, if_pos h]
 exact ⟨rfl, rfl, rfl, rfl⟩
def Ch (p : List Mn) : Prop := Pol p ∧ checkE p 9223372036854775807 = 0
def ordN : List Int → Int
 | [] => 0
 | b :: fs => if 0 < b then -1 else if b < 0 then 1 else ordN fs
def ordZ : List Int → List Int → Int
 | [], fs => ordN fs
 | a :: es, [] => if a < 0 then -1 else if 0 < a then 1 else ordZ es []
 | a :: es, b :: fs => if a < b then -1 else if b < a then 1 else ordZ es fs
theorem ordGo_eq (es fs : List Int) : ∀ n k, max es.length fs.length - k = n → ordGo es fs n k = ordZ (es.drop k) (fs.drop k) := by
 intro n
 induction n with
 | zero =>
  intro k hk
  rw [zP (by omega), zP (by omega)]
  rfl
 | succ n ih =>
  intro k hk
  rw [ordGo, ih (k + 1) (by omega)]
  by_cases h1 : k < es.length
  ·have e1 : expI es k = es[k] := by unfold expI; rw [zC h1]; rfl
   rw [List.drop_eq_getElem_cons h1, e1]
   by_cases h2 : k < fs.length
   ·have e2 : expI fs k = fs[k] := by unfold expI; rw [zC h2]; rfl
    rw [List.drop_eq_getElem_cons h2, e2]
    rfl
   have e2 : expI fs k = 0 := by unfold expI; rw [yO (by omega)]; rfl
   rw [e2, zP (show fs.length ≤ k by omega), zP (show fs.length ≤ k + 1 by omega)]
   rfl
  have e1 : expI es k = 0 := by unfold expI; rw [yO (by omega)]; rfl
  have h2 : k < fs.length := by omega
  have e2 : expI fs k = fs[k] := by unfold expI; rw [zC h2]; rfl
  rw [e1, e2, List.drop_eq_getElem_cons h2, zP (show es.length ≤ k by omega), zP (show es.length ≤ k + 1 by omega)]
  rfl
theorem ordX_eq (es fs : List Int) : ordX es fs = ordZ es fs := by
 unfold ordX
 rw [ordGo_eq es fs _ 0 (by omega)]
 rfl
def RightX (es : List Int) : Prop := (∀ x ∈ es, 0 ≤ x) ∧ es.getLast? ≠ some 0
theorem RightX.tail {a : Int} {es : List Int} (h : RightX (a :: es)) (hne : es ≠ []) : RightX es :=
 ⟨fun x hx => h.1 x (zT _ hx), by have := h.2; rwa [List.getLast?_cons_of_ne_nil hne] at this⟩
theorem ordZ_nil_left : ∀ {fs : List Int}, RightX fs → fs ≠ [] → ordN fs = -1
 | [], _, h => absurd rfl h
 | b :: fs, h, _ => by
  unfold ordN
  have hb := h.1 b (by simp)
  by_cases h0 : 0 < b
  ·rw [if_pos h0]
  have hb0 : b = 0 := by omega
  subst hb0
  rw [if_neg (by omega), if_neg (by omega)]
  have hne : fs ≠ [] := by rintro rfl; exact h.2 rfl
  exact ordZ_nil_left (h.tail hne) hne
theorem xFR : ∀ {fs : List Int}, RightX fs → fs ≠ [] → ordZ fs [] = 1
 | [], _, h => absurd rfl h
 | b :: fs, h, _ => by
  unfold ordZ
  have hb := h.1 b (by simp)
  by_cases h0 : 0 < b
  ·rw [if_neg (by omega), if_pos h0]
  have hb0 : b = 0 := by omega
  subst hb0
  rw [if_neg (by omega), if_neg (by omega)]
  have hne : fs ≠ [] := by rintro rfl; exact h.2 rfl
  exact xFR (h.tail hne) hne
theorem ordZ_cmpX : ∀ {es fs : List Int}, (es = [] ∨ RightX es) → (fs = [] ∨ RightX fs) → ordZ es fs = cmpX es fs
 | [], [], _, _ => rfl
 | [], b :: fs, _, h => by show ordN (b :: fs) = _; rw [ordZ_nil_left (h.resolve_left (by simp)) (by simp)]; rfl
 | a :: es, [], h, _ => by rw [xFR (h.resolve_left (by simp)) (by simp)]; rfl
 | a :: es, b :: fs, h, h' => by
  have h1 := h.resolve_left (by simp)
  have h2 := h'.resolve_left (by simp)
  unfold ordZ cmpX
  split
  ·rfl
  split
  ·rfl
  refine ordZ_cmpX ?_ ?_
  ·by_cases he : es = []
   ·exact .inl he
   exact .inr (h1.tail he)
  by_cases he : fs = []
  ·exact .inl he
  exact .inr (h2.tail he)
theorem xFI {m : Mn} (h : monB m = true) : m.1 ≠ [] ∧ rightB m.1 = true ∧ (m.2 = [] ∨ RightX m.2) := by
 obtain ⟨c, es⟩ := m
 simp only [monB, Bool.and_eq_true, List.all_eq_true, yY, Bool.or_eq_true, Bool.not_eq_true', zY, ne_eq, beq_iff_eq] at h
 obtain ⟨⟨⟨h1, h2⟩, h3⟩, h4⟩ := h
 refine ⟨fun e => h1 (by simp only at e; rw [e]; rfl), h2, ?_⟩
 by_cases he : es = []
 ·exact .inl he
 refine .inr ⟨h3, ?_⟩
 rcases h4 with h4 | h4
 ·exact absurd (zE h4) he
 rw [List.getLast?_eq_getElem?]
 exact h4
theorem ordX_cmpX {m n : Mn} (h : monB m = true) (h' : monB n = true) : ordX m.2 n.2 = cmpX m.2 n.2 := by
 rw [ordX_eq]
 exact ordZ_cmpX (xFI h).2.2 (xFI h').2.2
def okR (p : List Mn) (vars : Int) (k : Nat) : Bool :=
 (match p[k]? with | some m => monB m && decide ((m.2.length : Int) ≤ vars) | none => false) && (k == 0 || decide (ordX (expsAt p (k - 1)) (expsAt p k) < 0))
def polyR (p : List Mn) (vars : Int) : Bool := (List.range p.length).all (okR p vars)
theorem polyR_iff {p : List Mn} {vars : Int} : polyR p vars = true ↔ ∀ k, k < p.length → okR p vars k = true := by
 simp [polyR, List.all_eq_true]
def checkR (p : List Mn) (vars : Int) : Int := if vars < 0 then 1 else if polyR p vars = false then 20 else if p.all smallR = false then 2 else if p.length ≤ 256 then 0 else 2
theorem polyR_eq (p : List Mn) (vars : Int) : polyR p vars = polyB p vars := by
 have key : (∀ k, k < p.length → ∃ m, p[k]? = some m ∧ monB m = true) → ∀ k, k < p.length → okR p vars k = okAt p vars k := by
  intro hm k hk
  unfold okR okAt
  by_cases h0 : k = 0
  ·subst h0
   obtain ⟨m, h1, _⟩ := hm 0 hk
   rw [h1]
   simp
  obtain ⟨m, h1, h2⟩ := hm k hk
  obtain ⟨n, h3, h4⟩ := hm (k - 1) (by omega)
  have e : ordX (expsAt p (k - 1)) (expsAt p k) = cmpX (expsAt p (k - 1)) (expsAt p k) := by
   unfold expsAt
   rw [h1, h3]
   exact ordX_cmpX h4 h2
  rw [e, h1]
 have mon1 : (∀ k, k < p.length → okR p vars k = true) → ∀ k, k < p.length → ∃ m, p[k]? = some m ∧ monB m = true := by
  intro h k hk
  have := h k hk
  unfold okR at this
  rw [zC hk] at this ⊢
  simp only [Bool.and_eq_true] at this
  exact ⟨_, rfl, this.1.1⟩
 have mon2 : (∀ k, k < p.length → okAt p vars k = true) → ∀ k, k < p.length → ∃ m, p[k]? = some m ∧ monB m = true := by
  intro h k hk
  have := h k hk
  unfold okAt at this
  rw [zC hk] at this ⊢
  simp only [Bool.and_eq_true] at this
  exact ⟨_, rfl, this.1.1⟩
 rw [Bool.eq_iff_iff, polyR_iff, xBD]
 exact ⟨fun h k hk => (key (mon1 h) k hk) ▸ h k hk, fun h k hk => (key (mon2 h) k hk).symm ▸ h k hk⟩
theorem polyB_mon {p : List Mn} {vars : Int} (h : polyB p vars = true) {m : Mn} (hm : m ∈ p) : monB m = true := by
 obtain ⟨k, hk⟩ := zW.1 hm
 have := xBD.1 h k (zB.1 hk).1
 unfold okAt at this
 rw [hk] at this
 simp only [Bool.and_eq_true] at this
 exact this.1.1
theorem smallR_eq {m : Mn} (h : monB m = true) : smallR m = smallB m := by
 have := xAV (xFI h).2.1
 unfold smallR smallB
 rw [decide_eq_true this, Bool.true_and, Bool.and_comm]
theorem all_congr' {α : Type} {p : List α} {f g : α → Bool} (h : ∀ x ∈ p, f x = g x) : p.all f = p.all g := by
 rw [Bool.eq_iff_iff, List.all_eq_true, List.all_eq_true]
 exact ⟨fun H x hx => h x hx ▸ H x hx, fun H x hx => (h x hx).symm ▸ H x hx⟩
theorem checkR_eq (p : List Mn) (vars : Int) : checkR p vars = checkE p vars := by
 unfold checkR checkE
 rw [polyR_eq]
 split
 ·rfl
 cases hp : polyB p vars
 ·rfl
 rw [all_congr' (fun m hm => smallR_eq (polyB_mon hp hm))]
 simp only [Bool.true_eq_false, if_false]
 unfold boundsB
 by_cases h : p.length ≤ 256
 ·rw [decide_eq_true h, Bool.true_and, if_pos h]
 rw [decide_eq_false h, Bool.false_and, if_neg h]
 split <;> rfl
end Go.Proofs.YtdjmjhlbjcgoiaaGreatDoor
