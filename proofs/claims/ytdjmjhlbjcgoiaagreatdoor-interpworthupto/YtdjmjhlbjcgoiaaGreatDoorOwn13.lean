/- Texts of the proof, one behind the other. -/
import Derived.Test.YtdjmjhlbjcgoiaaGreatDoorOwn11
import Derived.Test.YtdjmjhlbjcgoiaaGreatDoorOwn12
import Derived.Test.YtdjmjhlbjcgoiaaGreatDoorOwn10
import Derived.Deep.DeepAppendRoom
import Derived.Test.YtdjmjhlbjcgoiaaGreatDoorOwn4
import Derived.Test.YtdjmjhlbjcgoiaaGreatDoorOwn5
import Derived.Deep.Slices
import Derived.Sort.QuietTacIn
import Derived.Sort.CutIn
/- Powers by squaring and products one factor at a time are in bounds alike: plain data. -/
namespace Go.Proofs.YtdjmjhlbjcgoiaaGreatDoor
open Go.RowKit Go.Maps

/-- Terms with whole keys, none of them nought. -/
def GT (T : Tm) : Prop := ∀ t ∈ T, t.1.length = 512 ∧ 1 ≤ t.2

theorem gt_mul {S T : Tm} (hS : GT S) (hT : GT T) : GT (mulT S T) := by
  intro t ht
  unfold mulT at ht
  obtain ⟨s, hs, ht⟩ := List.mem_flatMap.1 ht
  obtain ⟨u, hu, rfl⟩ := List.mem_map.1 ht
  obtain ⟨a1, a2⟩ := hS s hs
  obtain ⟨b1, b2⟩ := hT u hu
  refine ⟨?_, Nat.mul_pos a2 b2⟩
  unfold addK
  rw [List.length_zipWith, a1, b1]
  rfl

theorem gt_ofP {p : List Mn} (h : Pol p) : GT (ofP p) := by
  intro t ht
  obtain ⟨m, hm, rfl⟩ := List.mem_map.1 ht
  obtain ⟨j, hj⟩ := List.mem_iff_getElem?.1 hm
  obtain ⟨g1, g2, g3, _⟩ := h.good hm
  exact ⟨keyX_len (h.dom j m hj).1, val_pos g1 g2 g3⟩

theorem mul_ne {S T : Tm} (hS : S ≠ []) (hT : T ≠ []) : mulT S T ≠ [] := by
  cases S with
  | nil => exact absurd rfl hS
  | cons s S =>
    cases T with
    | nil => exact absurd rfl hT
    | cons t T =>
      rw [mulT_cons]
      simp

theorem tot_pos_mem {T : Tm} {k : List Nat} : 1 ≤ tot T k → ∃ t ∈ T, t.1 = k := by
  induction T with
  | nil => intro h; simp [tot] at h
  | cons t T ih =>
    intro h
    simp only [tot] at h
    by_cases e : t.1 = k
    · exact ⟨t, by simp, e⟩
    · rw [if_neg e, Nat.zero_add] at h
      obtain ⟨u, hu, hk⟩ := ih h
      exact ⟨u, List.mem_cons_of_mem _ hu, hk⟩

/-- A total goes on in a product with a term. -/
theorem tot_shift {u : List Nat × Nat} (hu : 1 ≤ u.2) (T : Tm) (hT : GT T) (k : List Nat) : tot T k ≤ tot (T.map fun t => (addK t.1 u.1, t.2 * u.2)) (addK k u.1) := by
  induction T with
  | nil => simp [tot]
  | cons t T ih =>
    have ih := ih fun x hx => hT x (List.mem_cons_of_mem _ hx)
    simp only [List.map_cons, tot]
    by_cases e : t.1 = k
    · subst e
      rw [if_pos rfl, if_pos rfl]
      have : t.2 * 1 ≤ t.2 * u.2 := Nat.mul_le_mul_left _ hu
      omega
    · rw [if_neg e]
      omega

theorem tot_mul_ge {S T : Tm} {u : List Nat × Nat} (hu : u ∈ T) (hT : GT T) (hS : GT S) (k : List Nat) : tot S k ≤ tot (mulT S T) (addK k u.1) := by
  have h1 := tot_shift (hT u hu).2 S hS k
  refine Nat.le_trans h1 ?_
  clear h1
  obtain ⟨a, b, rfl⟩ := List.append_of_mem hu
  have h2 : ∀ (l : Tm) (k' : List Nat), tot (mulT S (u :: l)) k' = tot (S.map fun t => (addK t.1 u.1, t.2 * u.2)) k' + tot (mulT S l) k' := fun l k' => mulT_cons_right u l k' S
  have h3 : ∀ (a l : Tm) (k' : List Nat), tot (mulT S l) k' ≤ tot (mulT S (a ++ l)) k' := by
    intro a
    induction a with
    | nil => intro l k'; exact Nat.le_refl _
    | cons x a ih =>
      intro l k'
      have := mulT_cons_right x (a ++ l) k' S
      rw [List.cons_append, this]
      have := ih l k'
      omega
  have h4 := h3 a (u :: b) (addK k u.1)
  have h5 := h2 b (addK k u.1)
  omega

theorem addK_inj {a b c : List Nat} (ha : a.length = 512) (hb : b.length = 512) (hc : c.length = 512) (h : addK a c = addK b c) : a = b := by
  apply List.ext_getElem?
  intro i
  by_cases hi : i < 512
  · have e : (addK a c)[i]? = (addK b c)[i]? := by rw [h]
    rw [List.getElem?_eq_getElem (by omega), List.getElem?_eq_getElem (by omega)]
    have ea := addK_get (a := a) (b := c) (k := i) (List.getElem?_eq_getElem (by omega)) (List.getElem?_eq_getElem (by omega))
    have eb := addK_get (a := b) (b := c) (k := i) (List.getElem?_eq_getElem (by omega)) (List.getElem?_eq_getElem (by omega))
    rw [ea, eb] at e
    simp only [Option.some.injEq] at e
    congr 1
    omega
  · rw [List.getElem?_eq_none (by omega), List.getElem?_eq_none (by omega)]

theorem nodup_map_on {α β : Type} {f : α → β} : ∀ {l : List α}, (∀ x ∈ l, ∀ y ∈ l, f x = f y → x = y) → l.Nodup → (l.map f).Nodup
  | [], _, _ => by simp
  | a :: l, hf, hn => by
    rw [List.nodup_cons] at hn
    rw [List.map_cons, List.nodup_cons]
    refine ⟨fun h => ?_, nodup_map_on (fun x hx y hy => hf x (List.mem_cons_of_mem _ hx) y (List.mem_cons_of_mem _ hy)) hn.2⟩
    obtain ⟨b, hb, e⟩ := List.mem_map.1 h
    have := hf b (List.mem_cons_of_mem _ hb) a (by simp) e
    rw [this] at hb
    exact hn.1 hb

/-- Where a product with what is not nought is in bounds, so is what was multiplied. -/
theorem ok_left {S T : Tm} (hS : GT S) (hT : GT T) (hne : T ≠ []) (h : OkF (tot (mulT S T))) : OkF (tot S) := by
  obtain ⟨u, hu⟩ := List.exists_mem_of_ne_nil T hne
  have hul := (hT u hu).1
  have hle := tot_mul_ge hu hT hS
  refine ⟨fun k => Nat.lt_of_le_of_lt (hle k) (h.1 _), fun k hk x hx => ?_, fun l hl hk => ?_⟩
  · obtain ⟨t, ht, rfl⟩ := tot_pos_mem hk
    have htl := (hS t ht).1
    obtain ⟨i, hi⟩ := List.mem_iff_getElem?.1 hx
    have hi2 := (List.getElem?_eq_some_iff.1 hi).1
    have e := addK_get (a := t.1) (b := u.1) (k := i) hi (List.getElem?_eq_getElem (by omega))
    have := h.2.1 (addK t.1 u.1) (Nat.le_trans hk (hle _)) _ (List.mem_of_getElem? e)
    omega
  · have hlen : ∀ k ∈ l, k.length = 512 := fun k hkl => by
      obtain ⟨t, ht, e⟩ := tot_pos_mem (hk k hkl)
      rw [← e]
      exact (hS t ht).1
    have h2 := h.2.2 (l.map fun k => addK k u.1) (nodup_map_on (fun x hx y hy e => addK_inj (hlen x hx) (hlen y hy) hul e) hl) (fun k' hk' => by
      obtain ⟨k, hkl, rfl⟩ := List.mem_map.1 hk'
      exact Nat.le_trans (hk k hkl) (hle k))
    rw [List.length_map] at h2
    exact h2

theorem ok_right {S T : Tm} (hS : GT S) (hT : GT T) (hne : S ≠ []) (h : OkF (tot (mulT S T))) : OkF (tot T) := by
  rw [mul_comm_tot] at h
  exact ok_left hT hS hne h

/-- The power of one more. -/
def pwT (f : Tm) : Nat → Tm
  | 0 => f
  | n + 1 => mulT (pwT f n) f

theorem pwT_add (f : Tm) (a : Nat) : ∀ b, mulT (pwT f a) (pwT f b) = pwT f (a + b + 1)
  | 0 => rfl
  | b + 1 => by
    show mulT (pwT f a) (mulT (pwT f b) f) = mulT (pwT f (a + b + 1)) f
    rw [← mulT_assoc, pwT_add f a b]

theorem gt_pwT {f : Tm} (h : GT f) : ∀ n, GT (pwT f n)
  | 0 => h
  | n + 1 => gt_mul (gt_pwT h n) h

theorem pwT_ne {f : Tm} (h : f ≠ []) : ∀ n, pwT f n ≠ []
  | 0 => h
  | n + 1 => mul_ne (pwT_ne h n) h

theorem pwT_mono {f : Tm} (hf : GT f) (hne : f ≠ []) {j k : Nat} (h : j ≤ k) (ho : OkF (tot (pwT f k))) : OkF (tot (pwT f j)) := by
  by_cases e : j = k
  · rw [e]; exact ho
  · obtain ⟨d, rfl⟩ : ∃ d, k = j + d + 1 := ⟨k - j - 1, by omega⟩
    rw [← pwT_add] at ho
    exact ok_left (gt_pwT hf j) (gt_pwT hf d) (pwT_ne hne d) ho

/-- The polynomial p has the totals of the terms T. -/
structure Rp (p : List Mn) (T : Tm) : Prop where
  pol : Pol p
  chk : checkE p 9223372036854775807 = 0
  tots : tot (ofP p) = tot T

theorem Rp.ok {p : List Mn} {T : Tm} (h : Rp p T) : OkF (tot T) := by
  obtain ⟨_, _, _, _, ho⟩ := h.pol.st
  rw [← h.tots]
  exact ho

theorem Rp.mul {p q : List Mn} {S T : Tm} (hp : Rp p S) (hq : Rp q T) : (prodE p q = 0 ∧ OkF (tot (mulT S T)) ∧ Rp (prodL p q) (mulT S T)) ∨ (prodE p q = 2 ∧ ¬ OkF (tot (mulT S T))) := by
  have e : tot (mulT (ofP p) (ofP q)) = tot (mulT S T) := (mul_congr_left hp.tots).trans (mul_congr_right hq.tots)
  by_cases ho : OkF (tot (mulT S T))
  · rw [← e] at ho
    obtain ⟨a, b, c, d⟩ := prod_yes hp.pol hq.pol ho
    exact .inl ⟨a, e ▸ ho, b, c, d.trans e⟩
  · rw [← e] at ho
    exact .inr ⟨(prod_no hp.pol hq.pol ho).1, e ▸ ho⟩

theorem Rp.eq {p q : List Mn} {T : Tm} (hp : Rp p T) (hq : Rp q T) : p = q := hp.pol.eq hq.pol (hp.tots.trans hq.tots.symm)

/-- A power by squaring. -/
theorem pow_ring {f : List Mn} {F : Tm} (hf : Rp f F) (hF : GT F) (hne : F ≠ []) {n : Nat} : ∀ (b : Nat) (out : List Mn) (j : Nat), Rp out (pwT F j) → j + 1 = n / 2 ^ b →
    (OkF (tot (pwT F (n - 1))) → (powGo prodL prodE [] f n b out).2 = 0 ∧ Rp (powGo prodL prodE [] f n b out).1 (pwT F (n - 1))) ∧ (¬ OkF (tot (pwT F (n - 1))) → (powGo prodL prodE [] f n b out).2 = 2)
  | 0, out, j, ho, hj => by
    rw [Nat.pow_zero, Nat.div_one] at hj
    have e : n - 1 = j := by omega
    rw [e]
    exact ⟨fun _ => ⟨rfl, ho⟩, fun h => absurd ho.ok h⟩
  | b + 1, out, j, ho, hj => by
    have hb2 : n / 2 ^ (b + 1) = n / 2 ^ b / 2 := by rw [Nat.pow_succ, Nat.div_div_eq_div_mul]
    have hn : n / 2 ^ b ≤ n := Nat.div_le_self _ _
    unfold powGo
    have hsq : mulT (pwT F j) (pwT F j) = pwT F (2 * j + 1) := by rw [pwT_add]; congr 1; omega
    rcases ho.mul ho with ⟨e1, o1, r1⟩ | ⟨e1, o1⟩
    · rw [if_pos e1]
      rw [hsq] at r1
      by_cases hbit : n / 2 ^ b % 2 = 1
      · rw [if_pos hbit]
        have hst : mulT (pwT F (2 * j + 1)) F = pwT F (2 * j + 2) := rfl
        rcases r1.mul hf with ⟨e2, o2, r2⟩ | ⟨e2, o2⟩
        · rw [if_pos e2]
          rw [hst] at r2
          exact pow_ring hf hF hne b _ (2 * j + 2) r2 (by omega)
        · rw [if_neg (by rw [e2]; decide)]
          rw [hst] at o2
          exact ⟨fun h => absurd (pwT_mono hF hne (by omega) h) o2, fun _ => e2⟩
      · rw [if_neg hbit]
        exact pow_ring hf hF hne b _ (2 * j + 1) r1 (by omega)
    · rw [if_neg (by rw [e1]; decide)]
      rw [hsq] at o1
      exact ⟨fun h => absurd (pwT_mono hF hne (by omega) h) o1, fun _ => e1⟩

/-- Times a row of powers. -/
def wT : List Int → List (List Mn) → Tm → Tm
  | n :: es, f :: fs, C => if n = 0 then wT es fs C else wT es fs (mulT C (pwT (ofP f) (n.toNat - 1)))
  | [], _, C => C
  | _ :: _, [], C => C

theorem ofP_ne {p : List Mn} (h : ¬ p.length = 0) : ofP p ≠ [] := by
  cases p with
  | nil => exact absurd rfl h
  | cons m p => simp [ofP]

theorem wT_good : ∀ {es : List Int} {fs : List (List Mn)} {C : Tm}, (∀ f ∈ fs, Pol f) → (∀ x ∈ es, 0 ≤ x) → noughtB es fs = false → GT C → C ≠ [] → OkF (tot (wT es fs C)) → OkF (tot C)
  | [], _, C, _, _, _, _, _, h => h
  | _ :: _, [], C, _, _, _, _, _, h => h
  | n :: es, f :: fs, C, hf, hx, hn, hC, hne, h => by
    have hn2 : (decide (0 < n) && f.length == 0) = false ∧ noughtB es fs = false := by
      simp only [noughtB, List.zip_cons_cons, List.any_cons, Bool.or_eq_false_iff] at hn
      exact hn
    unfold wT at h
    by_cases h0 : n = 0
    · rw [if_pos h0] at h
      exact wT_good (fun x hx => hf x (List.mem_cons_of_mem _ hx)) (fun x hx' => hx x (List.mem_cons_of_mem _ hx')) hn2.2 hC hne h
    · rw [if_neg h0] at h
      have hpos : 0 < n := by have := hx n (by simp); omega
      have hfl : ¬ f.length = 0 := fun e => by
        have := hn2.1
        rw [decide_eq_true hpos, e] at this
        exact absurd this (by decide)
      have hg := gt_pwT (gt_ofP (hf f (by simp))) (n.toNat - 1)
      have hp := pwT_ne (ofP_ne hfl) (n.toNat - 1)
      exact ok_left hC hg hp (wT_good (fun x hx => hf x (List.mem_cons_of_mem _ hx)) (fun x hx' => hx x (List.mem_cons_of_mem _ hx')) hn2.2 (gt_mul hC hg) (mul_ne hne hp) h)

/-- Worth, by powers. -/
theorem worth_ring : ∀ {es : List Int} {fs : List (List Mn)} {c : List Mn} {C : Tm}, (∀ f ∈ fs, Ch f) → (∀ x ∈ es, 0 ≤ x ∧ x ≤ 64) → noughtB es fs = false → Rp c C → GT C → C ≠ [] →
    (OkF (tot (wT es fs C)) → (worthGo prodL prodE es fs c).2 = 0 ∧ Rp (worthGo prodL prodE es fs c).1 (wT es fs C)) ∧ (¬ OkF (tot (wT es fs C)) → (worthGo prodL prodE es fs c).2 = 2)
  | [], _, c, C, _, _, _, hc, _, _ => by
    unfold worthGo wT
    exact ⟨fun _ => ⟨rfl, hc⟩, fun h => absurd hc.ok h⟩
  | _ :: _, [], c, C, _, _, _, hc, _, _ => by
    unfold worthGo wT
    exact ⟨fun _ => ⟨rfl, hc⟩, fun h => absurd hc.ok h⟩
  | n :: es, f :: fs, c, C, hf, hx, hn, hc, hC, hne => by
    have hn2 : (decide (0 < n) && f.length == 0) = false ∧ noughtB es fs = false := by
      simp only [noughtB, List.zip_cons_cons, List.any_cons, Bool.or_eq_false_iff] at hn
      exact hn
    have hf2 : ∀ g ∈ fs, Ch g := fun x hx => hf x (List.mem_cons_of_mem _ hx)
    have hf3 : ∀ g ∈ fs, Pol g := fun x hx => (hf2 x hx).1
    have hx2 : ∀ x ∈ es, 0 ≤ x ∧ x ≤ 64 := fun x hx' => hx x (List.mem_cons_of_mem _ hx')
    have hx3 : ∀ x ∈ es, 0 ≤ x := fun x hx' => (hx2 x hx').1
    unfold worthGo wT
    by_cases h0 : n = 0
    · rw [if_pos h0, if_pos h0]
      exact worth_ring hf2 hx2 hn2.2 hc hC hne
    · rw [if_neg h0, if_neg h0]
      have hb := hx n (by simp)
      have hfl : ¬ f.length = 0 := fun e => by
        have := hn2.1
        rw [decide_eq_true (show 0 < n by omega), e] at this
        exact absurd this (by decide)
      have hfc := hf f (by simp)
      have hrf : Rp f (ofP f) := ⟨hfc.1, hfc.2, rfl⟩
      have hgf := gt_ofP hfc.1
      have hnf := ofP_ne hfl
      have hg := gt_pwT hgf (n.toNat - 1)
      have hp := pwT_ne hnf (n.toNat - 1)
      obtain ⟨p1, p2⟩ := pow_ring hrf hgf hnf (n := n.toNat) (Lib.bitLen n.toNat - 1) f 0 hrf (by rw [bit_top (by omega) (by omega)])
      by_cases ho : OkF (tot (pwT (ofP f) (n.toNat - 1)))
      · obtain ⟨q1, q2⟩ := p1 ho
        rw [if_pos q1]
        rcases hc.mul q2 with ⟨e2, o2, r2⟩ | ⟨e2, o2⟩
        · rw [if_pos e2]
          exact worth_ring hf2 hx2 hn2.2 r2 (gt_mul hC hg) (mul_ne hne hp)
        · rw [if_neg (by rw [e2]; decide)]
          exact ⟨fun h => absurd (wT_good hf3 hx3 hn2.2 (gt_mul hC hg) (mul_ne hne hp) h) o2, fun _ => e2⟩
      · have q1 := p2 ho
        rw [if_neg (by rw [q1]; decide)]
        refine ⟨fun h => absurd (ok_right hC hg hne (wT_good hf3 hx3 hn2.2 (gt_mul hC hg) (mul_ne hne hp) h)) ho, fun _ => q1⟩

/-- The document's factors, one at a time. -/
def mulN (f : List Mn) : Nat → List Mn → List Mn × Int
  | 0, x => (x, 0)
  | n + 1, x => if mulPE x f = 0 then mulN f n (mulPL x f) else ([], mulPE x f)

def facR : List Int → List (List Mn) → List Mn → List Mn × Int
  | n :: es, f :: fs, x => if (mulN f n.toNat x).2 = 0 then facR es fs (mulN f n.toNat x).1 else ([], (mulN f n.toNat x).2)
  | [], _, x => (x, 0)
  | _ :: _, [], x => (x, 0)

theorem mulN_ring {f : List Mn} (hf : Ch f) (hne : ¬ f.length = 0) : ∀ (n : Nat) {x : List Mn} {X : Tm}, Rp x X → GT X → X ≠ [] →
    (OkF (tot (mulT X (pwT (ofP f) n))) → (mulN f (n + 1) x).2 = 0 ∧ Rp (mulN f (n + 1) x).1 (mulT X (pwT (ofP f) n))) ∧ (¬ OkF (tot (mulT X (pwT (ofP f) n))) → (mulN f (n + 1) x).2 = 2)
  | n, x, X, hx, hX, hXn => by
    have hrf : Rp f (ofP f) := ⟨hf.1, hf.2, rfl⟩
    have hgf := gt_ofP hf.1
    have hnf := ofP_ne hne
    obtain ⟨_, _, f1, f2⟩ := addP_of hx.chk hf.2
    unfold mulN
    rw [f1, f2]
    cases n with
    | zero =>
      rcases hx.mul hrf with ⟨e, o, r⟩ | ⟨e, o⟩
      · rw [if_pos e]
        exact ⟨fun _ => ⟨rfl, r⟩, fun h => absurd o h⟩
      · rw [if_neg (by rw [e]; decide)]
        exact ⟨fun h => absurd h o, fun _ => e⟩
    | succ n =>
      have hst : mulT (mulT X (ofP f)) (pwT (ofP f) n) = mulT X (pwT (ofP f) (n + 1)) := by
        rw [mulT_assoc]
        congr 1
        have := pwT_add (ofP f) 0 n
        rw [show 0 + n + 1 = n + 1 by omega] at this
        exact this
      rcases hx.mul hrf with ⟨e, o, r⟩ | ⟨e, o⟩
      · rw [if_pos e]
        have := mulN_ring hf hne n r (gt_mul hX hgf) (mul_ne hXn hnf)
        rw [hst] at this
        exact this
      · rw [if_neg (by rw [e]; decide)]
        refine ⟨fun h => absurd ?_ o, fun _ => e⟩
        rw [← hst] at h
        exact ok_left (gt_mul hX hgf) (gt_pwT hgf n) (pwT_ne hnf n) h

theorem fac_ring : ∀ {es : List Int} {fs : List (List Mn)} {c : List Mn} {C : Tm}, (∀ f ∈ fs, Ch f) → (∀ x ∈ es, 0 ≤ x ∧ x ≤ 64) → noughtB es fs = false → Rp c C → GT C → C ≠ [] →
    (OkF (tot (wT es fs C)) → (facR es fs c).2 = 0 ∧ Rp (facR es fs c).1 (wT es fs C)) ∧ (¬ OkF (tot (wT es fs C)) → (facR es fs c).2 = 2)
  | [], _, c, C, _, _, _, hc, _, _ => by
    unfold facR wT
    exact ⟨fun _ => ⟨rfl, hc⟩, fun h => absurd hc.ok h⟩
  | _ :: _, [], c, C, _, _, _, hc, _, _ => by
    unfold facR wT
    exact ⟨fun _ => ⟨rfl, hc⟩, fun h => absurd hc.ok h⟩
  | n :: es, f :: fs, c, C, hf, hx, hn, hc, hC, hne => by
    have hn2 : (decide (0 < n) && f.length == 0) = false ∧ noughtB es fs = false := by
      simp only [noughtB, List.zip_cons_cons, List.any_cons, Bool.or_eq_false_iff] at hn
      exact hn
    have hf2 : ∀ g ∈ fs, Ch g := fun x hx => hf x (List.mem_cons_of_mem _ hx)
    have hf3 : ∀ g ∈ fs, Pol g := fun x hx => (hf2 x hx).1
    have hx2 : ∀ x ∈ es, 0 ≤ x ∧ x ≤ 64 := fun x hx' => hx x (List.mem_cons_of_mem _ hx')
    have hx3 : ∀ x ∈ es, 0 ≤ x := fun x hx' => (hx2 x hx').1
    unfold facR wT
    by_cases h0 : n = 0
    · subst h0
      rw [if_pos rfl]
      have e0 : mulN f (0 : Int).toNat c = (c, 0) := rfl
      rw [e0, if_pos rfl]
      exact fac_ring hf2 hx2 hn2.2 hc hC hne
    · rw [if_neg h0]
      have hb := hx n (by simp)
      have hfl : ¬ f.length = 0 := fun e => by
        have := hn2.1
        rw [decide_eq_true (show 0 < n by omega), e] at this
        exact absurd this (by decide)
      have hfc := hf f (by simp)
      have hg := gt_pwT (gt_ofP hfc.1) (n.toNat - 1)
      have hp := pwT_ne (ofP_ne hfl) (n.toNat - 1)
      have hm := mulN_ring hfc hfl (n.toNat - 1) hc hC hne
      rw [show n.toNat - 1 + 1 = n.toNat by omega] at hm
      by_cases ho : OkF (tot (mulT C (pwT (ofP f) (n.toNat - 1))))
      · obtain ⟨q1, q2⟩ := hm.1 ho
        rw [if_pos q1]
        exact fac_ring hf2 hx2 hn2.2 q2 (gt_mul hC hg) (mul_ne hne hp)
      · have q1 := hm.2 ho
        rw [if_neg (by rw [q1]; decide)]
        exact ⟨fun h => absurd (wT_good hf3 hx3 hn2.2 (gt_mul hC hg) (mul_ne hne hp) h) ho, fun _ => q1⟩

/-- The document's factors and the program's powers make the same. -/
theorem fac_worth {es : List Int} {fs : List (List Mn)} {c : List Mn} (hf : ∀ f ∈ fs, Ch f) (hx : ∀ x ∈ es, 0 ≤ x ∧ x ≤ 64) (hn : noughtB es fs = false) (hc : Ch c) (hne : ¬ c.length = 0) :
    (facR es fs c).2 = (worthGo prodL prodE es fs c).2 ∧ ((facR es fs c).2 = 0 → (facR es fs c).1 = (worthGo prodL prodE es fs c).1 ∧ Ch (facR es fs c).1) ∧ ((facR es fs c).2 = 0 ∨ (facR es fs c).2 = 2) := by
  have hr : Rp c (ofP c) := ⟨hc.1, hc.2, rfl⟩
  obtain ⟨a1, a2⟩ := worth_ring hf hx hn hr (gt_ofP hc.1) (ofP_ne hne)
  obtain ⟨b1, b2⟩ := fac_ring hf hx hn hr (gt_ofP hc.1) (ofP_ne hne)
  by_cases ho : OkF (tot (wT es fs (ofP c)))
  · obtain ⟨x1, x2⟩ := a1 ho
    obtain ⟨y1, y2⟩ := b1 ho
    exact ⟨y1.trans x1.symm, fun _ => ⟨y2.eq x2, y2.pol, y2.chk⟩, .inl y1⟩
  · have x1 := a2 ho
    have y1 := b2 ho
    exact ⟨y1.trans x1.symm, fun h => absurd (y1.symm.trans h) (by decide), .inr y1⟩

theorem ch_const {m : Mn} (hm : monB m = true) (hl : Lim m.1) : Ch [(m.1, [])] := by
  have h1 := monB_parts hm
  have hb : monB (m.1, []) = true := by
    unfold monB
    rw [h1.2.1]
    simpa using h1.1
  have hc : checkE [(m.1, [])] 9223372036854775807 = 0 := by
    rw [check_iff (by omega)]
    refine ⟨?_, by simp [boundsB, smallB]⟩
    rw [polyB_iff]
    intro k hk
    have : k = 0 := by simpa using hk
    subst this
    unfold okAt
    simp [hb]
  exact ⟨Pol.of (fun n hn => by simp at hn; subst hn; exact hl) (by decide) hc, hc⟩

theorem Pol.tail {m : Mn} {p : List Mn} (h : Pol (m :: p)) : Pol p :=
  ⟨fun x hx => h.lim x (List.mem_cons_of_mem _ hx), fun x hx => h.mon x (List.mem_cons_of_mem _ hx), SortedX.tail h.sort, fun x hx => h.small x (List.mem_cons_of_mem _ hx), by have := h.len; simp at this; omega⟩

end Go.Proofs.YtdjmjhlbjcgoiaaGreatDoor

/- The document's examples at the head of layer 2's statements: they come out true. -/
namespace Go.Proofs.YtdjmjhlbjcgoiaaGreatDoor
open Go.RowKit Go.Maps

theorem sl_oneN {w : World} {g x : Nat} (hx : x < 4294967296) (h : w.cell? ⟨g, 0, none⟩ = some (.int .u32 (x : Int))) : Sl w (.slice (some ⟨g, 0, none⟩) 1 1) [x] := by
  refine ⟨by intro y hy; simp at hy; omega, _, 1, rfl, by simp, by simp [maxLen], fun _ => ⟨g, 0, rfl, World.block_lt_of_cell? w _ h, ?_⟩⟩
  intro k y hk
  have hlt := (List.getElem?_eq_some_iff.1 hk).1
  match k, hlt with
  | 0, _ =>
    simp only [List.getElem?_cons_zero, Option.some.injEq] at hk
    subst hk
    exact h

theorem is_oneI {w : World} {g : Nat} {a : Int} (ha : -9223372036854775808 ≤ a ∧ a ≤ 9223372036854775807) (h : w.cell? ⟨g, 0, none⟩ = some (.int .i64 a)) : Is w (.slice (some ⟨g, 0, none⟩) 1 1) [a] := by
  refine ⟨_, 1, rfl, by simp, by simp [maxLen], fun _ => ⟨g, 0, rfl, World.block_lt_of_cell? w _ h, ?_⟩⟩
  intro k x hk
  have hlt := (List.getElem?_eq_some_iff.1 hk).1
  match k, hlt with
  | 0, _ =>
    simp only [List.getElem?_cons_zero, Option.some.injEq] at hk
    subst hk
    exact ⟨ha.1, ha.2, h⟩

/-- Monomials one behind the other. -/
def EMs (w : World) (g : Nat) : Nat → List Mn → Prop
  | _, [] => True
  | o, m :: r => EM w g o m ∧ EMs w g (o + 2) r

theorem EMs.get {w : World} {g : Nat} : ∀ {p : List Mn} {o k : Nat} {m : Mn}, EMs w g o p → p[k]? = some m → EM w g (o + k * 2) m
  | [], _, _, _, _, h => by simp at h
  | x :: r, o, 0, m, h, hk => by
    simp at hk
    subst hk
    exact h.1
  | x :: r, o, k + 1, m, h, hk => by
    have := EMs.get h.2 (k := k) (by simpa using hk)
    rw [show o + (k + 1) * 2 = o + 2 + k * 2 by omega]
    exact this

theorem ms_lit {w : World} {g n : Nat} {p : List Mn} (hg : g < w.heap.size) (hn : n = p.length ∧ p.length ≤ 9) (h : EMs w g 0 p) : Ms w (.slice (some ⟨g, 0, none⟩) n n) p := by
  obtain ⟨rfl, hl⟩ := hn
  refine ⟨_, p.length, rfl, Nat.le_refl _, by unfold maxLen; omega, fun _ => ⟨g, 0, rfl, hg, fun k m hk => ?_⟩⟩
  have := h.get hk
  rwa [Nat.zero_add] at this ⊢

end Go.Proofs.YtdjmjhlbjcgoiaaGreatDoor

/- What the document's Compose answers. -/
namespace Go.Proofs.YtdjmjhlbjcgoiaaGreatDoor
open Go.RowKit Go.Maps

theorem checkAll_zero : ∀ {args : List (List Mn)}, (∀ x ∈ args, checkE x 9223372036854775807 = 0) → checkAllE args = 0
  | [], _ => rfl
  | a :: args, h => by
    simp only [checkAllE]
    rw [if_pos (h a (by simp))]
    exact checkAll_zero fun x hx => h x (List.mem_cons_of_mem _ hx)

end Go.Proofs.YtdjmjhlbjcgoiaaGreatDoor

/- The polynomial of a term, plainly: from the back, with a stack. -/
namespace Go.Proofs.YtdjmjhlbjcgoiaaGreatDoor

/-- The polynomial that is a variable alone. -/
def vpol (k : Nat) : List Mn := [([1], List.replicate k 0 ++ [1])]

/-- A symbol's polynomial. -/
def spol : List Ip → Int → List Mn
  | [], _ => []
  | x :: r, d => if x.1 = d then x.2 else spol r d

/-- A code more, from the back to the front: what begins first stands first. -/
def ofS (sig : List Sy) (sp vp : Int → List Mn) : List Int → Option (List (List Mn))
  | [] => some []
  | c :: u =>
    match ofS sig sp vp u with
    | none => none
    | some st => if c < 0 then some (vp c :: st) else if compE (sp c) (st.take (arN sig c)) = 0 then some (compL (sp c) (st.take (arN sig c)) :: st.drop (arN sig c)) else none

theorem ofS_var {sig : List Sy} {sp vp : Int → List Mn} {c : Int} {u : List Int} {st : List (List Mn)} (h : ofS sig sp vp u = some st) (hc : c < 0) : ofS sig sp vp (c :: u) = some (vp c :: st) := by
  rw [ofS, h]
  simp only [if_pos hc]

theorem ofS_yes {sig : List Sy} {sp vp : Int → List Mn} {c : Int} {u : List Int} {st : List (List Mn)} (h : ofS sig sp vp u = some st) (hc : ¬ c < 0) (h0 : compE (sp c) (st.take (arN sig c)) = 0) :
    ofS sig sp vp (c :: u) = some (compL (sp c) (st.take (arN sig c)) :: st.drop (arN sig c)) := by
  rw [ofS, h]
  simp only [if_neg hc, if_pos h0]

theorem ofS_no {sig : List Sy} {sp vp : Int → List Mn} {c : Int} {u : List Int} {st : List (List Mn)} (h : ofS sig sp vp u = some st) (hc : ¬ c < 0) (h0 : ¬ compE (sp c) (st.take (arN sig c)) = 0) : ofS sig sp vp (c :: u) = none := by
  rw [ofS, h]
  simp only [if_neg hc, if_neg h0]

theorem ofS_none {sig : List Sy} {sp vp : Int → List Mn} {u : List Int} (h : ofS sig sp vp u = none) (c : Int) : ofS sig sp vp (c :: u) = none := by
  rw [ofS, h]

theorem ofS_noneL {sig : List Sy} {sp vp : Int → List Mn} {u : List Int} (h : ofS sig sp vp u = none) : ∀ p : List Int, ofS sig sp vp (p ++ u) = none
  | [] => h
  | c :: p => ofS_none (ofS_noneL h p) c

theorem ofS_len {sig : List Sy} {sp vp : Int → List Mn} : ∀ {u : List Int} {st : List (List Mn)}, ofS sig sp vp u = some st → st.length = (growR sig u).length
  | [], st, h => by cases h; rfl
  | c :: u, st, h => by
    cases hu : ofS sig sp vp u with
    | none => rw [ofS_none hu] at h; cases h
    | some s =>
      have ih := ofS_len hu
      by_cases hc : c < 0
      · rw [ofS_var hu hc] at h
        cases h
        show _ = (growStep sig (growR sig u) c).length
        unfold growStep
        rw [if_pos hc, List.length_append, List.length_cons, ih]
        rfl
      · by_cases h0 : compE (sp c) (s.take (arN sig c)) = 0
        · rw [ofS_yes hu hc h0] at h
          cases h
          show _ = (growStep sig (growR sig u) c).length
          unfold growStep
          rw [if_neg hc, List.length_append, List.length_cons, List.length_drop, List.length_take, ih]
          simp only [List.length_cons, List.length_nil]
          omega
        · rw [ofS_no hu hc h0] at h; cases h

/-- A right row is one term: one polynomial or none. -/
theorem ofS_one {sig : List Sy} (ha : ArOk sig) {sp vp : Int → List Mn} {t : List Int} (h : rowE sig t = 0) : ofS sig sp vp t = none ∨ ∃ p, ofS sig sp vp t = some [p] := by
  cases ht : ofS sig sp vp t with
  | none => exact .inl rfl
  | some st =>
    obtain ⟨T, hT, _⟩ := grow_one ha h
    have hl := ofS_len ht
    rw [hT] at hl
    match st, hl with
    | [p], _ => exact .inr ⟨p, rfl⟩

/-- Compose, monomial by monomial: in bounds or too big. -/
theorem compGo_two {args : List (List Mn)} (ha : ∀ f ∈ args, Ch f) : ∀ {p : List Mn} {L : LkY} {F : List Nat → Nat}, Pol p → StY L F → OkF F → KeysLe L →
    ((compGo args L p).2 = 0 ∧ ∃ G, StY (compGo args L p).1 G ∧ OkF G ∧ KeysLe (compGo args L p).1) ∨ (compGo args L p).2 = 2
  | [], L, F, _, hs, ho, hk => by
    unfold compGo
    exact .inl ⟨rfl, F, hs, ho, hk⟩
  | m :: p, L, F, hp, hs, ho, hk => by
    have hpt : Pol p := hp.tail
    have hmb := hp.mon m (by simp)
    have hmg := hp.good (m := m) (by simp)
    have hxs : ∀ x ∈ m.2, 0 ≤ x ∧ x ≤ 64 := hmg.2.2.2
    unfold compGo
    cases hn : noughtB m.2 args
    · have ev : worthV prodL prodE m.2 args [(m.1, [])] = worthGo prodL prodE m.2 args [(m.1, [])] := by unfold worthV; rw [hn]; rfl
      rw [ev]
      obtain ⟨e1, e2, e3⟩ := fac_worth ha hxs hn (ch_const hmb (hp.lim m (by simp))) (by simp)
      rw [← e1]
      by_cases h0 : (facR m.2 args [(m.1, [])]).2 = 0
      · obtain ⟨x1, x2⟩ := e2 h0
        rw [if_pos h0, ← x1]
        obtain ⟨X, hX⟩ : ∃ X, X = (facR m.2 args [(m.1, [])]).1 := ⟨_, rfl⟩
        rw [← hX] at x2 ⊢
        have hk2 := keysLe_puts x2.1.dom hk
        rcases puts_spec (fun m hm => x2.1.good hm) x2.1.dom hs ho with ⟨b1, b2, b3⟩ | ⟨b1, b2⟩
        · rw [if_pos b1]
          exact compGo_two ha hpt b3 b2 hk2
        · rw [if_neg (by rw [b1]; decide)]
          exact .inr b1
      · rw [if_neg h0]
        rcases e3 with h | h
        · exact absurd h h0
        · exact .inr h
    · have ev : worthV prodL prodE m.2 args [(m.1, [])] = ([], 0) := by unfold worthV; rw [hn]; rfl
      rw [ev]
      have ep : puts L [] = (L, 0) := rfl
      simp only [ep, if_true]
      exact compGo_two ha hpt hs ho hk

theorem comp_two {p : List Mn} {args : List (List Mn)} (hp : Ch p) (ha : ∀ f ∈ args, Ch f) (hv : varsN p ≤ args.length) : (compE p args = 0 ∧ Ch (compL p args)) ∨ compE p args = 2 := by
  have h1 : compE p args = (compGo args [] p).2 := by
    unfold compE
    rw [if_pos (checkAll1_iff.2 hp.2), if_pos (checkAll_zero fun x hx => (ha x hx).2), if_pos hv]
  rcases compGo_two ha hp.1 StY.nil okF_zero keysLe_nil with ⟨h2, G, g1, g2, g3⟩ | h2
  · have h0 := h1.trans h2
    have hr := g1.row g2 fun q hq => (g3 q hq).1
    refine .inl ⟨h0, ?_⟩
    unfold compL
    rw [if_pos h0]
    exact ⟨hr.1, hr.2.1⟩
  · exact .inr (h1.trans h2)

/-- What Check tells of interpretations: each symbol's is one, a polynomial of so many variables. -/
theorem inGo_all {sig : List Sy} : ∀ {l : List Ip} {f : Nat → Bool}, inGo sig f l = 0 → (l.map (·.1)).Nodup ∧ (∀ x ∈ l, f x.1.toNat = false) ∧ ∀ i, i < sig.length → f i = true ∨ (i : Int) ∈ l.map (·.1)
  | [], f, h => by
    rw [inGo] at h
    refine ⟨List.nodup_nil, fun x hx => (by cases hx), fun i hi => .inl ?_⟩
    cases hf : f i with
    | true => rfl
    | false => rw [lackB_yes hi hf] at h; cases h
  | (c, p) :: r, f, h => by
    have hok := inGo_ok h
    rw [inGo] at h
    split at h
    · cases h
    · rename_i h1
      split at h
      · cases h
      · split at h
        · cases h
        · obtain ⟨a1, a2, a3⟩ := inGo_all h
          have hc := (hok (c, p) (by simp)).1
          simp only at hc
          have hnot : ∀ x ∈ r, ¬ x.1 = c := fun x hx e => by
            have := a2 x hx
            unfold gvn at this
            rw [e] at this
            simp at this
          refine ⟨?_, ?_, fun i hi => ?_⟩
          · rw [List.map_cons, List.nodup_cons]
            refine ⟨fun hm => ?_, a1⟩
            obtain ⟨x, hx, e⟩ := List.mem_map.1 hm
            exact hnot x hx e
          · intro x hx
            rcases List.mem_cons.1 hx with rfl | hx
            · cases hf : f c.toNat with
              | true => exact absurd (Or.inr (Or.inr hf)) h1
              | false => rfl
            · have := a2 x hx
              unfold gvn at this
              split at this
              · cases this
              · exact this
          · rcases a3 i hi with h3 | h3
            · unfold gvn at h3
              split at h3
              · rename_i e
                refine .inr ?_
                rw [e, List.map_cons, Int.toNat_of_nonneg hc]
                simp
              · exact .inl h3
            · exact .inr (List.mem_cons_of_mem _ h3)

theorem spol_mem : ∀ {l : List Ip} {c : Int}, c ∈ l.map (·.1) → (c, spol l c) ∈ l
  | [], c, h => by cases h
  | x :: r, c, h => by
    rw [spol]
    by_cases e : x.1 = c
    · rw [if_pos e, ← e]
      simp
    · rw [if_neg e]
      rcases List.mem_cons.1 h with h | h
      · exact absurd h.symm e
      · exact List.mem_cons_of_mem _ (spol_mem h)

theorem spol_of : ∀ {l : List Ip} {c : Int} {p : List Mn}, (l.map (·.1)).Nodup → (c, p) ∈ l → spol l c = p
  | [], c, p, _, h => by cases h
  | x :: r, c, p, hn, h => by
    rw [List.map_cons, List.nodup_cons] at hn
    rw [spol]
    rcases List.mem_cons.1 h with h | h
    · rw [← h, if_pos rfl]
    · rw [if_neg (fun e => hn.1 (by rw [e]; exact List.mem_map.2 ⟨_, h, rfl⟩))]
      exact spol_of hn.2 h

theorem spol_rev {l : List Ip} (hn : (l.map (·.1)).Nodup) (c : Int) : spol l.reverse c = spol l c := by
  by_cases h : c ∈ l.map (·.1)
  · have h1 := spol_mem h
    have h2 : (l.reverse.map (·.1)).Nodup := by
      rw [List.map_reverse]
      exact (List.reverse_perm (l.map (·.1))).symm.nodup hn
    exact spol_of h2 (List.mem_reverse.2 h1)
  · have hno : ∀ m : List Ip, (∀ x ∈ m, ¬ x.1 = c) → spol m c = [] := by
      intro m
      induction m with
      | nil => intro _; rfl
      | cons x r ih =>
        intro hx
        rw [spol, if_neg (hx x (by simp))]
        exact ih fun y hy => hx y (List.mem_cons_of_mem _ hy)
    rw [hno l fun x hx e => h (List.mem_map.2 ⟨x, hx, e⟩), hno l.reverse fun x hx e => h (List.mem_map.2 ⟨x, List.mem_reverse.1 hx, e⟩)]

end Go.Proofs.YtdjmjhlbjcgoiaaGreatDoor

/- When two rules number their variables alike, plainly. -/
namespace Go.Proofs.YtdjmjhlbjcgoiaaGreatDoor
open Go.RowKit Go.Maps

theorem metA_neg : ∀ (a m : List Int), (∀ c ∈ m, c < 0) → ∀ c ∈ metA m a, c < 0
  | [], m, h, c, hc => h c hc
  | d :: a, m, h, c, hc => by
    unfold metA at hc
    split at hc
    · exact metA_neg a m h c hc
    · rename_i hn
      refine metA_neg a (m ++ [d]) (fun e he => ?_) c hc
      rcases List.mem_append.1 he with he | he
      · exact h e he
      · simp at he
        subst he
        omega

theorem metA_mem : ∀ (a m : List Int) (c : Int), c ∈ metA m a ↔ c ∈ m ∨ (c ∈ a ∧ c < 0)
  | [], m, c => by simp [metA]
  | d :: a, m, c => by
    unfold metA
    split
    · rename_i hd
      rw [metA_mem a m c]
      constructor
      · rintro (h | ⟨h, h0⟩)
        · exact .inl h
        · exact .inr ⟨by simp [h], h0⟩
      · rintro (h | ⟨h, h0⟩)
        · exact .inl h
        · rcases List.mem_cons.1 h with rfl | h
          · rcases hd with hd | hd
            · omega
            · exact .inl hd
          · exact .inr ⟨h, h0⟩
    · rename_i hd
      rw [metA_mem a (m ++ [d]) c]
      constructor
      · rintro (h | ⟨h, h0⟩)
        · rcases List.mem_append.1 h with h | h
          · exact .inl h
          · simp at h
            subst h
            exact .inr ⟨by simp, by omega⟩
        · exact .inr ⟨by simp [h], h0⟩
      · rintro (h | ⟨h, h0⟩)
        · exact .inl (by simp [h])
        · rcases List.mem_cons.1 h with rfl | h
          · exact .inl (by simp)
          · exact .inr ⟨h, h0⟩

theorem met_once : ∀ (t m : List Int), m.Nodup → (metA m t).Nodup
  | [], m, h => h
  | c :: t, m, h => by
    unfold metA
    split
    · exact met_once t m h
    · rename_i hn
      refine met_once t (m ++ [c]) ?_
      rw [List.nodup_append]
      refine ⟨h, by simp, ?_⟩
      intro a ha b hb e
      simp at hb
      subst hb
      subst e
      exact hn (.inr ha)

theorem idx_of {V : List Int} (h : V.Nodup) {k : Nat} {v : Int} (hk : V[k]? = some v) : V.idxOf v = k := by
  obtain ⟨h1, rfl⟩ := List.getElem?_eq_some_iff.1 hk
  exact h.idxOf_getElem k h1

theorem idx_get {V : List Int} {v : Int} (h : v ∈ V) : V[V.idxOf v]? = some v := by
  rw [List.getElem?_eq_getElem (List.idxOf_lt_length_of_mem h), List.getElem_idxOf]

end Go.Proofs.YtdjmjhlbjcgoiaaGreatDoor

/- The polynomial of a term, plainly: what is handed to Compose is right; what Of and Falls answer. -/
namespace Go.Proofs.YtdjmjhlbjcgoiaaGreatDoor

theorem arI_arN {sig : List Sy} (ha : ArOk sig) (c : Int) : arI sig c = (arN sig c : Int) := by
  unfold arI arN
  cases h : sig[c.toNat]? with
  | none => rfl
  | some s =>
    have := ha s (List.mem_of_getElem? h)
    simp only
    omega

/-- Each symbol's polynomial, where Check tells nothing. -/
theorem in_spol {sig : List Sy} {l : List Ip} (h : inE sig l = 0) (hL : ∀ x ∈ l, ∀ m ∈ x.2, Lim m.1) {c : Int} (h0 : 0 ≤ c) (h1 : c.toNat < sig.length) : (c, spol l c) ∈ l ∧ Ch (spol l c) ∧ varsN (spol l c) ≤ arN sig c := by
  obtain ⟨hs, hx⟩ := inE_ok h
  have ha := sigE_ok hs
  have hg : inGo sig (fun _ => false) l = 0 := by
    unfold inE at h
    rw [if_pos hs] at h
    exact h
  obtain ⟨_, _, h3⟩ := inGo_all hg
  have hm : c ∈ l.map (·.1) := by
    rcases h3 c.toNat h1 with h | h
    · cases h
    · rw [Int.toNat_of_nonneg h0] at h
      exact h
  have hmem := spol_mem hm
  obtain ⟨_, _, n20, n2⟩ := hx _ hmem
  simp only at n20 n2
  have hz : checkE (spol l c) (arI sig c) = 0 := by
    rcases checkE_three (spol l c) (arI sig c) (arI_ok ha c) with h | h | h
    · exact h
    · exact absurd h n2
    · exact absurd h n20
  have hbig := check_vars (b := 9223372036854775807) (arI_ok ha c) (by omega) hz
  refine ⟨hmem, ⟨Pol.of (hL _ hmem) (by omega) hbig, hbig⟩, ?_⟩
  rw [arI_arN ha] at hz
  exact (check_len hbig).1 hz

theorem in_nodup {sig : List Sy} {l : List Ip} (h : inE sig l = 0) : (l.map (·.1)).Nodup := by
  obtain ⟨hs, _⟩ := inE_ok h
  unfold inE at h
  rw [if_pos hs] at h
  exact (inGo_all h).1

theorem vpol_mon (k : Nat) : monB ([1], List.replicate k (0 : Int) ++ [1]) = true := by
  unfold monB
  have h1 : (List.replicate k (0 : Int) ++ [1]).all (fun n => decide (0 ≤ n)) = true := by
    rw [List.all_eq_true]
    intro x hx
    rcases List.mem_append.1 hx with h | h
    · rw [List.eq_of_mem_replicate h]; rfl
    · rw [List.mem_singleton.1 h]; rfl
  have h2 : (List.replicate k (0 : Int) ++ [1])[(List.replicate k (0 : Int) ++ [1]).length - 1]? = some 1 := by
    rw [List.length_append, List.length_replicate]
    simp
  rw [h1]
  simp only [h2]
  have h3 : rightB [1] = true := by decide
  rw [h3]
  simp

theorem vpol_check {k n : Nat} (hk : k < n) : checkE (vpol k) (n : Int) = if k < 512 then 0 else 2 := by
  have hp : polyB (vpol k) (n : Int) = true := by
    rw [polyB_iff]
    intro j hj
    have : j = 0 := by simpa [vpol] using hj
    subst this
    unfold okAt
    simp only [vpol, List.getElem?_cons_zero, vpol_mon, Bool.true_and, beq_self_eq_true, Bool.true_or, Bool.and_true, decide_eq_true_eq, List.length_append, List.length_replicate, List.length_cons, List.length_nil]
    omega
  unfold checkE
  rw [if_neg (by omega), if_neg (by rw [hp]; decide)]
  by_cases h : k < 512
  · have hb : boundsB (vpol k) = true := by
      unfold boundsB smallB vpol
      simp only [List.length_cons, List.length_nil, List.all_cons, List.all_nil, Bool.and_true, List.length_append, List.length_replicate, Bool.and_eq_true, decide_eq_true_eq, List.all_eq_true]
      refine ⟨by omega, by omega, fun x hx => ?_⟩
      rcases List.mem_append.1 hx with h | h
      · rw [List.eq_of_mem_replicate h]; omega
      · rw [List.mem_singleton.1 h]; omega
    rw [if_neg (by rw [hb]; decide), if_pos h]
  · have hb : boundsB (vpol k) = false := by
      unfold boundsB smallB vpol
      simp only [List.length_cons, List.length_nil, List.all_cons, List.all_nil, Bool.and_true, List.length_append, List.length_replicate]
      rw [decide_eq_false (p := k + (0 + 1) ≤ 512) (by omega)]
      simp
    rw [if_pos hb, if_neg h]

theorem vpol_ch {k : Nat} (hk : k < 512) : Ch (vpol k) := by
  have h := vpol_check (n := 512) hk
  rw [if_pos hk] at h
  have hb := check_vars (b := 9223372036854775807) (by omega) (by omega) h
  refine ⟨Pol.of (fun m hm => ?_) (by omega) hb, hb⟩
  have : m = ([1], List.replicate k 0 ++ [1]) := by simpa [vpol] using hm
  subst this
  intro x hx
  have : x = 1 := by simpa using hx
  omega

/-- What stands on the stack is right; and a code that is too big is told as such. -/
theorem ofS_ch {sig : List Sy} (ha : ArOk sig) {sp vp : Int → List Mn} (hsp : ∀ c : Int, 0 ≤ c → c.toNat < sig.length → Ch (sp c) ∧ varsN (sp c) ≤ arN sig c) : ∀ (u p : List Int), firstT sig 1 0 (p ++ u) = (((p ++ u).length : Int), 0) → (∀ c ∈ u, c < 0 → Ch (vp c)) →
    ∀ st, ofS sig sp vp u = some st → ∀ q ∈ st, Ch q
  | [], p, _, _, st, h => by
    cases h
    exact fun q hq => by cases hq
  | c :: u, p, hf, hv, st, h => by
    have ih := ofS_ch ha hsp u (p ++ [c]) (by simpa using hf) (fun d hd => hv d (List.mem_cons_of_mem _ hd))
    cases hu : ofS sig sp vp u with
    | none => rw [ofS_none hu] at h; cases h
    | some s =>
      have is := ih s hu
      by_cases hc : c < 0
      · rw [ofS_var hu hc] at h
        cases h
        intro q hq
        rcases List.mem_cons.1 hq with rfl | hq
        · exact hv c (by simp) hc
        · exact is q hq
      · obtain ⟨k1, k2⟩ := grow_code ha p c u 1 0 (by omega) (by rw [hf]; simp) hc
        rw [← ofS_len hu] at k2
        obtain ⟨c1, c2⟩ := hsp c (by omega) k1
        by_cases h0 : compE (sp c) (s.take (arN sig c)) = 0
        · rw [ofS_yes hu hc h0] at h
          cases h
          intro q hq
          rcases List.mem_cons.1 hq with rfl | hq
          · rcases comp_two c1 (fun f hf => is f (List.mem_of_mem_take hf)) (by rw [List.length_take, Nat.min_eq_left k2]; exact c2) with h | h
            · exact h.2
            · rw [h] at h0; cases h0
          · exact is q (List.mem_of_mem_drop hq)
        · rw [ofS_no hu hc h0] at h; cases h

theorem ofS_big {sig : List Sy} (ha : ArOk sig) {sp vp : Int → List Mn} (hsp : ∀ c : Int, 0 ≤ c → c.toNat < sig.length → Ch (sp c) ∧ varsN (sp c) ≤ arN sig c) {c : Int} {u p : List Int} (hf : firstT sig 1 0 (p ++ c :: u) = (((p ++ c :: u).length : Int), 0)) (hv : ∀ c ∈ u, c < 0 → Ch (vp c))
    {st : List (List Mn)} (hu : ofS sig sp vp u = some st) (hc : ¬ c < 0) : c.toNat < sig.length ∧ arN sig c ≤ st.length ∧ (compE (sp c) (st.take (arN sig c)) = 0 ∨ compE (sp c) (st.take (arN sig c)) = 2) := by
  obtain ⟨k1, k2⟩ := grow_code ha p c u 1 0 (by omega) (by rw [hf]; simp) hc
  rw [← ofS_len hu] at k2
  obtain ⟨c1, c2⟩ := hsp c (by omega) k1
  have is := ofS_ch ha hsp u (p ++ [c]) (by simpa using hf) hv st hu
  refine ⟨k1, k2, ?_⟩
  rcases comp_two c1 (fun f hf => is f (List.mem_of_mem_take hf)) (by rw [List.length_take, Nat.min_eq_left k2]; exact c2) with h | h
  · exact .inl h.1
  · exact .inr h

/-- A variable's polynomial by its place in a row of numbers. -/
def vAt (vs : List Int) (c : Int) : List Mn := vpol (vs.idxOf (-1 - c))

/-- The polynomial of a term, with the variables numbered by a row; nothing: one is too big. -/
def ofV (sig : List Sy) (l : List Ip) (vs t : List Int) : Option (List Mn) :=
  if 512 < vs.length then none else match ofS sig (spol l) (vAt vs) t with | some [p] => some p | _ => none

/-- The error and the row that are told. -/
def ovE (o : Option (List Mn)) : Int := match o with | some _ => 0 | none => 2

def ovL (o : Option (List Mn)) : List Mn := o.getD []

theorem ofV_some {sig : List Sy} {l : List Ip} {vs t : List Int} {p : List Mn} (h : vs.length ≤ 512) (ht : ofS sig (spol l) (vAt vs) t = some [p]) : ofV sig l vs t = some p := by
  unfold ofV
  rw [if_neg (by omega), ht]

theorem ofV_none {sig : List Sy} {l : List Ip} {vs t : List Int} (ht : ofS sig (spol l) (vAt vs) t = none) : ofV sig l vs t = none := by
  unfold ofV
  rw [ht]
  split <;> rfl

def ofPE (sig : List Sy) (l : List Ip) (t : List Int) : Int := if inE sig l = 0 then if termE sig t = 0 then ovE (ofV sig l (varsL t) t) else termE sig t else inE sig l

def ofPL (sig : List Sy) (l : List Ip) (t : List Int) : List Mn := if inE sig l = 0 ∧ termE sig t = 0 then ovL (ofV sig l (varsL t) t) else []

/-- Of two answers the first error. -/
def ovE2 (a b : Option (List Mn)) : Int := if ovE a = 0 then ovE b else ovE a

def fallE (sig : List Sy) (l : List Ip) (a b : List Int) : Int := if inE sig l = 0 then if termE sig a = 0 then if termE sig b = 0 then ovE2 (ofV sig l (varsL (a ++ b)) a) (ofV sig l (varsL (a ++ b)) b) else termE sig b else termE sig a else inE sig l

/-- How much greater one is. -/
def fallP (p q : List Mn) : Int := if greaterB p q = true then 2 else if atLeastB p q = true then 1 else 0

def fallN (sig : List Sy) (l : List Ip) (a b : List Int) : Int := if fallE sig l a b = 0 then fallP (ovL (ofV sig l (varsL (a ++ b)) a)) (ovL (ofV sig l (varsL (a ++ b)) b)) else 0

end Go.Proofs.YtdjmjhlbjcgoiaaGreatDoor

/- Binds whose rows are the call's own; a look into a map of rows. -/
namespace Go.Proofs.YtdjmjhlbjcgoiaaGreatDoor
open Go.RowKit Go.Maps

theorem MapV.lookOne {w : World} {b : Nat} {L : List (Int × Value)} (h : MapV w b L) {t e : TypeId} {z : Value} (ht : Tryz.prog.underlying t = some (.map 3 e)) (hz : (zeroValue e).run Tryz.prog w = .ok z w) {k : Int} (h1 : -9223372036854775808 ≤ k) (h2 : k ≤ 9223372036854775807) {u : Value} (hl : L.lookup k = some u) :
    (Instr.lookup t (.map (some b)) (.int .i64 k) false).run Tryz.prog w = .ok u w := by
  obtain ⟨D, hD, _, ha, hh⟩ := h
  obtain ⟨v, ps, hrun, hv⟩ := hD.lookup set_keyed ht hz (zd := .held z) (zp := []) rfl (key_int h1 h2)
  rw [hrun]
  have hv2 : D.atKey (.int .i64 k) (.held z) = .held v := by
    simp only [RV, Option.some.injEq, Prod.mk.injEq] at hv
    exact hv.1.symm
  rw [ha k u hl] at hv2
  rw [DataW.held.inj hv2]

end Go.Proofs.YtdjmjhlbjcgoiaaGreatDoor

/- Blocks of rows of monomials; rows of one's own beside them. -/
namespace Go.Proofs.YtdjmjhlbjcgoiaaGreatDoor
open Go.RowKit Go.Maps Go.BigFrame

/-- A block that holds the headers of rows of monomials. -/
def VB (w : World) (g : Nat) (vals : List Value) : Prop := w.heap[g]? = some (.cells vals.toArray 31 (0, 0))

theorem VB.lt {w : World} {g : Nat} {vals : List Value} (h : VB w g vals) : g < w.heap.size := (Array.getElem?_eq_some_iff.1 h).1

theorem VB.cell {w : World} {g : Nat} {vals : List Value} (h : VB w g vals) {k : Nat} {v : Value} (hk : vals[k]? = some v) : w.cell? ⟨g, k, none⟩ = some v := by
  rw [cell_of_row _ _ _ _ _ _ h]
  simpa using hk

theorem VB.frozen {w : World} {g : Nat} {vals : List Value} (h : VB w g vals) (k : Nat) : w.frozen? ⟨g, k, none⟩ = false := frozen_of_row w _ _ _ _ h

theorem VB.set {w : World} {g : Nat} {vals : List Value} (h : VB w g vals) (k : Nat) (v : Value) : VB (w.setCell ⟨g, k, none⟩ v) g (vals.set k v) := by
  unfold VB
  rw [heap_setCell_same _ _ _ _ _ _ h]
  simp

theorem VB.later {w w' : World} {g : Nat} {vals : List Value} (h : VB w g vals) (hb : Below w.heap.size w w') : VB w' g vals := (hb.block g h.lt).trans h

theorem VB.held {w w' : World} {g : Nat} {vals : List Value} {row : Option Nat} (h : VB w g vals) (hg : w.grownBy w' row) (hr : some g ≠ row) : VB w' g vals := (hg.block g h.lt hr).trans h

theorem grown_setCell (w : World) (g k : Nat) (v : Value) : w.grownBy (w.setCell ⟨g, k, none⟩ v) (some g) :=
  ⟨rfl, rfl, rfl, by simp, fun j _ hj => Below.heap_setCell w ⟨g, k, none⟩ v j (fun e => hj (by rw [e]))⟩

theorem own_notVB {w : World} {base n g : Nat} {e : TypeId} {s : Nat} {v : Value} {xs vals : List Value} (h : w.ownsRow base e s v n xs) (hg : VB w g vals) (hne : e ≠ 31) : v.ownBlock = none ∨ v.ownBlock ≠ some g := by
  rcases h.2 with ⟨rfl, _⟩ | ⟨g', cap, cur, rfl, _, hg', _⟩
  · exact .inl rfl
  · refine .inr ?_
    simp only [Value.ownBlock]
    intro e
    cases e
    unfold VB at hg
    rw [hg] at hg'
    simp only [Option.some.injEq, Obj.cells.injEq] at hg'
    exact hne hg'.2.1.symm

theorem OM.held {w w' : World} {base : Nat} {v : Value} {p : List Mn} {row : Option Nat} (h : OM w base v p) (hg : w.grownBy w' row) (hn : ∀ (e : TypeId) (s n : Nat) (u : Value) (xs : List Value), w.ownsRow base e s u n xs → e ≠ 31 → u.ownBlock = none ∨ u.ownBlock ≠ row) : OM w' base v p := by
  obtain ⟨cs, hl, hc, ho⟩ := h
  refine ⟨cs, hl, fun i c m h1 h2 => ?_, World.ownsRow.kept ho hg (hn _ _ _ _ _ ho (by decide))⟩
  obtain ⟨o1, o2⟩ := hc i c m h1 h2
  exact ⟨o1.held hg (hn _ _ _ _ _ o1.2 (by decide)), o2.kept hg (hn _ _ _ _ _ o2.2 (by decide))⟩

theorem OM.setVB {w : World} {base g k : Nat} {v u : Value} {p : List Mn} {vals : List Value} (h : OM w base v p) (hg : VB w g vals) : OM (w.setCell ⟨g, k, none⟩ u) base v p :=
  h.held (grown_setCell w g k u) fun _ _ _ _ _ ho hne => own_notVB ho hg hne

theorem OM.mapped {w w' : World} {base b : Nat} {v : Value} {p : List Mn} {es : Array MapEntry} {clock : Nat} (h : OM w base v p) (hb : w.heap[b]? = some (.map es clock)) (hg : w.grownBy w' (some b)) : OM w' base v p :=
  h.held hg fun _ _ _ _ _ ho _ => own_notMap ho hb

theorem info_monos : (Tryz.prog.info? 31).map (fun i => (i.zero, i.size, i.bytes)) = some (some (.slice none 0 0), 1, 24) := by kernel_rfl

theorem under_polys : Tryz.prog.underlying 49 = some (.slice 31) := by kernel_rfl

theorem run_make_polys (w : World) (n : Nat) (hn : n * 24 ≤ 140737488355328) : (Instr.makeSlice 49 (.int .i64 (n : Int)) (.int .i64 (n : Int))).run Tryz.prog w = .ok (.slice (some ⟨w.heap.size, 0, none⟩) n n) (w.alloc (.cells (List.replicate n (Value.slice none 0 0)).toArray 31)) := by
  obtain ⟨i0, hi, hz0, hz1, hz2⟩ := info_parts3 info_monos
  have h := run_make (P := Tryz.prog) w 49 31 i0 (.slice none 0 0) under_polys hi hz0 .i64 .i64 (n : Int) (n : Int) (by omega) (Int.le_refl _) (by rw [hz2]; omega) (by omega)
  rw [hz1, Int.toNat_natCast] at h
  have e : madeCells (Value.slice none 0 0).cells (n * 1) = (List.replicate n (Value.slice none 0 0)).toArray := by
    apply Array.ext'
    have : (Value.slice none 0 0).cells = #[Value.slice none 0 0] := rfl
    rw [this, toList_madeCells_one]
    simp
  rw [e] at h
  exact h

/-- Some rows of a block, one behind the other, as a list of polynomials. -/
theorem VB.ps {w : World} {g top n cap : Nat} {vals : List Value} {ps : List (List Mn)} (h : VB w g vals) (hn : n = ps.length) (hc : n ≤ cap) (hm : cap ≤ maxLen) (hx : ∀ (i : Nat) p, ps[i]? = some p → ∃ u, vals[top + i]? = some u ∧ Ms w u p) : Ps w (.slice (some ⟨g, top, none⟩) n cap) ps := by
  subst hn
  refine ⟨_, cap, rfl, hc, hm, fun _ => ⟨g, top, rfl, h.lt, fun k p hk => ?_⟩⟩
  obtain ⟨u, hu, hms⟩ := hx k p hk
  exact ⟨u, by rw [Nat.mul_one]; exact h.cell hu, hms⟩

end Go.Proofs.YtdjmjhlbjcgoiaaGreatDoor
