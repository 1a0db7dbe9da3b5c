/- Texts of the proof, one behind the other. -/
import Derived.Test.YtlaenbdlgpepkaaGreatDoorOwn13
import Derived.Test.YtlaenbdlgpepkaaGreatDoorOwn14
import Derived.Test.YtlaenbdlgpepkaaGreatDoorOwn11
import Derived.Test.YtlaenbdlgpepkaaGreatDoorOwn16
import Derived.Test.YtlaenbdlgpepkaaGreatDoorOwn15
import Derived.Test.YtlaenbdlgpepkaaGreatDoorOwn12
import Derived.Deep.DeepAppendRoom
/- Powers by squaring and products one factor at a time are in bounds alike: plain data. -/
namespace Go.Proofs.YtlaenbdlgpepkaaGreatDoor
open Go.RowKit Go.Maps

/-- Terms with whole keys, none of them nought. -/
def GT (T : Tm) : Prop := ∀ t ∈ T, t.1.length = 512 ∧ 1 ≤ t.2

theorem gt_mul {S T : Tm} (hS : GT S) (hT : GT T) : GT (mulT S T) := by
  intro t ht
  unfold mulT at ht
  obtain ⟨s, hs, ht⟩ := List.mem_flatMap.1 ht
  obtain ⟨u, hu, rfl⟩ := List.mem_map.1 ht
  obtain ⟨a1, a2⟩ := hS s hs
  obtain ⟨b1, b2⟩ := hT u hu
  refine ⟨?_, Nat.mul_pos a2 b2⟩
  unfold addK
  rw [List.length_zipWith, a1, b1]
  rfl

theorem gt_ofP {p : List Mn} (h : Pol p) : GT (ofP p) := by
  intro t ht
  obtain ⟨m, hm, rfl⟩ := List.mem_map.1 ht
  obtain ⟨j, hj⟩ := List.mem_iff_getElem?.1 hm
  obtain ⟨g1, g2, g3, _⟩ := h.good hm
  exact ⟨keyX_len (h.dom j m hj).1, val_pos g1 g2 g3⟩

theorem mul_ne {S T : Tm} (hS : S ≠ []) (hT : T ≠ []) : mulT S T ≠ [] := by
  cases S with
  | nil => exact absurd rfl hS
  | cons s S =>
    cases T with
    | nil => exact absurd rfl hT
    | cons t T =>
      rw [mulT_cons]
      simp

theorem tot_pos_mem {T : Tm} {k : List Nat} : 1 ≤ tot T k → ∃ t ∈ T, t.1 = k := by
  induction T with
  | nil => intro h; simp [tot] at h
  | cons t T ih =>
    intro h
    simp only [tot] at h
    by_cases e : t.1 = k
    · exact ⟨t, by simp, e⟩
    · rw [if_neg e, Nat.zero_add] at h
      obtain ⟨u, hu, hk⟩ := ih h
      exact ⟨u, List.mem_cons_of_mem _ hu, hk⟩

theorem tot_mem_le {T : Tm} {t : List Nat × Nat} (h : t ∈ T) : t.2 ≤ tot T t.1 := by
  induction T with
  | nil => cases h
  | cons u T ih =>
    simp only [tot]
    rcases List.mem_cons.1 h with rfl | h
    · rw [if_pos rfl]; omega
    · have := ih h; omega

/-- A total goes on in a product with a term. -/
theorem tot_shift {u : List Nat × Nat} (hu : 1 ≤ u.2) (T : Tm) (hT : GT T) (k : List Nat) : tot T k ≤ tot (T.map fun t => (addK t.1 u.1, t.2 * u.2)) (addK k u.1) := by
  induction T with
  | nil => simp [tot]
  | cons t T ih =>
    have ih := ih fun x hx => hT x (List.mem_cons_of_mem _ hx)
    simp only [List.map_cons, tot]
    by_cases e : t.1 = k
    · subst e
      rw [if_pos rfl, if_pos rfl]
      have : t.2 * 1 ≤ t.2 * u.2 := Nat.mul_le_mul_left _ hu
      omega
    · rw [if_neg e]
      omega

theorem tot_mul_ge {S T : Tm} {u : List Nat × Nat} (hu : u ∈ T) (hT : GT T) (hS : GT S) (k : List Nat) : tot S k ≤ tot (mulT S T) (addK k u.1) := by
  have h1 := tot_shift (hT u hu).2 S hS k
  refine Nat.le_trans h1 ?_
  clear h1
  obtain ⟨a, b, rfl⟩ := List.append_of_mem hu
  have h2 : ∀ (l : Tm) (k' : List Nat), tot (mulT S (u :: l)) k' = tot (S.map fun t => (addK t.1 u.1, t.2 * u.2)) k' + tot (mulT S l) k' := fun l k' => mulT_cons_right u l k' S
  have h3 : ∀ (a l : Tm) (k' : List Nat), tot (mulT S l) k' ≤ tot (mulT S (a ++ l)) k' := by
    intro a
    induction a with
    | nil => intro l k'; exact Nat.le_refl _
    | cons x a ih =>
      intro l k'
      have := mulT_cons_right x (a ++ l) k' S
      rw [List.cons_append, this]
      have := ih l k'
      omega
  have h4 := h3 a (u :: b) (addK k u.1)
  have h5 := h2 b (addK k u.1)
  omega

theorem addK_inj {a b c : List Nat} (ha : a.length = 512) (hb : b.length = 512) (hc : c.length = 512) (h : addK a c = addK b c) : a = b := by
  apply List.ext_getElem?
  intro i
  by_cases hi : i < 512
  · have e : (addK a c)[i]? = (addK b c)[i]? := by rw [h]
    rw [List.getElem?_eq_getElem (by omega), List.getElem?_eq_getElem (by omega)]
    have ea := addK_get (a := a) (b := c) (k := i) (List.getElem?_eq_getElem (by omega)) (List.getElem?_eq_getElem (by omega))
    have eb := addK_get (a := b) (b := c) (k := i) (List.getElem?_eq_getElem (by omega)) (List.getElem?_eq_getElem (by omega))
    rw [ea, eb] at e
    simp only [Option.some.injEq] at e
    congr 1
    omega
  · rw [List.getElem?_eq_none (by omega), List.getElem?_eq_none (by omega)]

theorem nodup_map_on {α β : Type} {f : α → β} : ∀ {l : List α}, (∀ x ∈ l, ∀ y ∈ l, f x = f y → x = y) → l.Nodup → (l.map f).Nodup
  | [], _, _ => by simp
  | a :: l, hf, hn => by
    rw [List.nodup_cons] at hn
    rw [List.map_cons, List.nodup_cons]
    refine ⟨fun h => ?_, nodup_map_on (fun x hx y hy => hf x (List.mem_cons_of_mem _ hx) y (List.mem_cons_of_mem _ hy)) hn.2⟩
    obtain ⟨b, hb, e⟩ := List.mem_map.1 h
    have := hf b (List.mem_cons_of_mem _ hb) a (by simp) e
    rw [this] at hb
    exact hn.1 hb

/-- Where a product with what is not nought is in bounds, so is what was multiplied. -/
theorem ok_left {S T : Tm} (hS : GT S) (hT : GT T) (hne : T ≠ []) (h : OkF (tot (mulT S T))) : OkF (tot S) := by
  obtain ⟨u, hu⟩ := List.exists_mem_of_ne_nil T hne
  have hul := (hT u hu).1
  have hle := tot_mul_ge hu hT hS
  refine ⟨fun k => Nat.lt_of_le_of_lt (hle k) (h.1 _), fun k hk x hx => ?_, fun l hl hk => ?_⟩
  · obtain ⟨t, ht, rfl⟩ := tot_pos_mem hk
    have htl := (hS t ht).1
    obtain ⟨i, hi⟩ := List.mem_iff_getElem?.1 hx
    have hi2 := (List.getElem?_eq_some_iff.1 hi).1
    have e := addK_get (a := t.1) (b := u.1) (k := i) hi (List.getElem?_eq_getElem (by omega))
    have := h.2.1 (addK t.1 u.1) (Nat.le_trans hk (hle _)) _ (List.mem_of_getElem? e)
    omega
  · have hlen : ∀ k ∈ l, k.length = 512 := fun k hkl => by
      obtain ⟨t, ht, e⟩ := tot_pos_mem (hk k hkl)
      rw [← e]
      exact (hS t ht).1
    have h2 := h.2.2 (l.map fun k => addK k u.1) (nodup_map_on (fun x hx y hy e => addK_inj (hlen x hx) (hlen y hy) hul e) hl) (fun k' hk' => by
      obtain ⟨k, hkl, rfl⟩ := List.mem_map.1 hk'
      exact Nat.le_trans (hk k hkl) (hle k))
    rw [List.length_map] at h2
    exact h2

theorem ok_right {S T : Tm} (hS : GT S) (hT : GT T) (hne : S ≠ []) (h : OkF (tot (mulT S T))) : OkF (tot T) := by
  rw [mul_comm_tot] at h
  exact ok_left hT hS hne h

/-- The power of one more. -/
def pwT (f : Tm) : Nat → Tm
  | 0 => f
  | n + 1 => mulT (pwT f n) f

theorem pwT_add (f : Tm) (a : Nat) : ∀ b, mulT (pwT f a) (pwT f b) = pwT f (a + b + 1)
  | 0 => rfl
  | b + 1 => by
    show mulT (pwT f a) (mulT (pwT f b) f) = mulT (pwT f (a + b + 1)) f
    rw [← mulT_assoc, pwT_add f a b]

theorem gt_pwT {f : Tm} (h : GT f) : ∀ n, GT (pwT f n)
  | 0 => h
  | n + 1 => gt_mul (gt_pwT h n) h

theorem pwT_ne {f : Tm} (h : f ≠ []) : ∀ n, pwT f n ≠ []
  | 0 => h
  | n + 1 => mul_ne (pwT_ne h n) h

theorem pwT_mono {f : Tm} (hf : GT f) (hne : f ≠ []) {j k : Nat} (h : j ≤ k) (ho : OkF (tot (pwT f k))) : OkF (tot (pwT f j)) := by
  by_cases e : j = k
  · rw [e]; exact ho
  · obtain ⟨d, rfl⟩ : ∃ d, k = j + d + 1 := ⟨k - j - 1, by omega⟩
    rw [← pwT_add] at ho
    exact ok_left (gt_pwT hf j) (gt_pwT hf d) (pwT_ne hne d) ho

/-- The polynomial p has the totals of the terms T. -/
structure Rp (p : List Mn) (T : Tm) : Prop where
  pol : Pol p
  chk : checkE p 9223372036854775807 = 0
  tots : tot (ofP p) = tot T

theorem Rp.ok {p : List Mn} {T : Tm} (h : Rp p T) : OkF (tot T) := by
  obtain ⟨_, _, _, _, ho⟩ := h.pol.st
  rw [← h.tots]
  exact ho

theorem Rp.mul {p q : List Mn} {S T : Tm} (hp : Rp p S) (hq : Rp q T) : (prodE p q = 0 ∧ OkF (tot (mulT S T)) ∧ Rp (prodL p q) (mulT S T)) ∨ (prodE p q = 2 ∧ ¬ OkF (tot (mulT S T))) := by
  have e : tot (mulT (ofP p) (ofP q)) = tot (mulT S T) := (mul_congr_left hp.tots).trans (mul_congr_right hq.tots)
  by_cases ho : OkF (tot (mulT S T))
  · rw [← e] at ho
    obtain ⟨a, b, c, d⟩ := prod_yes hp.pol hq.pol ho
    exact .inl ⟨a, e ▸ ho, b, c, d.trans e⟩
  · rw [← e] at ho
    exact .inr ⟨(prod_no hp.pol hq.pol ho).1, e ▸ ho⟩

theorem Rp.eq {p q : List Mn} {T : Tm} (hp : Rp p T) (hq : Rp q T) : p = q := hp.pol.eq hq.pol (hp.tots.trans hq.tots.symm)

/-- A power by squaring. -/
theorem pow_ring {f : List Mn} {F : Tm} (hf : Rp f F) (hF : GT F) (hne : F ≠ []) {n : Nat} : ∀ (b : Nat) (out : List Mn) (j : Nat), Rp out (pwT F j) → j + 1 = n / 2 ^ b →
    (OkF (tot (pwT F (n - 1))) → (powGo prodL prodE [] f n b out).2 = 0 ∧ Rp (powGo prodL prodE [] f n b out).1 (pwT F (n - 1))) ∧ (¬ OkF (tot (pwT F (n - 1))) → (powGo prodL prodE [] f n b out).2 = 2)
  | 0, out, j, ho, hj => by
    rw [Nat.pow_zero, Nat.div_one] at hj
    have e : n - 1 = j := by omega
    rw [e]
    exact ⟨fun _ => ⟨rfl, ho⟩, fun h => absurd ho.ok h⟩
  | b + 1, out, j, ho, hj => by
    have hb2 : n / 2 ^ (b + 1) = n / 2 ^ b / 2 := by rw [Nat.pow_succ, Nat.div_div_eq_div_mul]
    have hn : n / 2 ^ b ≤ n := Nat.div_le_self _ _
    unfold powGo
    have hsq : mulT (pwT F j) (pwT F j) = pwT F (2 * j + 1) := by rw [pwT_add]; congr 1; omega
    rcases ho.mul ho with ⟨e1, o1, r1⟩ | ⟨e1, o1⟩
    · rw [if_pos e1]
      rw [hsq] at r1
      by_cases hbit : n / 2 ^ b % 2 = 1
      · rw [if_pos hbit]
        have hst : mulT (pwT F (2 * j + 1)) F = pwT F (2 * j + 2) := rfl
        rcases r1.mul hf with ⟨e2, o2, r2⟩ | ⟨e2, o2⟩
        · rw [if_pos e2]
          rw [hst] at r2
          exact pow_ring hf hF hne b _ (2 * j + 2) r2 (by omega)
        · rw [if_neg (by rw [e2]; decide)]
          rw [hst] at o2
          exact ⟨fun h => absurd (pwT_mono hF hne (by omega) h) o2, fun _ => e2⟩
      · rw [if_neg hbit]
        exact pow_ring hf hF hne b _ (2 * j + 1) r1 (by omega)
    · rw [if_neg (by rw [e1]; decide)]
      rw [hsq] at o1
      exact ⟨fun h => absurd (pwT_mono hF hne (by omega) h) o1, fun _ => e1⟩

/-- Times a row of powers. -/
def wT : List Int → List (List Mn) → Tm → Tm
  | n :: es, f :: fs, C => if n = 0 then wT es fs C else wT es fs (mulT C (pwT (ofP f) (n.toNat - 1)))
  | [], _, C => C
  | _ :: _, [], C => C

theorem ofP_ne {p : List Mn} (h : ¬ p.length = 0) : ofP p ≠ [] := by
  cases p with
  | nil => exact absurd rfl h
  | cons m p => simp [ofP]

theorem wT_good : ∀ {es : List Int} {fs : List (List Mn)} {C : Tm}, (∀ f ∈ fs, Pol f) → (∀ x ∈ es, 0 ≤ x) → noughtB es fs = false → GT C → C ≠ [] → OkF (tot (wT es fs C)) → OkF (tot C)
  | [], _, C, _, _, _, _, _, h => h
  | _ :: _, [], C, _, _, _, _, _, h => h
  | n :: es, f :: fs, C, hf, hx, hn, hC, hne, h => by
    have hn2 : (decide (0 < n) && f.length == 0) = false ∧ noughtB es fs = false := by
      simp only [noughtB, List.zip_cons_cons, List.any_cons, Bool.or_eq_false_iff] at hn
      exact hn
    unfold wT at h
    by_cases h0 : n = 0
    · rw [if_pos h0] at h
      exact wT_good (fun x hx => hf x (List.mem_cons_of_mem _ hx)) (fun x hx' => hx x (List.mem_cons_of_mem _ hx')) hn2.2 hC hne h
    · rw [if_neg h0] at h
      have hpos : 0 < n := by have := hx n (by simp); omega
      have hfl : ¬ f.length = 0 := fun e => by
        have := hn2.1
        rw [decide_eq_true hpos, e] at this
        exact absurd this (by decide)
      have hg := gt_pwT (gt_ofP (hf f (by simp))) (n.toNat - 1)
      have hp := pwT_ne (ofP_ne hfl) (n.toNat - 1)
      exact ok_left hC hg hp (wT_good (fun x hx => hf x (List.mem_cons_of_mem _ hx)) (fun x hx' => hx x (List.mem_cons_of_mem _ hx')) hn2.2 (gt_mul hC hg) (mul_ne hne hp) h)

/-- Worth, by powers. -/
theorem worth_ring : ∀ {es : List Int} {fs : List (List Mn)} {c : List Mn} {C : Tm}, (∀ f ∈ fs, Ch f) → (∀ x ∈ es, 0 ≤ x ∧ x ≤ 64) → noughtB es fs = false → Rp c C → GT C → C ≠ [] →
    (OkF (tot (wT es fs C)) → (worthGo prodL prodE es fs c).2 = 0 ∧ Rp (worthGo prodL prodE es fs c).1 (wT es fs C)) ∧ (¬ OkF (tot (wT es fs C)) → (worthGo prodL prodE es fs c).2 = 2)
  | [], _, c, C, _, _, _, hc, _, _ => by
    unfold worthGo wT
    exact ⟨fun _ => ⟨rfl, hc⟩, fun h => absurd hc.ok h⟩
  | _ :: _, [], c, C, _, _, _, hc, _, _ => by
    unfold worthGo wT
    exact ⟨fun _ => ⟨rfl, hc⟩, fun h => absurd hc.ok h⟩
  | n :: es, f :: fs, c, C, hf, hx, hn, hc, hC, hne => by
    have hn2 : (decide (0 < n) && f.length == 0) = false ∧ noughtB es fs = false := by
      simp only [noughtB, List.zip_cons_cons, List.any_cons, Bool.or_eq_false_iff] at hn
      exact hn
    have hf2 : ∀ g ∈ fs, Ch g := fun x hx => hf x (List.mem_cons_of_mem _ hx)
    have hf3 : ∀ g ∈ fs, Pol g := fun x hx => (hf2 x hx).1
    have hx2 : ∀ x ∈ es, 0 ≤ x ∧ x ≤ 64 := fun x hx' => hx x (List.mem_cons_of_mem _ hx')
    have hx3 : ∀ x ∈ es, 0 ≤ x := fun x hx' => (hx2 x hx').1
    unfold worthGo wT
    by_cases h0 : n = 0
    · rw [if_pos h0, if_pos h0]
      exact worth_ring hf2 hx2 hn2.2 hc hC hne
    · rw [if_neg h0, if_neg h0]
      have hb := hx n (by simp)
      have hfl : ¬ f.length = 0 := fun e => by
        have := hn2.1
        rw [decide_eq_true (show 0 < n by omega), e] at this
        exact absurd this (by decide)
      have hfc := hf f (by simp)
      have hrf : Rp f (ofP f) := ⟨hfc.1, hfc.2, rfl⟩
      have hgf := gt_ofP hfc.1
      have hnf := ofP_ne hfl
      have hg := gt_pwT hgf (n.toNat - 1)
      have hp := pwT_ne hnf (n.toNat - 1)
      obtain ⟨p1, p2⟩ := pow_ring hrf hgf hnf (n := n.toNat) (Lib.bitLen n.toNat - 1) f 0 hrf (by rw [bit_top (by omega) (by omega)])
      by_cases ho : OkF (tot (pwT (ofP f) (n.toNat - 1)))
      · obtain ⟨q1, q2⟩ := p1 ho
        rw [if_pos q1]
        rcases hc.mul q2 with ⟨e2, o2, r2⟩ | ⟨e2, o2⟩
        · rw [if_pos e2]
          exact worth_ring hf2 hx2 hn2.2 r2 (gt_mul hC hg) (mul_ne hne hp)
        · rw [if_neg (by rw [e2]; decide)]
          exact ⟨fun h => absurd (wT_good hf3 hx3 hn2.2 (gt_mul hC hg) (mul_ne hne hp) h) o2, fun _ => e2⟩
      · have q1 := p2 ho
        rw [if_neg (by rw [q1]; decide)]
        refine ⟨fun h => absurd (ok_right hC hg hne (wT_good hf3 hx3 hn2.2 (gt_mul hC hg) (mul_ne hne hp) h)) ho, fun _ => q1⟩

/-- The document's factors, one at a time. -/
def mulN (f : List Mn) : Nat → List Mn → List Mn × Int
  | 0, x => (x, 0)
  | n + 1, x => if mulPE x f = 0 then mulN f n (mulPL x f) else ([], mulPE x f)

def facR : List Int → List (List Mn) → List Mn → List Mn × Int
  | n :: es, f :: fs, x => if (mulN f n.toNat x).2 = 0 then facR es fs (mulN f n.toNat x).1 else ([], (mulN f n.toNat x).2)
  | [], _, x => (x, 0)
  | _ :: _, [], x => (x, 0)

theorem mulN_ring {f : List Mn} (hf : Ch f) (hne : ¬ f.length = 0) : ∀ (n : Nat) {x : List Mn} {X : Tm}, Rp x X → GT X → X ≠ [] →
    (OkF (tot (mulT X (pwT (ofP f) n))) → (mulN f (n + 1) x).2 = 0 ∧ Rp (mulN f (n + 1) x).1 (mulT X (pwT (ofP f) n))) ∧ (¬ OkF (tot (mulT X (pwT (ofP f) n))) → (mulN f (n + 1) x).2 = 2)
  | n, x, X, hx, hX, hXn => by
    have hrf : Rp f (ofP f) := ⟨hf.1, hf.2, rfl⟩
    have hgf := gt_ofP hf.1
    have hnf := ofP_ne hne
    obtain ⟨_, _, f1, f2⟩ := addP_of hx.chk hf.2
    unfold mulN
    rw [f1, f2]
    cases n with
    | zero =>
      rcases hx.mul hrf with ⟨e, o, r⟩ | ⟨e, o⟩
      · rw [if_pos e]
        exact ⟨fun _ => ⟨rfl, r⟩, fun h => absurd o h⟩
      · rw [if_neg (by rw [e]; decide)]
        exact ⟨fun h => absurd h o, fun _ => e⟩
    | succ n =>
      have hst : mulT (mulT X (ofP f)) (pwT (ofP f) n) = mulT X (pwT (ofP f) (n + 1)) := by
        rw [mulT_assoc]
        congr 1
        have := pwT_add (ofP f) 0 n
        rw [show 0 + n + 1 = n + 1 by omega] at this
        exact this
      rcases hx.mul hrf with ⟨e, o, r⟩ | ⟨e, o⟩
      · rw [if_pos e]
        have := mulN_ring hf hne n r (gt_mul hX hgf) (mul_ne hXn hnf)
        rw [hst] at this
        exact this
      · rw [if_neg (by rw [e]; decide)]
        refine ⟨fun h => absurd ?_ o, fun _ => e⟩
        rw [← hst] at h
        exact ok_left (gt_mul hX hgf) (gt_pwT hgf n) (pwT_ne hnf n) h

theorem fac_ring : ∀ {es : List Int} {fs : List (List Mn)} {c : List Mn} {C : Tm}, (∀ f ∈ fs, Ch f) → (∀ x ∈ es, 0 ≤ x ∧ x ≤ 64) → noughtB es fs = false → Rp c C → GT C → C ≠ [] →
    (OkF (tot (wT es fs C)) → (facR es fs c).2 = 0 ∧ Rp (facR es fs c).1 (wT es fs C)) ∧ (¬ OkF (tot (wT es fs C)) → (facR es fs c).2 = 2)
  | [], _, c, C, _, _, _, hc, _, _ => by
    unfold facR wT
    exact ⟨fun _ => ⟨rfl, hc⟩, fun h => absurd hc.ok h⟩
  | _ :: _, [], c, C, _, _, _, hc, _, _ => by
    unfold facR wT
    exact ⟨fun _ => ⟨rfl, hc⟩, fun h => absurd hc.ok h⟩
  | n :: es, f :: fs, c, C, hf, hx, hn, hc, hC, hne => by
    have hn2 : (decide (0 < n) && f.length == 0) = false ∧ noughtB es fs = false := by
      simp only [noughtB, List.zip_cons_cons, List.any_cons, Bool.or_eq_false_iff] at hn
      exact hn
    have hf2 : ∀ g ∈ fs, Ch g := fun x hx => hf x (List.mem_cons_of_mem _ hx)
    have hf3 : ∀ g ∈ fs, Pol g := fun x hx => (hf2 x hx).1
    have hx2 : ∀ x ∈ es, 0 ≤ x ∧ x ≤ 64 := fun x hx' => hx x (List.mem_cons_of_mem _ hx')
    have hx3 : ∀ x ∈ es, 0 ≤ x := fun x hx' => (hx2 x hx').1
    unfold facR wT
    by_cases h0 : n = 0
    · subst h0
      rw [if_pos rfl]
      have e0 : mulN f (0 : Int).toNat c = (c, 0) := rfl
      rw [e0, if_pos rfl]
      exact fac_ring hf2 hx2 hn2.2 hc hC hne
    · rw [if_neg h0]
      have hb := hx n (by simp)
      have hfl : ¬ f.length = 0 := fun e => by
        have := hn2.1
        rw [decide_eq_true (show 0 < n by omega), e] at this
        exact absurd this (by decide)
      have hfc := hf f (by simp)
      have hg := gt_pwT (gt_ofP hfc.1) (n.toNat - 1)
      have hp := pwT_ne (ofP_ne hfl) (n.toNat - 1)
      have hm := mulN_ring hfc hfl (n.toNat - 1) hc hC hne
      rw [show n.toNat - 1 + 1 = n.toNat by omega] at hm
      by_cases ho : OkF (tot (mulT C (pwT (ofP f) (n.toNat - 1))))
      · obtain ⟨q1, q2⟩ := hm.1 ho
        rw [if_pos q1]
        exact fac_ring hf2 hx2 hn2.2 q2 (gt_mul hC hg) (mul_ne hne hp)
      · have q1 := hm.2 ho
        rw [if_neg (by rw [q1]; decide)]
        exact ⟨fun h => absurd (wT_good hf3 hx3 hn2.2 (gt_mul hC hg) (mul_ne hne hp) h) ho, fun _ => q1⟩

/-- The document's factors and the program's powers make the same. -/
theorem fac_worth {es : List Int} {fs : List (List Mn)} {c : List Mn} (hf : ∀ f ∈ fs, Ch f) (hx : ∀ x ∈ es, 0 ≤ x ∧ x ≤ 64) (hn : noughtB es fs = false) (hc : Ch c) (hne : ¬ c.length = 0) :
    (facR es fs c).2 = (worthGo prodL prodE es fs c).2 ∧ ((facR es fs c).2 = 0 → (facR es fs c).1 = (worthGo prodL prodE es fs c).1 ∧ Ch (facR es fs c).1) ∧ ((facR es fs c).2 = 0 ∨ (facR es fs c).2 = 2) := by
  have hr : Rp c (ofP c) := ⟨hc.1, hc.2, rfl⟩
  obtain ⟨a1, a2⟩ := worth_ring hf hx hn hr (gt_ofP hc.1) (ofP_ne hne)
  obtain ⟨b1, b2⟩ := fac_ring hf hx hn hr (gt_ofP hc.1) (ofP_ne hne)
  by_cases ho : OkF (tot (wT es fs (ofP c)))
  · obtain ⟨x1, x2⟩ := a1 ho
    obtain ⟨y1, y2⟩ := b1 ho
    exact ⟨y1.trans x1.symm, fun _ => ⟨y2.eq x2, y2.pol, y2.chk⟩, .inl y1⟩
  · have x1 := a2 ho
    have y1 := b2 ho
    exact ⟨y1.trans x1.symm, fun h => absurd (y1.symm.trans h) (by decide), .inr y1⟩

/-- The document's Compose, monomial by monomial. -/
def docGo (args : List (List Mn)) : List Mn → List Mn → List Mn × Int
  | out, [] => (out, 0)
  | out, m :: r =>
    if noughtB m.2 args then docGo args out r
    else if (facR m.2 args [(m.1, [])]).2 = 0 then
      if addPE out (facR m.2 args [(m.1, [])]).1 = 0 then docGo args (addPL out (facR m.2 args [(m.1, [])]).1) r
      else ([], addPE out (facR m.2 args [(m.1, [])]).1)
    else ([], (facR m.2 args [(m.1, [])]).2)

theorem ch_const {m : Mn} (hm : monB m = true) (hl : Lim m.1) : Ch [(m.1, [])] := by
  have h1 := monB_parts hm
  have hb : monB (m.1, []) = true := by
    unfold monB
    rw [h1.2.1]
    simpa using h1.1
  have hc : checkE [(m.1, [])] 9223372036854775807 = 0 := by
    rw [check_iff (by omega)]
    refine ⟨?_, by simp [boundsB, smallB]⟩
    rw [polyB_iff]
    intro k hk
    have : k = 0 := by simpa using hk
    subst this
    unfold okAt
    simp [hb]
  exact ⟨Pol.of (fun n hn => by simp at hn; subst hn; exact hl) (by decide) hc, hc⟩

theorem Pol.tail {m : Mn} {p : List Mn} (h : Pol (m :: p)) : Pol p :=
  ⟨fun x hx => h.lim x (List.mem_cons_of_mem _ hx), fun x hx => h.mon x (List.mem_cons_of_mem _ hx), SortedX.tail h.sort, fun x hx => h.small x (List.mem_cons_of_mem _ hx), by have := h.len; simp at this; omega⟩

theorem docGo_eq {args : List (List Mn)} (ha : ∀ f ∈ args, Ch f) : ∀ {p : List Mn} {L : LkY} {F : List Nat → Nat}, Pol p → StY L F → OkF F → KeysLe L →
    (docGo args (rowLY L) p).2 = (compGo args L p).2 ∧ ((docGo args (rowLY L) p).2 = 0 → (docGo args (rowLY L) p).1 = rowLY (compGo args L p).1)
  | [], L, F, _, _, _, _ => by
    unfold docGo compGo
    exact ⟨rfl, fun _ => rfl⟩
  | m :: p, L, F, hp, hs, ho, hk => by
    have hpt : Pol p := hp.tail
    have hmb := hp.mon m (by simp)
    have hmg := hp.good (m := m) (by simp)
    have hxs : ∀ x ∈ m.2, 0 ≤ x ∧ x ≤ 64 := hmg.2.2.2
    unfold docGo compGo
    cases hn : noughtB m.2 args
    · rw [if_neg (by decide)]
      have ev : worthV prodL prodE m.2 args [(m.1, [])] = worthGo prodL prodE m.2 args [(m.1, [])] := by unfold worthV; rw [hn]; rfl
      rw [ev]
      obtain ⟨e1, e2, e3⟩ := fac_worth ha hxs hn (ch_const hmb (hp.lim m (by simp))) (by simp)
      rw [← e1]
      by_cases h0 : (facR m.2 args [(m.1, [])]).2 = 0
      · obtain ⟨x1, x2⟩ := e2 h0
        rw [if_pos h0, if_pos h0, ← x1]
        obtain ⟨X, hX⟩ : ∃ X, X = (facR m.2 args [(m.1, [])]).1 := ⟨_, rfl⟩
        rw [← hX] at x2 ⊢
        have hrow := hs.row ho fun q hq => (hk q hq).1
        obtain ⟨f1, f2, _, _⟩ := addP_of hrow.2.1 x2.2
        rw [f1, f2]
        have hps := puts_spec (fun m hm => x2.1.good hm) x2.1.dom hs ho
        have hk2 := keysLe_puts x2.1.dom hk
        rcases sum_spec hrow.1 x2.1 with ⟨a1, a2, L2, a3, a4⟩ | ⟨a1, a2, a3⟩
        · rw [hrow.2.2] at a2 a3
          rcases hps with ⟨b1, b2, b3⟩ | ⟨b1, b2⟩
          · rw [if_pos a1, if_pos b1, a4, a3.eq b3]
            exact docGo_eq ha hpt b3 b2 hk2
          · exact absurd a2 b2
        · rw [hrow.2.2] at a2
          rcases hps with ⟨b1, b2, b3⟩ | ⟨b1, b2⟩
          · exact absurd b2 a2
          · rw [if_neg (by rw [a1]; decide), if_neg (by rw [b1]; decide)]
            exact ⟨a1.trans b1.symm, fun h => absurd (a1.symm.trans h) (by decide)⟩
      · rw [if_neg h0, if_neg h0]
        exact ⟨rfl, fun h => absurd h h0⟩
    · rw [if_pos rfl]
      have ev : worthV prodL prodE m.2 args [(m.1, [])] = ([], 0) := by unfold worthV; rw [hn]; rfl
      rw [ev]
      have ep : puts L [] = (L, 0) := rfl
      simp only [ep, if_true]
      exact docGo_eq ha hpt hs ho hk

end Go.Proofs.YtlaenbdlgpepkaaGreatDoor

/- The document's examples at the head of layer 2's statements: they come out true. -/
namespace Go.Proofs.YtlaenbdlgpepkaaGreatDoor
open Go.RowKit Go.Maps

theorem Ms.shape {w : World} {v : Value} {p : List Mn} (h : Ms w v p) : ∃ a n c, v = .slice a n c := by
  obtain ⟨ao, cap, rfl, _⟩ := Row.flat h
  exact ⟨_, _, _, rfl⟩

theorem kp_a {w : World} {o : Obj} : Kp w (w.alloc o) := Kp.of_below (below_alloc o)

theorem kp_drawn {w w' : World} {n : Nat} (h : w' = w.drewN n) : Kp w w' := by rw [h]; exact Kp.drewN _ _

theorem below_drawn {w w' : World} {n : Nat} (h : w' = w.drewN n) : Below w.heap.size w w' := by rw [h]; exact below_drewN (Below.refl _ _) n

theorem sl_oneN {w : World} {g x : Nat} (hx : x < 4294967296) (h : w.cell? ⟨g, 0, none⟩ = some (.int .u32 (x : Int))) : Sl w (.slice (some ⟨g, 0, none⟩) 1 1) [x] := by
  refine ⟨by intro y hy; simp at hy; omega, _, 1, rfl, by simp, by simp [maxLen], fun _ => ⟨g, 0, rfl, World.block_lt_of_cell? w _ h, ?_⟩⟩
  intro k y hk
  have hlt := (List.getElem?_eq_some_iff.1 hk).1
  match k, hlt with
  | 0, _ =>
    simp only [List.getElem?_cons_zero, Option.some.injEq] at hk
    subst hk
    exact h

theorem is_oneI {w : World} {g : Nat} {a : Int} (ha : -9223372036854775808 ≤ a ∧ a ≤ 9223372036854775807) (h : w.cell? ⟨g, 0, none⟩ = some (.int .i64 a)) : Is w (.slice (some ⟨g, 0, none⟩) 1 1) [a] := by
  refine ⟨_, 1, rfl, by simp, by simp [maxLen], fun _ => ⟨g, 0, rfl, World.block_lt_of_cell? w _ h, ?_⟩⟩
  intro k x hk
  have hlt := (List.getElem?_eq_some_iff.1 hk).1
  match k, hlt with
  | 0, _ =>
    simp only [List.getElem?_cons_zero, Option.some.injEq] at hk
    subst hk
    exact ⟨ha.1, ha.2, h⟩

/-- Monomials one behind the other. -/
def EMs (w : World) (g : Nat) : Nat → List Mn → Prop
  | _, [] => True
  | o, m :: r => EM w g o m ∧ EMs w g (o + 2) r

theorem EMs.get {w : World} {g : Nat} : ∀ {p : List Mn} {o k : Nat} {m : Mn}, EMs w g o p → p[k]? = some m → EM w g (o + k * 2) m
  | [], _, _, _, _, h => by simp at h
  | x :: r, o, 0, m, h, hk => by
    simp at hk
    subst hk
    exact h.1
  | x :: r, o, k + 1, m, h, hk => by
    have := EMs.get h.2 (k := k) (by simpa using hk)
    rw [show o + (k + 1) * 2 = o + 2 + k * 2 by omega]
    exact this

theorem ms_lit {w : World} {g n : Nat} {p : List Mn} (hg : g < w.heap.size) (hn : n = p.length ∧ p.length ≤ 9) (h : EMs w g 0 p) : Ms w (.slice (some ⟨g, 0, none⟩) n n) p := by
  obtain ⟨rfl, hl⟩ := hn
  refine ⟨_, p.length, rfl, Nat.le_refl _, by unfold maxLen; omega, fun _ => ⟨g, 0, rfl, hg, fun k m hk => ?_⟩⟩
  have := h.get hk
  rwa [Nat.zero_add] at this ⊢

theorem ps_one {w : World} {g : Nat} {v : Value} {p : List Mn} (h : w.cell? ⟨g, 0, none⟩ = some v) (hp : Ms w v p) : Ps w (.slice (some ⟨g, 0, none⟩) 1 1) [p] := by
  refine ⟨_, 1, rfl, by simp, by simp [maxLen], fun _ => ⟨g, 0, rfl, World.block_lt_of_cell? w _ h, ?_⟩⟩
  intro k x hk
  have hlt := (List.getElem?_eq_some_iff.1 hk).1
  match k, hlt with
  | 0, _ =>
    simp only [List.getElem?_cons_zero, Option.some.injEq] at hk
    subst hk
    exact ⟨v, h, hp⟩

theorem ps_two {w : World} {g : Nat} {v u : Value} {p q : List Mn} (h : w.cell? ⟨g, 0, none⟩ = some v) (h' : w.cell? ⟨g, 1, none⟩ = some u) (hp : Ms w v p) (hq : Ms w u q) : Ps w (.slice (some ⟨g, 0, none⟩) 2 2) [p, q] := by
  refine ⟨_, 2, rfl, by simp, by simp [maxLen], fun _ => ⟨g, 0, rfl, World.block_lt_of_cell? w _ h, ?_⟩⟩
  intro k x hk
  have hlt := (List.getElem?_eq_some_iff.1 hk).1
  match k, hlt with
  | 0, _ =>
    simp only [List.getElem?_cons_zero, Option.some.injEq] at hk
    subst hk
    exact ⟨v, h, hp⟩
  | 1, _ =>
    simp only [List.getElem?_cons_succ, List.getElem?_cons_zero, Option.some.injEq] at hk
    subst hk
    exact ⟨u, h', hq⟩

theorem rs_twoY {w : World} {g : Nat} {v u : Value} {p q : List Nat} (h : w.cell? ⟨g, 0, none⟩ = some v) (h' : w.cell? ⟨g, 1, none⟩ = some u) (hp : Sl w v p) (hq : Sl w u q) : RsY w (.slice (some ⟨g, 0, none⟩) 2 2) [p, q] := by
  refine ⟨_, 2, rfl, by simp, by simp [maxLen], fun _ => ⟨g, 0, rfl, World.block_lt_of_cell? w _ h, ?_⟩⟩
  intro k x hk
  have hlt := (List.getElem?_eq_some_iff.1 hk).1
  match k, hlt with
  | 0, _ =>
    simp only [List.getElem?_cons_zero, Option.some.injEq] at hk
    subst hk
    exact ⟨v, h, hp⟩
  | 1, _ =>
    simp only [List.getElem?_cons_succ, List.getElem?_cons_zero, Option.some.injEq] at hk
    subst hk
    exact ⟨u, h', hq⟩

end Go.Proofs.YtlaenbdlgpepkaaGreatDoor

/- What the document's Compose answers. -/
namespace Go.Proofs.YtlaenbdlgpepkaaGreatDoor
open Go.RowKit Go.Maps

theorem nought_takeM {es : List Int} : ∀ {fs : List (List Mn)} {l : Nat} {e : Int} {f : List Mn}, es[l]? = some e → fs[l]? = some f → noughtB (es.take (l + 1)) fs = (noughtB (es.take l) fs || (decide (0 < e) && f.length == 0)) := by
  induction es with
  | nil => intro fs l e f h; simp at h
  | cons a es ih =>
    intro fs l e f h h'
    cases fs with
    | nil => simp at h'
    | cons b fs =>
      have hc : ∀ (n : Int) (es : List Int), noughtB (n :: es) (b :: fs) = (decide (0 < n) && b.length == 0 || noughtB es fs) := fun _ _ => rfl
      cases l with
      | zero =>
        simp at h h'
        subst h; subst h'
        simp [noughtB]
      | succ l =>
        rw [List.take_succ_cons, List.take_succ_cons, hc, hc, ih (by simpa using h) (by simpa using h'), Bool.or_assoc]

theorem checkAll_first : ∀ {args : List (List Mn)} {k : Nat} {f : List Mn}, (∀ (j : Nat) (x : List Mn), j < k → args[j]? = some x → checkE x 9223372036854775807 = 0) → args[k]? = some f → ¬ checkE f 9223372036854775807 = 0 → checkAllE args = checkE f 9223372036854775807
  | [], k, f, _, h, _ => by simp at h
  | a :: args, 0, f, _, h, hn => by
    simp at h
    subst h
    simp only [checkAllE]
    rw [if_neg hn]
  | a :: args, k + 1, f, hz, h, hn => by
    simp only [checkAllE]
    rw [if_pos (hz 0 a (by omega) rfl)]
    exact checkAll_first (k := k) (fun j x hj hx => hz (j + 1) x (by omega) (by simpa using hx)) (by simpa using h) hn

theorem checkAll_zero : ∀ {args : List (List Mn)}, (∀ x ∈ args, checkE x 9223372036854775807 = 0) → checkAllE args = 0
  | [], _ => rfl
  | a :: args, h => by
    simp only [checkAllE]
    rw [if_pos (h a (by simp))]
    exact checkAll_zero fun x hx => h x (List.mem_cons_of_mem _ hx)

/-- What is left of the factors: j times f, and then the others. -/
def contF (f : List Mn) (j : Nat) (es : List Int) (fs : List (List Mn)) (X : List Mn) : List Mn × Int := if (mulN f j X).2 = 0 then facR es fs (mulN f j X).1 else ([], (mulN f j X).2)

theorem contF_zero (f : List Mn) (es : List Int) (fs : List (List Mn)) (X : List Mn) : contF f 0 es fs X = facR es fs X := by
  unfold contF mulN
  rw [if_pos rfl]

theorem contF_succ (f : List Mn) (j : Nat) (es : List Int) (fs : List (List Mn)) (X : List Mn) : contF f (j + 1) es fs X = if mulPE X f = 0 then contF f j es fs (mulPL X f) else ([], mulPE X f) := by
  by_cases h : mulPE X f = 0
  · rw [if_pos h]
    unfold contF
    rw [show mulN f (j + 1) X = mulN f j (mulPL X f) by rw [mulN, if_pos h]]
  · rw [if_neg h]
    unfold contF
    rw [show mulN f (j + 1) X = ([], mulPE X f) by rw [mulN, if_neg h]]
    simp only
    rw [if_neg h]

theorem Ps.limA {w : World} {v : Value} {ps : List (List Mn)} (h : Ps w v ps) : ∀ f ∈ ps, ∀ m ∈ f, Lim m.1 := by
  intro f hf
  obtain ⟨k, hk⟩ := List.mem_iff_getElem?.1 hf
  obtain ⟨ao, cap, rfl, _, _, hx⟩ := Row.flat h
  obtain ⟨g, off, x, _, hk2, u, _, hmo⟩ := hx k (List.getElem?_eq_some_iff.1 hk).1
  rw [hk] at hk2
  cases hk2
  exact hmo.limA

/-- One monomial in a new row. -/
theorem ms_alloc1 {A : Nat → Bool} {w : World} {cv ev : Value} {m : Mn} (h : Mo (onlyY A w) cv ev m) (hA : A w.heap.size = true) (t : TypeId) : Ms (onlyY A (w.alloc (.cells #[cv, ev] t))) (.slice (some ⟨w.heap.size, 0, none⟩) 1 1) [m] := by
  refine ⟨_, 1, rfl, by simp, by unfold maxLen; omega, fun _ => ⟨w.heap.size, 0, rfl, by rw [only_sizeY]; simp, fun k x hk => ?_⟩⟩
  have hk0 : k = 0 := by
    have := (List.getElem?_eq_some_iff.1 hk).1
    simpa using this
  subst hk0
  simp at hk
  subst hk
  refine ⟨cv, ev, ?_, ?_, h.kp (only_below (below_alloc _))⟩
  · rw [only_cellY hA, cell_of_row _ _ _ _ _ _ (heap_alloc_new _ _)]; rfl
  · rw [only_cellY hA, cell_of_row _ _ _ _ _ _ (heap_alloc_new _ _)]; rfl

set_option maxRecDepth 100000 in
set_option maxHeartbeats 6400000 in
theorem refCompose_any (A : Nat → Bool) (v av : Value) (p : List Mn) (args : List (List Mn)) (w : World) (h : Ms (onlyY A w) v p) (h' : Ps (onlyY A w) av args) (hA : ∀ g, w.heap.size ≤ g → A g = true) (hl : ∀ m ∈ p, m.2.length ≤ 4611686018427387904) (hl' : ∀ f ∈ args, ∀ m ∈ f, m.2.length ≤ 4611686018427387904) :
    Calls Tryz.prog 100 #[v, av] w fun e w' => ∃ v', e = .returned (.tuple #[v', .int .i64 (compE p args)]) ∧ Ms (onlyY A w') v' (compL p args) ∧ Below w.heap.size w w' := by
  obtain ⟨ao, cap, rfl, hao, hca, q0⟩ := Row.flat h
  obtain ⟨bo, cap', rfl, hbo, hcb, q0'⟩ := Row.flat h'
  unfold maxLen at hca hcb
  have HP : Hid (Ms (onlyY A w) (.slice ao p.length cap) p) := h
  have HQ : Hid (Ps (onlyY A w) (.slice bo args.length cap') args) := h'
  have HA : Hid (∀ g, w.heap.size ≤ g → A g = true) := hA
  have HL : Hid (∀ m ∈ p, Lim m.1) := h.limA
  have HLa : Hid (∀ f ∈ args, ∀ m ∈ f, Lim m.1) := h'.limA
  have HLo : Hid (∀ m ∈ p, m.2.length ≤ 4611686018427387904) := hl
  have HLf : Hid (∀ f ∈ args, ∀ m ∈ f, m.2.length ≤ 4611686018427387904) := hl'
  clear h h' q0 q0' hl hl' hA
  go_enter Tryz.func100, Tryz.ntmps100
  go_wp2_with fail
  refine (refCheck_anyY _ p 4611686018427387904 _ (HP.out.kp (only_kp A w)) (by omega) (by omega)).mono ?_
  rw [checkR_eq, check_long HLo.out]
  rintro e w1 ⟨rfl, hb1⟩
  have HB1 : Hid (Below w.heap.size w w1) := hb1
  obtain ⟨E, hE⟩ : ∃ E, E = checkE p 9223372036854775807 := ⟨_, rfl⟩
  have HE : Hid (E = checkE p 9223372036854775807) := hE
  rw [← hE]
  clear hE hb1
  by_cases hE0 : E = 0
  rotate_left
  · have hb0 : (E != 0) = true := by rw [bne_iff_ne]; exact hE0
    have hc : compE p args = E := by
      unfold compE
      have : ¬ checkAllE [p] = 0 := fun hh => hE0 (by rw [HE.out]; exact checkAll1_iff.1 hh)
      rw [if_neg this]
      simp only [checkAllE]
      rw [← HE.out, if_neg hE0]
    have HC : Hid (compE p args = E ∧ compL p args = []) := ⟨hc, by unfold compL; rw [hc, if_neg hE0]⟩
    clear hc
    go_wp2
    go_ret2
    exact ⟨_, ret2i HC.out.1.symm, by rw [HC.out.2]; exact Row.nil (Nat.zero_le _), HB1.out⟩
  subst hE0
  have HPol : Hid (Pol p) := Pol.of HL.out (by omega) HE.out.symm
  go_wp2
  go_loopw [7] (fun i wr => ∃ k : Nat, k ≤ args.length ∧ i = .int .i64 k ∧ (∀ (j : Nat) (x : List Mn), j < k → args[j]? = some x → checkE x 9223372036854775807 = 0) ∧ Below w.heap.size w wr) (fun i _ => args.length - (intOf i).toNat)
  case atStart => exact ⟨0, by omega, rfl, fun j x hj => absurd hj (by omega), HB1.out⟩
  case round =>
    obtain ⟨k, hk, rfl, hp, hbl⟩ := hrel
    obtain ⟨wa, rfl⟩ : ∃ X, X = wr := ⟨wr, rfl⟩
    have HPk : Hid (∀ (j : Nat) (x : List Mn), j < k → args[j]? = some x → checkE x 9223372036854775807 = 0) := hp
    have HB2 : Hid (Below w.heap.size w wa) := hbl
    have KW : Kp (onlyY A w) wa := (only_kp A w).trans (Kp.of_below hbl)
    clear hp hbl HB1
    by_cases hlt : k < args.length
    · obtain ⟨g, off, f, a1, c1, rfl, hm1, hc0', hmo, hl1, hl2⟩ := HQ.out.at hlt
      have hc0 := KW.cell _ _ hc0'
      have HX : Hid (args[k]? = some f) := hm1
      have HMo : Hid (Ms wa (.slice a1 f.length c1) f) := hmo.kp KW
      have HLk : Hid (∀ m ∈ f, m.2.length ≤ 4611686018427387904) := HLf.out f (List.mem_of_getElem? hm1)
      clear hm1 hc0' hmo KW
      go_wp2_with fail
      refine (refCheck_anyY _ f 4611686018427387904 _ HMo.out (by omega) (by omega)).mono ?_
      rw [checkR_eq, check_long HLk.out]
      rintro e w9 ⟨rfl, hb9⟩
      have HB9 : Hid (Below w.heap.size w w9) := below_step HB2.out hb9
      clear hb9 hc0
      by_cases hf0 : checkE f 9223372036854775807 = 0
      · have HF0 : Hid (checkE f 9223372036854775807 = 0) := hf0
        rw [hf0]
        clear hf0
        go_wp2
        go_roundw
        case rel =>
          refine ⟨k + 1, by omega, by go_num, fun j x hj hx => ?_, HB9.out⟩
          by_cases hjk : j = k
          · subst hjk; rw [HX.out] at hx; cases hx; exact HF0.out
          · exact HPk.out j x (by omega) hx
        case measure => simp [intOf]; omega
      · obtain ⟨F, hF⟩ : ∃ F, F = checkE f 9223372036854775807 := ⟨_, rfl⟩
        have hc : compE p args = F := by
          unfold compE
          rw [if_pos (checkAll1_iff.2 HE.out.symm), checkAll_first HPk.out HX.out hf0, ← hF]
          rw [← hF] at hf0
          rw [if_neg hf0]
        rw [← hF] at hf0 ⊢
        have HC : Hid (compE p args = F ∧ compL p args = []) := ⟨hc, by unfold compL; rw [hc, if_neg hf0]⟩
        clear hc hF
        go_wp2
        go_ret2
        exact ⟨_, ret2i HC.out.1.symm, by rw [HC.out.2]; exact Row.nil (Nat.zero_le _), HB9.out⟩
    · have HAll : Hid (∀ x ∈ args, checkE x 9223372036854775807 = 0) := fun x hx => by
        obtain ⟨j, hj⟩ := List.mem_iff_getElem?.1 hx
        exact HPk.out j x (by have := (List.getElem?_eq_some_iff.1 hj).1; omega) hj
      have HCh : Hid (∀ f ∈ args, Ch f) := fun f hf => ⟨Pol.of (HLa.out f hf) (by decide) (HAll.out f hf), HAll.out f hf⟩
      clear HPk KW
      go_wp2_with fail
      refine (refCheck_anyY _ p (args.length : Int) _ (HP.out.kp ((only_kp A w).trans (Kp.of_below HB2.out))) (by omega) (by omega)).mono ?_
      rw [checkR_eq]
      rintro e w2 ⟨rfl, hb2⟩
      have HB3 : Hid (Below w.heap.size w w2) := below_step HB2.out hb2
      obtain ⟨F, hF⟩ : ∃ F, F = checkE p (args.length : Int) := ⟨_, rfl⟩
      have HFe : Hid (F = 0 ↔ varsN p ≤ args.length) := by
        show _ ↔ _
        rw [hF]
        exact check_len HE.out.symm
      rw [← hF]
      clear hF hb2 HB2
      by_cases hF0 : F = 0
      rotate_left
      · have hb0 : (F != 0) = true := by rw [bne_iff_ne]; exact hF0
        have hc : compE p args = 21 := by
          unfold compE
          rw [if_pos (checkAll1_iff.2 HE.out.symm), if_pos (checkAll_zero HAll.out), if_neg (fun hh => hF0 (HFe.out.2 hh))]
        have HC : Hid (compE p args = 21 ∧ compL p args = []) := ⟨hc, by unfold compL; rw [hc]; rfl⟩
        clear hc
        go_wp2
        go_ret2
        exact ⟨_, ret2i HC.out.1.symm, by rw [HC.out.2]; exact Row.nil (Nat.zero_le _), HB3.out⟩
      have HV : Hid (varsN p ≤ args.length) := HFe.out.1 hF0
      subst hF0
      clear HFe
      have hcomp : compE p args = (docGo args [] p).2 ∧ ((docGo args [] p).2 = 0 → compL p args = (docGo args [] p).1) ∧ (¬ (docGo args [] p).2 = 0 → compL p args = []) := by
        have h0 := docGo_eq HCh.out HPol.out StY.nil okF_zero keysLe_nil
        have e0 : rowLY [] = [] := rfl
        rw [e0] at h0
        have hc : compE p args = (compGo args [] p).2 := by
          unfold compE
          rw [if_pos (checkAll1_iff.2 HE.out.symm), if_pos (checkAll_zero HAll.out), if_pos HV.out]
        refine ⟨hc.trans h0.1.symm, fun hz => ?_, fun hz => ?_⟩
        · unfold compL
          rw [hc, ← h0.1, if_pos hz, h0.2 hz]
        · unfold compL
          rw [hc, ← h0.1, if_neg hz]
      have HComp : Hid (compE p args = (docGo args [] p).2 ∧ ((docGo args [] p).2 = 0 → compL p args = (docGo args [] p).1) ∧ (¬ (docGo args [] p).2 = 0 → compL p args = [])) := hcomp
      clear hcomp
      go_wp2
      go_loopw [8, 9] (fun x i wr => ∃ (k : Nat) (O : List Mn), k ≤ p.length ∧ i = .int .i64 k ∧ docGo args [] p = docGo args O (p.drop k) ∧ (∀ m ∈ O, m.2.length ≤ 512) ∧ Ms (onlyY A wr) x O ∧ Below w.heap.size w wr) (fun _ i _ => p.length - (intOf i).toNat)
      case atStart => exact ⟨0, [], by omega, rfl, rfl, fun m hm => (by cases hm), Row.nil (Nat.zero_le _), below_step HB3.out (below_alloc _)⟩
      case round =>
        obtain ⟨k, O, hk, rfl, hdo, hOl, hms, hbl⟩ := hrel
        obtain ⟨wA, rfl⟩ : ∃ X, X = wr := ⟨wr, rfl⟩
        have HDo : Hid (docGo args [] p = docGo args O (p.drop k)) := hdo
        have HOl : Hid (∀ m ∈ O, m.2.length ≤ 512) := hOl
        have HMs : Hid (Ms (onlyY A wA) u8 O) := hms
        have HBl : Hid (Below w.heap.size w wA) := hbl
        have KW : Kp (onlyY A w) wA := (only_kp A w).trans (Kp.of_below hbl)
        clear hdo hOl hms hbl HB3
        by_cases hlt : k < p.length
        · obtain ⟨g, off, c, es, a1, c1, a2, c2, rfl, hm1, hc0', hc1', hmm, hl1, hl2, hl3, hl4⟩ := HP.out.at hlt
          have hc0 := KW.cell _ _ hc0'
          have hc1 := KW.cell _ _ hc1'
          have HX : Hid (p[k]? = some (c, es)) := hm1
          have HGm : Hid (GoodM (c, es)) := HPol.out.good (List.mem_of_getElem? hm1)
          have hle : es.length ≤ args.length := varsN_iff.1 HV.out _ (List.mem_of_getElem? hm1)
          have HMo : Hid (Mo (onlyY A w) (.slice a1 c.length c1) (.slice a2 es.length c2) (c, es)) := hmm
          have HIs : Hid (Is wA (.slice a2 es.length c2) es) := hmm.2.kp KW
          have HQr : Hid (Ps wA (.slice bo args.length cap') args) := HQ.out.kp KW
          have HDr : Hid (p.drop k = (c, es) :: p.drop (k + 1)) := drop_getY hm1
          clear hm1 hmm hc0' hc1' KW
          go_wp2
          go_loopw [10, 11] (fun b i ws => ∃ l : Nat, l ≤ es.length ∧ i = .int .i64 l ∧ b = .bool (noughtB (es.take l) args) ∧ ws = wA) (fun _ i _ => es.length - (intOf i).toNat)
          case atStart => exact ⟨0, by omega, rfl, by simp [noughtB], rfl⟩
          case round =>
            obtain ⟨l, hl, rfl, rfl, hw⟩ := hrel
            have hw8 := hw.symm
            subst hw8
            clear hw
            by_cases hll : l < es.length
            · obtain ⟨g2, o2, x, rfl, hx1, hx2, hx3, hx4⟩ := HIs.out.at hll
              obtain ⟨g3, o3, f, b1, d1, rfl, hy1, hy2, hy3, hy4, hy5⟩ := HQr.out.at (k := l) (by omega)
              have hla : l < args.length := by omega
              have HN : Hid (noughtB (es.take (l + 1)) args = (noughtB (es.take l) args || (decide (0 < x) && f.length == 0))) := nought_takeM hx1 hy1
              clear hx1 hy1 hy3
              cases hB : noughtB (es.take l) args
              · rw [hB] at HN
                clear hB
                by_cases hx : 0 < x
                · by_cases hf0 : f.length = 0
                  · have hfb : ((f.length : Int) == 0) = true := by rw [beq_iff_eq]; omega
                    have HN2 : Hid (noughtB (es.take (l + 1)) args = true) := by show _ = _; rw [HN.out]; simp [hx, hf0]
                    clear hf0
                    go_wp2
                    go_roundw
                    case rel => exact ⟨l + 1, by omega, by go_num, by rw [HN2.out], trivial⟩
                    case measure => simp [intOf]; omega
                  · have hfb : ((f.length : Int) == 0) = false := by rw [beq_eq_false_iff_ne]; omega
                    have HN2 : Hid (noughtB (es.take (l + 1)) args = false) := by show _ = _; rw [HN.out]; simp [hf0]
                    clear hf0
                    go_wp2
                    go_roundw
                    case rel => exact ⟨l + 1, by omega, by go_num, by rw [HN2.out], trivial⟩
                    case measure => simp [intOf]; omega
                · have hxd : decide (0 < x) = false := decide_eq_false hx
                  have HN2 : Hid (noughtB (es.take (l + 1)) args = false) := by show _ = _; rw [HN.out]; simp [hxd]
                  go_wp2
                  go_roundw
                  case rel => exact ⟨l + 1, by omega, by go_num, by rw [HN2.out], trivial⟩
                  case measure => simp [intOf]; omega
              · rw [hB] at HN
                clear hB
                have HN2 : Hid (noughtB (es.take (l + 1)) args = true) := by show _ = _; rw [HN.out]; simp
                go_wp2
                go_roundw
                case rel => exact ⟨l + 1, by omega, by go_num, by rw [HN2.out], trivial⟩
                case measure => simp [intOf]; omega
            · have hle2 : es.take l = es := List.take_of_length_le (by omega)
              rw [hle2]
              clear hle2
              cases hN : noughtB es args
              rotate_left
              · have HDo2 : Hid (docGo args [] p = docGo args O (p.drop (k + 1))) := by
                  show _ = _
                  rw [HDo.out, HDr.out, docGo]
                  simp only
                  rw [hN, if_pos rfl]
                clear hN
                go_wp2
                go_roundw
                case rel => exact ⟨k + 1, O, by omega, by go_num, HDo2.out, HOl.out, HMs.out, HBl.out⟩
                case measure => simp [intOf]; omega
              have HDo2 : Hid (docGo args [] p = if (facR es args [(c, [])]).2 = 0 then (if addPE O (facR es args [(c, [])]).1 = 0 then docGo args (addPL O (facR es args [(c, [])]).1) (p.drop (k + 1)) else ([], addPE O (facR es args [(c, [])]).1)) else ([], (facR es args [(c, [])]).2)) := by
                show _ = _
                rw [HDo.out, HDr.out, docGo]
                simp only
                rw [hN, if_neg (by decide)]
              clear hN HDo HDr
              have HBad : Hid (∀ e : Int, ¬ e = 0 → docGo args [] p = ([], e) → compE p args = e ∧ compL p args = []) := fun e he hd => by
                refine ⟨by rw [HComp.out.1, hd], HComp.out.2.2 ?_⟩
                rw [hd]
                exact he
              have HOne : Hid (Ms (onlyY A (wA.alloc (.cells #[.slice a1 c.length c1, .slice none 0 0] 37))) (.slice (some ⟨wA.heap.size, 0, none⟩) 1 1) [(c, [])]) :=
                ms_alloc1 (m := (c, [])) ⟨HMo.out.1.kp (only_below HBl.out), Row.nil (Nat.zero_le _)⟩ (HA.out _ HBl.out.size) _
              go_wp2
              go_loopw [12, 13] (fun y i ws => ∃ (l : Nat) (X : List Mn), l ≤ es.length ∧ i = .int .i64 l ∧ facR es args [(c, [])] = facR (es.drop l) (args.drop l) X ∧ (∀ m ∈ X, m.2.length ≤ 512) ∧ Ms (onlyY A ws) y X ∧ Below wA.heap.size wA ws) (fun _ i _ => es.length - (intOf i).toNat)
              case atStart => exact ⟨0, [(c, [])], by omega, rfl, rfl, fun m hm => (by simp at hm; subst hm; simp), HOne.out, below_alloc _⟩
              case round =>
                obtain ⟨l2, X, hl2, rfl, hfa, hXl, hmy, hby⟩ := hrel
                obtain ⟨wB, rfl⟩ : ∃ X, X = wr := ⟨wr, rfl⟩
                have HFa : Hid (facR es args [(c, [])] = facR (es.drop l2) (args.drop l2) X) := hfa
                have HXl : Hid (∀ m ∈ X, m.2.length ≤ 512) := hXl
                have HMy : Hid (Ms (onlyY A wB) u12 X) := hmy
                have HBy : Hid (Below wA.heap.size wA wB) := hby
                have HBw : Hid (Below w.heap.size w wB) := below_step HBl.out hby
                have hcB := (Kp.of_below hby).cell _ _ hc1
                clear hfa hXl hmy
                by_cases hll2 : l2 < es.length
                · obtain ⟨g2, o2, x, rfl, hx1, hx2, hx3, hx4⟩ := (HIs.out.kp (Kp.of_below hby)).at hll2
                  obtain ⟨g3, o3, f, b1, d1, rfl, hy1, hy2', hy3, hy4, hy5⟩ := HQ.out.at (k := l2) (by omega)
                  have hy2 := ((only_kp A w).trans (Kp.of_below HBw.out)).cell _ _ hy2'
                  have hla2 : l2 < args.length := by omega
                  have hxx := HGm.out.2.2.2 x (List.mem_of_getElem? hx1)
                  have hx0 : 0 ≤ x := hxx.1
                  have HXx : Hid (0 ≤ x ∧ x ≤ 64) := hxx
                  have HMf : Hid (Ms (onlyY A w) (.slice b1 f.length d1) f) := hy3
                  have HFl : Hid (∀ m ∈ f, m.2.length ≤ 4611686018427387904) := HLf.out f (List.mem_of_getElem? hy1)
                  have HFa2 : Hid (facR es args [(c, [])] = contF f (x.toNat - 0) (es.drop (l2 + 1)) (args.drop (l2 + 1)) X) := by
                    show _ = _
                    rw [HFa.out, drop_getY hx1, drop_getY hy1]
                    rfl
                  clear hx1 hy1 hy3 hy2' hby hxx HFa
                  go_wp2
                  go_loopw [12, 14] (fun y i ws => ∃ (n : Nat) (X2 : List Mn), n ≤ x.toNat ∧ i = .int .i64 n ∧ facR es args [(c, [])] = contF f (x.toNat - n) (es.drop (l2 + 1)) (args.drop (l2 + 1)) X2 ∧ (∀ m ∈ X2, m.2.length ≤ 512) ∧ Ms (onlyY A ws) y X2 ∧ Below wB.heap.size wB ws) (fun _ i _ => x.toNat - (intOf i).toNat)
                  case atStart => exact ⟨0, X, by omega, rfl, HFa2.out, HXl.out, HMy.out, Below.refl _ _⟩
                  case round =>
                    obtain ⟨n, X2, hn, rfl, hfa, hXl, hmz, hbz⟩ := hrel
                    obtain ⟨wC, rfl⟩ : ∃ X, X = wr := ⟨wr, rfl⟩
                    have HFc : Hid (facR es args [(c, [])] = contF f (x.toNat - n) (es.drop (l2 + 1)) (args.drop (l2 + 1)) X2) := hfa
                    have HXl2 : Hid (∀ m ∈ X2, m.2.length ≤ 512) := hXl
                    have HMz : Hid (Ms (onlyY A wC) u12 X2) := hmz
                    have HBz : Hid (Below w.heap.size w wC) := below_step HBw.out hbz
                    have HBc : Hid (Below wB.heap.size wB wC) := hbz
                    have hcC := (Kp.of_below hbz).cell _ _ hcB
                    have hxC := (Kp.of_below hbz).cell _ _ hx2
                    have hyC := (Kp.of_below hbz).cell _ _ hy2
                    clear hfa hXl hmz hbz
                    by_cases hnx : (n : Int) < x
                    · go_wp2_with fail
                      refine (refMulP_any A _ _ X2 f _ HMz.out (HMf.out.kp (only_below HBz.out)) (fun g hg => HA.out g (Nat.le_trans HBz.out.size hg)) (fun m hm => Nat.le_trans (HXl2.out m hm) (by omega)) HFl.out).mono ?_
                      rintro e wD ⟨vD, rfl, mD, hbD⟩
                      have HBD : Hid (Below wB.heap.size wB wD) := below_step HBc.out hbD
                      have HBDw : Hid (Below w.heap.size w wD) := below_step HBz.out hbD
                      have hst : contF f (x.toNat - n) (es.drop (l2 + 1)) (args.drop (l2 + 1)) X2 = if mulPE X2 f = 0 then contF f (x.toNat - (n + 1)) (es.drop (l2 + 1)) (args.drop (l2 + 1)) (mulPL X2 f) else ([], mulPE X2 f) := by
                        rw [show x.toNat - n = (x.toNat - (n + 1)) + 1 by omega]
                        exact contF_succ _ _ _ _ _
                      by_cases hme : mulPE X2 f = 0
                      · have HNf : Hid (facR es args [(c, [])] = contF f (x.toNat - (n + 1)) (es.drop (l2 + 1)) (args.drop (l2 + 1)) (mulPL X2 f)) := by show _ = _; rw [HFc.out, hst, if_pos hme]
                        have HMD : Hid (Ms (onlyY A wD) vD (mulPL X2 f)) := mD
                        have HNl : Hid (∀ m ∈ mulPL X2 f, m.2.length ≤ 512) := fun m hm => ((mulPL_lens HMz.out.limA HMf.out.limA).2 m hm).2
                        rw [hme]
                        clear hme hst mD hbD hcC hxC hyC HFc
                        go_wp2
                        go_roundw
                        case rel => exact ⟨n + 1, mulPL X2 f, by omega, by go_num, HNf.out, HNl.out, HMD.out, HBD.out⟩
                        case measure => simp [intOf]; omega
                      · have hfr : facR es args [(c, [])] = ([], mulPE X2 f) := by rw [HFc.out, hst, if_neg hme]
                        have HC : Hid (compE p args = mulPE X2 f ∧ compL p args = []) := HBad.out _ hme (by rw [HDo2.out, hfr]; simp only; rw [if_neg hme])
                        obtain ⟨E2, hE2⟩ : ∃ E2, E2 = mulPE X2 f := ⟨_, rfl⟩
                        rw [← hE2] at HC hme ⊢
                        have hb0 : (E2 != 0) = true := by rw [bne_iff_ne]; exact hme
                        clear hfr hst mD hbD hcC hxC hyC HFc hE2
                        go_wp2
                        go_ret2
                        exact ⟨_, ret2i HC.out.1.symm, by rw [HC.out.2]; exact Row.nil (Nat.zero_le _), HBDw.out⟩
                    · have hnd : decide ((n : Int) < x) = false := decide_eq_false hnx
                      have HNx : Hid (facR es args [(c, [])] = facR (es.drop (l2 + 1)) (args.drop (l2 + 1)) X2) := by
                        show _ = _
                        rw [HFc.out, show x.toNat - n = 0 by omega, contF_zero]
                      go_wp2
                      go_roundw
                      case rel => exact ⟨l2 + 1, X2, by omega, by go_num, HNx.out, HXl2.out, HMz.out, below_step HBy.out HBc.out⟩
                      case measure => simp [intOf]; omega
                · have hfr : facR es args [(c, [])] = (X, 0) := by
                    rw [HFa.out, List.drop_of_length_le (by omega)]
                    rfl
                  have HDo3 : Hid (docGo args [] p = if addPE O X = 0 then docGo args (addPL O X) (p.drop (k + 1)) else ([], addPE O X)) := by
                    show _ = _
                    rw [HDo2.out, hfr]
                    simp only
                    rw [if_pos trivial]
                  have HMs2 : Hid (Ms (onlyY A wB) u8 O) := HMs.out.kp (only_below hby)
                  clear hby hfr HFa
                  go_wp2_with fail
                  refine (refAddP_any A _ _ O X _ HMs2.out HMy.out (fun g hg => HA.out g (Nat.le_trans HBw.out.size hg)) (fun m hm => Nat.le_trans (HOl.out m hm) (by omega)) (fun m hm => Nat.le_trans (HXl.out m hm) (by omega))).mono ?_
                  rintro e wD ⟨vD, rfl, mD, hbD⟩
                  have HBDw : Hid (Below w.heap.size w wD) := below_step HBw.out hbD
                  by_cases hae : addPE O X = 0
                  · have HNd : Hid (docGo args [] p = docGo args (addPL O X) (p.drop (k + 1))) := by show _ = _; rw [HDo3.out, if_pos hae]
                    have HMD : Hid (Ms (onlyY A wD) vD (addPL O X)) := mD
                    have HNl : Hid (∀ m ∈ addPL O X, m.2.length ≤ 512) := fun m hm => ((addPL_lens HMs2.out.limA HMy.out.limA).2 m hm).2
                    rw [hae]
                    clear hae mD hbD hcB
                    go_wp2
                    go_roundw
                    case rel => exact ⟨k + 1, addPL O X, by omega, by go_num, HNd.out, HNl.out, HMD.out, HBDw.out⟩
                    case measure => simp [intOf]; omega
                  · have HC : Hid (compE p args = addPE O X ∧ compL p args = []) := HBad.out _ hae (by rw [HDo3.out, if_neg hae])
                    obtain ⟨E2, hE2⟩ : ∃ E2, E2 = addPE O X := ⟨_, rfl⟩
                    rw [← hE2] at HC hae ⊢
                    have hb0 : (E2 != 0) = true := by rw [bne_iff_ne]; exact hae
                    clear mD hbD hcB hE2
                    go_wp2
                    go_ret2
                    exact ⟨_, ret2i HC.out.1.symm, by rw [HC.out.2]; exact Row.nil (Nat.zero_le _), HBDw.out⟩
        · have hke : k = p.length := by omega
          subst hke
          have hz : docGo args [] p = (O, 0) := by rw [HDo.out, List.drop_of_length_le (Nat.le_refl _)]; rfl
          have HC : Hid (compE p args = 0 ∧ compL p args = O) := by
            refine ⟨by rw [HComp.out.1, hz], ?_⟩
            rw [HComp.out.2.1 (by rw [hz]), hz]
          clear hz HDo KW
          go_wp2
          go_ret2
          exact ⟨_, ret2i HC.out.1.symm, by rw [HC.out.2]; exact HMs.out, HBl.out⟩

end Go.Proofs.YtlaenbdlgpepkaaGreatDoor
