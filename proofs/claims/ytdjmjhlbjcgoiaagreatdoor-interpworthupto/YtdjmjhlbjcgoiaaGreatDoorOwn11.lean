/- Texts of the proof, one behind the other. -/
import Derived.Test.YtdjmjhlbjcgoiaaGreatDoorOwn10
/- Greater is greater: plain data. -/
namespace Go.Proofs.YtdjmjhlbjcgoiaaGreatDoor
open Go.RowKit Go.Maps

def SortedX : List Mn → Prop
  | [] => True
  | [_] => True
  | m :: n :: r => cmpX m.2 n.2 < 0 ∧ SortedX (n :: r)

theorem SortedX.tail {m : Mn} {r : List Mn} (h : SortedX (m :: r)) : SortedX r := by
  cases r with
  | nil => exact trivial
  | cons n r => exact h.2

theorem SortedX.head {m n : Mn} {r : List Mn} (h : SortedX (m :: r)) (hn : r[0]? = some n) : cmpX m.2 n.2 < 0 := by
  cases r with
  | nil => simp at hn
  | cons n' r =>
    simp at hn
    subst hn
    exact h.1

theorem sortedX_of {p : List Mn} (h : ∀ k m n, p[k]? = some m → p[k + 1]? = some n → cmpX m.2 n.2 < 0) : SortedX p := by
  induction p with
  | nil => exact trivial
  | cons m r ih =>
    cases r with
    | nil => exact trivial
    | cons n r => exact ⟨h 0 m n rfl rfl, ih fun k a b ha hb => h (k + 1) a b ha hb⟩

theorem polyB_sorted {p : List Mn} {vars : Int} (h : polyB p vars = true) : SortedX p := by
  refine sortedX_of fun k m n hm hn => ?_
  have := polyB_iff.1 h (k + 1) (List.getElem?_eq_some_iff.1 hn).1
  unfold okAt at this
  simp only [Bool.and_eq_true, Bool.or_eq_true, beq_iff_eq, decide_eq_true_eq] at this
  have h2 := this.2.resolve_left (by omega)
  unfold expsAt at h2
  rw [Nat.add_sub_cancel, hm, hn] at h2
  exact h2

theorem polyB_good {p : List Mn} {vars : Int} (h : polyB p vars = true) {m : Mn} (hm : m ∈ p) : monB m = true ∧ (m.2.length : Int) ≤ vars := by
  obtain ⟨k, hk⟩ := List.mem_iff_getElem?.1 hm
  have := polyB_iff.1 h k (List.getElem?_eq_some_iff.1 hk).1
  unfold okAt at this
  rw [hk] at this
  simp only [Bool.and_eq_true, decide_eq_true_eq] at this
  exact this.1

/-- A polynomial that Check lets by. -/
structure Pol (p : List Mn) : Prop where
  lim : ∀ m ∈ p, Lim m.1
  mon : ∀ m ∈ p, monB m = true
  sort : SortedX p
  small : ∀ m ∈ p, m.2.length ≤ 512 ∧ ∀ n ∈ m.2, n ≤ 64
  len : p.length ≤ 256

theorem check_iff {p : List Mn} {vars : Int} (hv : ¬ vars < 0) : checkE p vars = 0 ↔ polyB p vars = true ∧ boundsB p = true := by
  unfold checkE
  rw [if_neg hv]
  cases hp : polyB p vars <;> cases hb : boundsB p <;> simp

theorem Pol.of {p : List Mn} {vars : Int} (hl : ∀ m ∈ p, Lim m.1) (hv : ¬ vars < 0) (h : checkE p vars = 0) : Pol p := by
  obtain ⟨h1, h2⟩ := (check_iff hv).1 h
  simp only [boundsB, smallB, Bool.and_eq_true, decide_eq_true_eq, List.all_eq_true] at h2
  exact ⟨hl, fun m hm => (polyB_good h1 hm).1, polyB_sorted h1, h2.2, h2.1⟩

theorem Pol.good {p : List Mn} (h : Pol p) {m : Mn} (hm : m ∈ p) : GoodM m := by
  have h1 := h.mon m hm
  obtain ⟨c, es⟩ := m
  simp only [monB, Bool.and_eq_true, List.all_eq_true, decide_eq_true_eq, Bool.not_eq_true', beq_eq_false_iff_ne, ne_eq] at h1
  exact ⟨h.lim _ hm, h1.1.1.2, h1.1.1.1, fun n hn => ⟨h1.1.2 n hn, (h.small _ hm).2 n hn⟩⟩

theorem okAt_vars {p : List Mn} {a b : Int} {k : Nat} (h : okAt p a k = true) (hb : ∀ m, p[k]? = some m → (m.2.length : Int) ≤ b) : okAt p b k = true := by
  unfold okAt at h ⊢
  cases hk : p[k]? with
  | none => rw [hk] at h; simp at h
  | some m =>
    rw [hk] at h
    simp only [Bool.and_eq_true, decide_eq_true_eq] at h ⊢
    exact ⟨⟨h.1.1, hb m hk⟩, h.2⟩

/-- How many variables are asked for does not matter, where there are enough. -/
theorem check_vars {p : List Mn} {a b : Int} (ha : ¬ a < 0) (hb : 512 ≤ b) (h : checkE p a = 0) : checkE p b = 0 := by
  obtain ⟨h1, h2⟩ := (check_iff ha).1 h
  refine (check_iff (by omega)).2 ⟨polyB_iff.2 fun k hk => okAt_vars (polyB_iff.1 h1 k hk) fun m hm => ?_, h2⟩
  simp only [boundsB, smallB, Bool.and_eq_true, decide_eq_true_eq, List.all_eq_true] at h2
  have := (h2.2 m (List.mem_of_getElem? hm)).1
  omega

theorem varsN_iff {p : List Mn} {B : Nat} : varsN p ≤ B ↔ ∀ m ∈ p, m.2.length ≤ B := by
  have key : ∀ (p : List Mn) (a : Nat), p.foldl (fun a m => max a m.2.length) a ≤ B ↔ a ≤ B ∧ ∀ m ∈ p, m.2.length ≤ B := by
    intro p
    induction p with
    | nil => intro a; simp
    | cons m r ih =>
      intro a
      rw [List.foldl_cons, ih, Nat.max_le]
      simp only [List.mem_cons, forall_eq_or_imp, and_assoc]
  unfold varsN
  rw [key]
  simp

theorem checkAll2_iff {p q : List Mn} : checkAllE [p, q] = 0 ↔ checkE p 9223372036854775807 = 0 ∧ checkE q 9223372036854775807 = 0 := by
  simp only [checkAllE]
  by_cases h1 : checkE p 9223372036854775807 = 0
  · rw [if_pos h1]
    by_cases h2 : checkE q 9223372036854775807 = 0
    · simp [h1, h2]
    · simp [h1, h2]
  · simp [h1]

theorem checkAll1_iff {p : List Mn} : checkAllE [p] = 0 ↔ checkE p 9223372036854775807 = 0 := by
  simp only [checkAllE]
  by_cases h1 : checkE p 9223372036854775807 = 0 <;> simp [h1]

theorem rt_nil : RtY [] 0 := ⟨rfl, Nat.pow_pos (by omega)⟩

theorem val_iff {p : List Mn} {ats : List (List Nat)} (hl : ∀ m ∈ p, Lim m.1) (hf : ∀ f ∈ ats, Lim f) :
    valE p ats = 0 ↔ checkE p 9223372036854775807 = 0 ∧ varsN p ≤ ats.length ∧ ats.all rightB = true ∧ worthN ats p < bigN := by
  unfold valE
  by_cases h1 : checkE p 9223372036854775807 = 0
  · rw [if_pos (checkAll1_iff.2 h1)]
    by_cases h2 : varsN p ≤ ats.length
    · rw [if_pos h2]
      by_cases h3 : ats.all rightB = true
      · rw [if_pos h3, valGo_spec (fun f hh => ⟨hf f hh, List.all_eq_true.1 h3 f hh⟩) (fun m hm => (Pol.of hl (by omega) h1).good hm) rt_nil, Nat.zero_add]
        by_cases h4 : worthN ats p < bigN
        · rw [ans_ok h4]; simp [h1, h2, h3, h4]
        · rw [ans_no (by omega)]; simp [h4]
      · rw [if_neg h3]; simp [h3]
    · rw [if_neg h2]; simp [h2]
  · rw [if_neg (fun h => h1 (checkAll1_iff.1 h))]
    constructor
    · intro h; exact absurd (checkAll1_iff.1 h) h1
    · intro h; exact absurd h.1 h1

theorem valL_spec {p : List Mn} {ats : List (List Nat)} (hl : ∀ m ∈ p, Lim m.1) (hf : ∀ f ∈ ats, Lim f) (h : valE p ats = 0) : RtY (valL p ats) (worthN ats p) := by
  unfold valL
  rw [if_pos h]
  obtain ⟨h1, h2, h3, h4⟩ := (val_iff hl hf).1 h
  rw [valGo_spec (fun f hh => ⟨hf f hh, List.all_eq_true.1 h3 f hh⟩) (fun m hm => (Pol.of hl (by omega) h1).good hm) rt_nil, Nat.zero_add, ans_ok h4]
  exact ⟨rfl, h4⟩

end Go.Proofs.YtdjmjhlbjcgoiaaGreatDoor

/- What sums and products are worth: plain data. -/
namespace Go.Proofs.YtdjmjhlbjcgoiaaGreatDoor
open Go.RowKit Go.Maps

/-- The product of the powers at a key. -/
def prodK : List Nat → List (List Nat) → Nat
  | [], _ => 1
  | _ :: _, [] => 1
  | k :: ks, f :: fs => val f ^ k * prodK ks fs

def worthK (ats : List (List Nat)) : LkY → Nat
  | [] => 0
  | p :: L => val p.2 * prodK p.1 ats + worthK ats L

theorem prodK_zeros : ∀ (n : Nat) (fs : List (List Nat)), prodK (List.replicate n 0) fs = 1
  | 0, _ => rfl
  | n + 1, [] => rfl
  | n + 1, f :: fs => by rw [List.replicate_succ, prodK, prodK_zeros n fs]; simp

theorem prodK_pad (n : Nat) : ∀ (ks : List Nat) (fs : List (List Nat)), prodK (ks ++ List.replicate n 0) fs = prodK ks fs
  | [], fs => prodK_zeros n fs
  | k :: ks, [] => rfl
  | k :: ks, f :: fs => by rw [List.cons_append, prodK, prodK, prodK_pad n ks fs]

theorem prodW_map : ∀ (es : List Int) (fs : List (List Nat)), prodW es fs = prodK (es.map Int.toNat) fs
  | [], _ => rfl
  | _ :: _, [] => rfl
  | e :: es, f :: fs => by rw [prodW, List.map_cons, prodK, prodW_map es fs]

theorem prodW_key (es : List Int) (fs : List (List Nat)) : prodW es fs = prodK (keyX es) fs := by
  unfold keyX
  rw [prodK_pad, prodW_map]

theorem top_split (ks : List Nat) : ∃ n, ks = ks.take (topK ks) ++ List.replicate n 0 := by
  have h1 : ks = (ks.reverse.dropWhile (· == 0)).reverse ++ (ks.reverse.takeWhile (· == 0)).reverse := by
    rw [← List.reverse_append, List.takeWhile_append_dropWhile, List.reverse_reverse]
  have h2 : ks.take (topK ks) = (ks.reverse.dropWhile (· == 0)).reverse := by
    unfold topK
    have := congrArg (List.take (ks.reverse.dropWhile (· == 0)).length) h1
    rw [this, List.take_left' (by simp)]
  refine ⟨(ks.reverse.takeWhile (· == 0)).length, ?_⟩
  rw [h2]
  have h3 : (ks.reverse.takeWhile (· == 0)).reverse = List.replicate (ks.reverse.takeWhile (· == 0)).length 0 := by
    rw [List.eq_replicate_iff]
    refine ⟨by simp, fun b hb => ?_⟩
    have := List.mem_reverse.1 hb
    have hall : ∀ (l : List Nat) (x : Nat), x ∈ l.takeWhile (· == 0) → x = 0 := by
      intro l
      induction l with
      | nil => intro x hx; simp at hx
      | cons a l ih =>
        intro x hx
        rw [List.takeWhile_cons] at hx
        split at hx
        · rename_i ha
          rcases List.mem_cons.1 hx with rfl | hx
          · simpa using ha
          · exact ih x hx
        · simp at hx
    exact hall _ b this
  rw [← h3]
  exact h1

theorem map_ofNat (l : List Nat) : (l.map Int.ofNat).map Int.toNat = l := by
  rw [List.map_map]
  conv => rhs; rw [← List.map_id l]
  exact List.map_congr_left fun x _ => rfl

theorem prodW_unX (ks : List Nat) (fs : List (List Nat)) : prodW (unX ks) fs = prodK ks fs := by
  unfold unX
  obtain ⟨n, hn⟩ := top_split ks
  rw [prodW_map, map_ofNat]
  conv => rhs; rw [hn]
  rw [prodK_pad]

theorem prodK_add : ∀ (a b : List Nat) (fs : List (List Nat)), a.length = b.length → prodK (addK a b) fs = prodK a fs * prodK b fs
  | [], [], _, _ => rfl
  | [], _ :: _, _, h => by simp at h
  | _ :: _, [], _, h => by simp at h
  | x :: a, y :: b, [], h => rfl
  | x :: a, y :: b, f :: fs, h => by
    have ih := prodK_add a b fs (by simpa using h)
    unfold addK at ih ⊢
    rw [List.zipWith_cons_cons, prodK, ih, prodK, prodK, Nat.pow_add]
    ac_rfl

theorem coefK_head {p : List Nat × List Nat} {r : LkY} : coefK (p :: r) p.1 = p.2 := by simp [coefK]

theorem coefK_tail {p : List Nat × List Nat} {r : LkY} {k : List Nat} (h : ¬ k = p.1) : coefK (p :: r) k = coefK r k := by
  have hb : (p.1 == k) = false := by rw [beq_eq_false_iff_ne]; exact fun e => h e.symm
  unfold coefK
  rw [List.find?_cons, hb]

theorem worthK_ins (ats : List (List Nat)) {k c : List Nat} : ∀ {L : LkY}, Rising L → worthK ats (insK L k c) + val (coefK L k) * prodK k ats = worthK ats L + val c * prodK k ats
  | [], _ => by simp [insK, worthK, coefK, val]
  | p :: r, hL => by
    have hL' := hL
    unfold Rising at hL
    rw [List.pairwise_cons] at hL
    unfold insK
    by_cases h1 : k = p.1
    · rw [if_pos h1]
      subst h1
      rw [coefK_head]
      simp only [worthK]
      omega
    · rw [if_neg h1]
      by_cases h2 : ltK k p.1
      · rw [if_pos h2]
        have hn : hasK (p :: r) k = false := by
          rw [Bool.eq_false_iff]
          intro h
          rw [hasK_iff] at h
          obtain ⟨c', h⟩ := h
          rcases List.mem_cons.1 h with h | h
          · exact h1 (by rw [← h])
          · exact ltK_irrefl _ (ltK_trans h2 (hL.1 _ h))
        rw [coefK_none hn]
        simp only [worthK, val]
        omega
      · rw [if_neg h2, coefK_tail h1]
        have ih := worthK_ins ats (k := k) (c := c) hL.2
        simp only [worthK]
        omega

theorem addE_zero {xs ys : List Nat} (h : addE xs ys = 0) : val (addL xs ys) = val xs + val ys := by
  unfold addE at h
  unfold addL
  split at h
  · rename_i hr
    rw [if_pos hr]
    unfold resE at h
    unfold resL
    split at h
    · rename_i hl
      rw [if_pos hl, val_limbs]
    · simp at h
  · simp at h

theorem mulE_zero {xs ys : List Nat} (h : mulE xs ys = 0) : val (mulL xs ys) = val xs * val ys := by
  unfold mulE at h
  unfold mulL
  split at h
  · rename_i hr
    rw [if_pos hr]
    unfold resE at h
    unfold resL
    split at h
    · rename_i hl
      rw [if_pos hl, val_limbs]
    · simp at h
  · simp at h

theorem putE_add {L : LkY} {k c : List Nat} (h : putE L k c = 0) : addE (coefK L k) c = 0 := by
  unfold putE at h
  split at h
  · assumption
  · rename_i h1; exact absurd h h1

theorem worthK_put (ats : List (List Nat)) {L : LkY} {k c : List Nat} (hL : Rising L) (h : putE L k c = 0) : worthK ats (putL L k c) = worthK ats L + val c * prodK k ats := by
  have h1 := putE_add h
  unfold putL
  rw [if_pos h1]
  have h2 := worthK_ins ats (k := k) (c := addL (coefK L k) c) hL
  rw [addE_zero h1, Nat.add_mul] at h2
  omega

theorem rising_putL {L : LkY} {k c : List Nat} (hL : Rising L) : Rising (putL L k c) := by
  unfold putL
  split
  · exact rising_insK hL
  · exact hL

theorem worthK_puts (ats : List (List Nat)) : ∀ {p : List Mn} {L : LkY}, Rising L → (puts L p).2 = 0 → Rising (puts L p).1 ∧ worthK ats (puts L p).1 = worthK ats L + worthN ats p
  | [], L, hL, _ => ⟨hL, rfl⟩
  | m :: p, L, hL, h => by
    unfold puts at h ⊢
    split at h
    · rename_i h0
      rw [if_pos h0]
      obtain ⟨h1, h2⟩ := worthK_puts ats (rising_putL hL) h
      refine ⟨h1, ?_⟩
      rw [h2, worthK_put ats hL h0, worthN, prodW_key]
      omega
    · rename_i h0
      exact absurd h h0

theorem worthN_row (ats : List (List Nat)) : ∀ L : LkY, worthN ats (rowLY L) = worthK ats L
  | [] => rfl
  | p :: L => by
    have ih := worthN_row ats L
    unfold rowLY at ih ⊢
    rw [List.map_cons, worthN, worthK, ih, prodW_unX]

theorem rising_nil : Rising [] := List.Pairwise.nil

theorem worthK_prodIn (ats : List (List Nat)) {m : Mn} (hm : Small m.2) : ∀ {q : List Mn} {L : LkY}, DomM q → Rising L → (prodIn m L q).2 = 0 →
    Rising (prodIn m L q).1 ∧ worthK ats (prodIn m L q).1 = worthK ats L + val m.1 * prodW m.2 ats * worthN ats q
  | [], L, _, hL, _ => ⟨hL, by simp [prodIn, worthN]⟩
  | n :: q, L, hq, hL, h => by
    have hn : Small n.2 := hq 0 n rfl
    have hq' : DomM q := fun k x hx => hq (k + 1) x hx
    unfold prodIn at h ⊢
    split at h
    · rename_i h0
      rw [if_pos h0]
      split at h
      · rename_i h1
        rw [if_pos h1]
        split at h
        · rename_i h2
          rw [if_pos h2]
          obtain ⟨r1, w1⟩ := worthK_prodIn ats hm hq' (rising_putL hL) h
          refine ⟨r1, ?_⟩
          have ek : raisedK (keyX m.2) n.2 = addK (keyX m.2) (keyX n.2) := by
            unfold raisedE at h0
            unfold raisedK
            split at h0
            · rename_i hh; rw [if_pos hh]
            · simp at h0
          have el : (keyX m.2).length = (keyX n.2).length := by rw [keyX_len hm.1, keyX_len hn.1]
          rw [w1, worthK_put ats hL h2, mulE_zero h1, ek, prodK_add _ _ _ el, ← prodW_key, ← prodW_key, worthN, Nat.mul_add]
          have : val m.1 * val n.1 * (prodW m.2 ats * prodW n.2 ats) = val m.1 * prodW m.2 ats * (val n.1 * prodW n.2 ats) := by ac_rfl
          omega
        · rename_i h2; exact absurd h h2
      · rename_i h1; exact absurd h h1
    · rename_i h0; exact absurd h h0

theorem worthK_prods (ats : List (List Nat)) {q : List Mn} (hq : DomM q) : ∀ {p : List Mn} {L : LkY}, DomM p → Rising L → (prods q L p).2 = 0 → worthK ats (prods q L p).1 = worthK ats L + worthN ats p * worthN ats q
  | [], L, _, hL, _ => by simp [prods, worthN]
  | m :: p, L, hp, hL, h => by
    unfold prods at h ⊢
    split at h
    · rename_i h0
      rw [if_pos h0]
      obtain ⟨r1, w1⟩ := worthK_prodIn ats (hp 0 m rfl) hq hL h0
      rw [worthK_prods ats hq (fun k x hx => hp (k + 1) x hx) r1 h, w1, worthN, Nat.add_mul]
      omega
    · rename_i h0; exact absurd h h0

theorem worthN_prod (ats : List (List Nat)) {p q : List Mn} (hp : DomM p) (hq : DomM q) (h : prodE p q = 0) : worthN ats (prodL p q) = worthN ats p * worthN ats q := by
  unfold prodL
  rw [if_pos h, worthN_row, worthK_prods ats hq hp rising_nil h]
  simp [worthK]

theorem RtY.inj {xs ys : List Nat} {n : Nat} (h : RtY xs n) (h' : RtY ys n) : xs = ys := h.1.trans h'.1.symm

end Go.Proofs.YtdjmjhlbjcgoiaaGreatDoor

/- A row of likes is fixed by its totals; when sums and products are too big: plain data. -/
namespace Go.Proofs.YtdjmjhlbjcgoiaaGreatDoor
open Go.RowKit Go.Maps

/-- Terms: a key and a natural each. -/
abbrev Tm := List (List Nat × Nat)

/-- What the terms at a key come to. -/
def tot : Tm → List Nat → Nat
  | [], _ => 0
  | t :: l, k => (if t.1 = k then t.2 else 0) + tot l k

def ofP (p : List Mn) : Tm := p.map fun m => (keyX m.2, val m.1)

def ofL (L : LkY) : Tm := L.map fun q => (q.1, val q.2)

theorem tot_append (l l' : Tm) (k : List Nat) : tot (l ++ l') k = tot l k + tot l' k := by
  induction l with
  | nil => simp [tot]
  | cons t l ih => simp only [List.cons_append, tot, ih]; omega

/-- The likes L hold the totals f, each of them a right natural above 0. -/
structure StY (L : LkY) (f : List Nat → Nat) : Prop where
  rising : Rising L
  right : ∀ q ∈ L, RtY q.2 (val q.2) ∧ 1 ≤ val q.2
  tots : ∀ k, val (coefK L k) = f k

theorem StY.mem {L : LkY} {f : List Nat → Nat} (h : StY L f) (q : List Nat × List Nat) : q ∈ L ↔ 1 ≤ f q.1 ∧ q.2 = limbs (f q.1) := by
  constructor
  · intro hq
    have h1 := coefK_mem (k := q.1) (c := q.2) h.rising hq
    have h2 := h.tots q.1
    rw [h1] at h2
    obtain ⟨h3, h4⟩ := h.right q hq
    rw [← h2]
    exact ⟨h4, h3.1⟩
  · rintro ⟨h1, h2⟩
    cases hk : hasK L q.1 with
    | false =>
      have := h.tots q.1
      rw [coefK_none hk] at this
      simp only [val] at this
      omega
    | true =>
      obtain ⟨c, hc⟩ := hasK_iff.1 hk
      have h3 := coefK_mem h.rising hc
      have h4 := h.tots q.1
      rw [h3] at h4
      have h5 := (h.right _ hc).1.1
      simp only at h5
      rw [h4, ← h2] at h5
      subst h5
      exact hc

theorem rising_eq : ∀ {L L' : LkY}, Rising L → Rising L' → (∀ q, q ∈ L ↔ q ∈ L') → L = L'
  | [], [], _, _, _ => rfl
  | [], b :: l', _, _, h => absurd ((h b).2 (by simp)) (by simp)
  | a :: l, [], _, _, h => absurd ((h a).1 (by simp)) (by simp)
  | a :: l, b :: l', hL, hL', h => by
    unfold Rising at hL hL'
    rw [List.pairwise_cons] at hL hL'
    have hab : a = b := by
      rcases List.mem_cons.1 ((h a).1 (by simp)) with e | ha
      · exact e
      · rcases List.mem_cons.1 ((h b).2 (by simp)) with e | hb
        · exact e.symm
        · exact absurd (ltK_trans (hL.1 b hb) (hL'.1 a ha)) (ltK_irrefl _)
    subst hab
    have hn : a ∉ l := fun ha => ltK_irrefl _ (hL.1 a ha)
    have hn' : a ∉ l' := fun ha => ltK_irrefl _ (hL'.1 a ha)
    rw [rising_eq hL.2 hL'.2 (fun q => ?_)]
    constructor
    · intro hq
      rcases List.mem_cons.1 ((h q).1 (List.mem_cons_of_mem _ hq)) with rfl | hq'
      · exact absurd hq hn
      · exact hq'
    · intro hq
      rcases List.mem_cons.1 ((h q).2 (List.mem_cons_of_mem _ hq)) with rfl | hq'
      · exact absurd hq hn'
      · exact hq'

/-- The totals fix the likes. -/
theorem StY.eq {L L' : LkY} {f : List Nat → Nat} (h : StY L f) (h' : StY L' f) : L = L' :=
  rising_eq h.rising h'.rising fun q => by rw [h.mem, h'.mem]

/-- Totals that are in bounds: each below bigN, no exponent above 64, at most 256 keys. -/
def OkF (f : List Nat → Nat) : Prop := (∀ k, f k < bigN) ∧ (∀ k, 1 ≤ f k → ∀ x ∈ k, x ≤ 64) ∧ ∀ l : List (List Nat), l.Nodup → (∀ k ∈ l, 1 ≤ f k) → l.length ≤ 256

theorem OkF.mono {f g : List Nat → Nat} (h : OkF g) (hle : ∀ k, f k ≤ g k) : OkF f :=
  ⟨fun k => Nat.lt_of_le_of_lt (hle k) (h.1 k), fun k hk => h.2.1 k (Nat.le_trans hk (hle k)), fun l hn hl => h.2.2 l hn fun k hk => Nat.le_trans (hl k hk) (hle k)⟩

theorem StY.nodup {L : LkY} {f : List Nat → Nat} (h : StY L f) : (L.map (·.1)).Nodup := by
  have := h.rising
  unfold Rising at this
  rw [List.Nodup, List.pairwise_map]
  refine List.Pairwise.imp ?_ this
  intro a b hab e
  rw [e] at hab
  exact ltK_irrefl _ hab

theorem StY.keys {L : LkY} {f : List Nat → Nat} (h : StY L f) (k : List Nat) : k ∈ L.map (·.1) ↔ 1 ≤ f k := by
  rw [List.mem_map]
  constructor
  · rintro ⟨q, hq, rfl⟩
    exact ((h.mem q).1 hq).1
  · intro hk
    exact ⟨(k, limbs (f k)), (h.mem _).2 ⟨hk, rfl⟩, rfl⟩

theorem nodup_length_le {α : Type} [DecidableEq α] : ∀ {l m : List α}, l.Nodup → (∀ x ∈ l, x ∈ m) → l.length ≤ m.length
  | [], _, _, _ => Nat.zero_le _
  | a :: l, m, hn, h => by
    rw [List.nodup_cons] at hn
    have ha := h a (by simp)
    have h1 : l.length ≤ (m.erase a).length := nodup_length_le hn.2 fun x hx => by
      have hne : x ≠ a := fun e => hn.1 (e ▸ hx)
      rw [List.mem_erase_of_ne hne]
      exact h x (List.mem_cons_of_mem _ hx)
    rw [List.length_erase_of_mem ha] at h1
    have : 0 < m.length := List.length_pos_of_mem ha
    simp only [List.length_cons]
    omega

/-- Totals with likes are in bounds just if there are not too many likes, and no exponent is above 64. -/
theorem StY.ok {L : LkY} {f : List Nat → Nat} (h : StY L f) (hl : L.length ≤ 256) (hk : ∀ k, 1 ≤ f k → ∀ x ∈ k, x ≤ 64) : OkF f := by
  refine ⟨fun k => ?_, hk, fun l hn hl2 => ?_⟩
  · by_cases h0 : 1 ≤ f k
    · obtain ⟨q, hq, rfl⟩ := List.mem_map.1 ((h.keys k).2 h0)
      have h1 := (h.right q hq).1
      have h2 := coefK_mem (k := q.1) (c := q.2) h.rising hq
      rw [← h.tots q.1, h2]
      exact h1.2
    · have : f k = 0 := by omega
      rw [this]
      exact rt_nil.2
  · have := nodup_length_le hn fun k hk => (h.keys k).2 (hl2 k hk)
    rw [List.length_map] at this
    omega

theorem OkF.len {L : LkY} {f : List Nat → Nat} (h : OkF f) (hs : StY L f) : L.length ≤ 256 := by
  have := h.2.2 (L.map (·.1)) hs.nodup fun k hk => (hs.keys k).1 hk
  rwa [List.length_map] at this

/-- Totals with one term more. -/
def plus (f : List Nat → Nat) (k : List Nat) (c : Nat) : List Nat → Nat := fun k' => f k' + if k = k' then c else 0

theorem coefK_ins {L : LkY} {k c k' : List Nat} (hL : Rising L) : coefK (insK L k c) k' = if k = k' then c else coefK L k' := by
  by_cases hk : k = k'
  · subst hk
    rw [if_pos rfl]
    exact coefK_mem (rising_insK hL) ((mem_insK hL _).2 (.inl rfl))
  · rw [if_neg hk]
    cases h : hasK L k' with
    | true =>
      obtain ⟨d, hd⟩ := hasK_iff.1 h
      rw [coefK_mem hL hd]
      exact coefK_mem (rising_insK hL) ((mem_insK hL _).2 (.inr ⟨hd, fun e => hk e.symm⟩))
    | false =>
      rw [coefK_none h]
      refine coefK_none ?_
      rw [Bool.eq_false_iff]
      intro h2
      obtain ⟨d, hd⟩ := hasK_iff.1 h2
      rcases (mem_insK hL _).1 hd with e | ⟨hd2, _⟩
      · exact hk (congrArg Prod.fst e).symm
      · rw [hasK_iff.2 ⟨d, hd2⟩] at h
        cases h

theorem StY.coef {L : LkY} {f : List Nat → Nat} (h : StY L f) (k : List Nat) : RtY (coefK L k) (f k) := by
  cases hk : hasK L k with
  | false =>
    have := h.tots k
    rw [coefK_none hk] at this ⊢
    rw [← this]
    exact rt_nil
  | true =>
    obtain ⟨c, hc⟩ := hasK_iff.1 hk
    have h1 := (h.right _ hc).1
    have h2 := h.tots k
    rw [coefK_mem h.rising hc] at h2 ⊢
    rw [← h2]
    exact h1

/-- One term put: either it is in bounds, and the totals have it; or it is not. -/
theorem put_spec {L : LkY} {f : List Nat → Nat} {k c : List Nat} {n : Nat} (h : StY L f) (hc : RtY c n) (hn : 1 ≤ n) (h64 : ∀ x ∈ k, x ≤ 64) (hf : ∀ k, 1 ≤ f k → ∀ x ∈ k, x ≤ 64) :
    (putE L k c = 0 ∧ OkF (plus f k n) ∧ StY (putL L k c) (plus f k n)) ∨ (putE L k c = 2 ∧ ¬ OkF (plus f k n)) := by
  have hf2 : ∀ k', 1 ≤ plus f k n k' → ∀ x ∈ k', x ≤ 64 := by
    intro k' hk'
    unfold plus at hk'
    by_cases e : k = k'
    · subst e; exact h64
    · rw [if_neg e, Nat.add_zero] at hk'; exact hf k' hk'
  have hpk : plus f k n k = f k + n := by unfold plus; rw [if_pos rfl]
  by_cases hb : f k + n < bigN
  · obtain ⟨e1, r1⟩ := add_ok (h.coef k) hc hb
    have hs : StY (insK L k (addL (coefK L k) c)) (plus f k n) := by
      refine ⟨rising_insK h.rising, fun q hq => ?_, fun k' => ?_⟩
      · rcases (mem_insK h.rising q).1 hq with rfl | ⟨hq2, _⟩
        · simp only
          rw [r1.val]
          exact ⟨r1, by omega⟩
        · exact h.right q hq2
      · rw [coefK_ins h.rising]
        unfold plus
        by_cases e : k = k'
        · subst e
          rw [if_pos rfl, if_pos rfl, r1.val]
        · rw [if_neg e, if_neg e, h.tots k', Nat.add_zero]
    unfold putE putL
    rw [if_pos e1, if_pos e1]
    by_cases hl : (insK L k (addL (coefK L k) c)).length ≤ 256
    · rw [if_pos hl]
      exact .inl ⟨rfl, hs.ok hl hf2, hs⟩
    · rw [if_neg hl]
      exact .inr ⟨rfl, fun ho => hl (ho.len hs)⟩
  · obtain ⟨e1, _⟩ := add_no (h.coef k) hc (by omega)
    unfold putE
    rw [if_neg (by rw [e1]; decide), e1]
    refine .inr ⟨rfl, fun ho => ?_⟩
    have := ho.1 k
    rw [hpk] at this
    exact hb this

/-- Monomials put one after the other. -/
theorem puts_spec : ∀ {p : List Mn} {L : LkY} {f : List Nat → Nat}, (∀ m ∈ p, GoodM m) → DomM p → StY L f → OkF f →
    ((puts L p).2 = 0 ∧ OkF (fun k => f k + tot (ofP p) k) ∧ StY (puts L p).1 (fun k => f k + tot (ofP p) k)) ∨ ((puts L p).2 = 2 ∧ ¬ OkF (fun k => f k + tot (ofP p) k))
  | [], L, f, _, _, h, ho => .inl ⟨rfl, ho, h⟩
  | m :: p, L, f, hg, hd, h, ho => by
    obtain ⟨g1, g2, g3, _⟩ := hg m (by simp)
    have hsm : Small m.2 := hd 0 m rfl
    have hk64 : ∀ x ∈ keyX m.2, x ≤ 64 := fun x hx => by
      obtain ⟨j, hj⟩ := List.mem_iff_getElem?.1 hx
      exact keyX_le hsm j x hj
    have efun : (fun k => f k + tot (ofP (m :: p)) k) = fun k => plus f (keyX m.2) (val m.1) k + tot (ofP p) k := by
      funext k
      simp only [ofP, List.map_cons, tot, plus]
      omega
    rw [efun]
    rcases put_spec (k := keyX m.2) (c := m.1) (n := val m.1) h (RtY.of g1 g2) (val_pos g1 g2 g3) hk64 ho.2.1 with ⟨e, ho2, hs2⟩ | ⟨e, hno⟩
    · unfold puts
      rw [if_pos e]
      exact puts_spec (fun n hn => hg n (List.mem_cons_of_mem _ hn)) (fun k x hx => hd (k + 1) x hx) hs2 ho2
    · unfold puts
      rw [if_neg (by rw [e]; decide)]
      exact .inr ⟨e, fun hh => hno (hh.mono fun k => Nat.le_add_right _ _)⟩

/-- The terms of a product. -/
def mulT (l r : Tm) : Tm := l.flatMap fun t => r.map fun u => (addK t.1 u.1, t.2 * u.2)

theorem mulT_cons (t : List Nat × Nat) (l r : Tm) : mulT (t :: l) r = (r.map fun u => (addK t.1 u.1, t.2 * u.2)) ++ mulT l r := rfl

theorem prodIn_spec {m : Mn} (hgm : GoodM m) (hm : Small m.2) : ∀ {q : List Mn} {L : LkY} {f : List Nat → Nat}, (∀ n ∈ q, GoodM n) → DomM q → StY L f → OkF f →
    ((prodIn m L q).2 = 0 ∧ OkF (fun k => f k + tot ((ofP q).map fun u => (addK (keyX m.2) u.1, val m.1 * u.2)) k) ∧ StY (prodIn m L q).1 (fun k => f k + tot ((ofP q).map fun u => (addK (keyX m.2) u.1, val m.1 * u.2)) k)) ∨
    ((prodIn m L q).2 = 2 ∧ ¬ OkF (fun k => f k + tot ((ofP q).map fun u => (addK (keyX m.2) u.1, val m.1 * u.2)) k))
  | [], L, f, _, _, h, ho => .inl ⟨rfl, ho, h⟩
  | n :: q, L, f, hg, hd, h, ho => by
    obtain ⟨g1, g2, g3, _⟩ := hg n (by simp)
    obtain ⟨c1, c2, c3, _⟩ := hgm
    have hp1 := val_pos g1 g2 g3
    have hp2 := val_pos c1 c2 c3
    have hpos : 1 ≤ val m.1 * val n.1 := Nat.mul_pos hp2 hp1
    have efun : (fun k => f k + tot ((ofP (n :: q)).map fun u => (addK (keyX m.2) u.1, val m.1 * u.2)) k) = fun k => plus f (addK (keyX m.2) (keyX n.2)) (val m.1 * val n.1) k + tot ((ofP q).map fun u => (addK (keyX m.2) u.1, val m.1 * u.2)) k := by
      funext k
      simp only [ofP, List.map_cons, tot, plus]
      omega
    have hat : plus f (addK (keyX m.2) (keyX n.2)) (val m.1 * val n.1) (addK (keyX m.2) (keyX n.2)) = f (addK (keyX m.2) (keyX n.2)) + val m.1 * val n.1 := by unfold plus; rw [if_pos rfl]
    rw [efun]
    by_cases ha : (addK (keyX m.2) (keyX n.2)).all (fun x => decide (x ≤ 64)) = true
    · have e0 : raisedE (keyX m.2) n.2 = 0 := by unfold raisedE; rw [if_pos ha]
      have ek : raisedK (keyX m.2) n.2 = addK (keyX m.2) (keyX n.2) := by unfold raisedK; rw [if_pos ha]
      have h64 : ∀ x ∈ addK (keyX m.2) (keyX n.2), x ≤ 64 := fun x hx => by simpa using List.all_eq_true.1 ha x hx
      unfold prodIn
      rw [if_pos e0, ek]
      by_cases hb : val m.1 * val n.1 < bigN
      · obtain ⟨e1, r1⟩ := mul_ok (RtY.of c1 c2) (RtY.of g1 g2) hb
        rw [if_pos e1]
        rcases put_spec h r1 hpos h64 ho.2.1 with ⟨e, ho2, hs2⟩ | ⟨e, hno⟩
        · rw [if_pos e]
          exact prodIn_spec ⟨c1, c2, c3, by assumption⟩ hm (fun x hx => hg x (List.mem_cons_of_mem _ hx)) (fun k x hx => hd (k + 1) x hx) hs2 ho2
        · rw [if_neg (by rw [e]; decide)]
          exact .inr ⟨e, fun hh => hno (hh.mono fun k => Nat.le_add_right _ _)⟩
      · obtain ⟨e1, _⟩ := mul_no (RtY.of c1 c2) (RtY.of g1 g2) (by omega)
        rw [if_neg (by rw [e1]; decide)]
        refine .inr ⟨e1, fun hh => ?_⟩
        have h1 := hh.1 (addK (keyX m.2) (keyX n.2))
        simp only at h1
        rw [hat] at h1
        omega
    · have e0 : raisedE (keyX m.2) n.2 = 2 := by unfold raisedE; rw [if_neg ha]
      unfold prodIn
      rw [if_neg (by rw [e0]; decide)]
      refine .inr ⟨e0, fun hh => ha ?_⟩
      rw [List.all_eq_true]
      intro x hx
      have h1 := hh.2.1 (addK (keyX m.2) (keyX n.2)) (by simp only; rw [hat]; omega) x hx
      simpa using h1

theorem prods_spec {q : List Mn} (hgq : ∀ n ∈ q, GoodM n) (hdq : DomM q) : ∀ {p : List Mn} {L : LkY} {f : List Nat → Nat}, (∀ m ∈ p, GoodM m) → DomM p → StY L f → OkF f →
    ((prods q L p).2 = 0 ∧ OkF (fun k => f k + tot (mulT (ofP p) (ofP q)) k) ∧ StY (prods q L p).1 (fun k => f k + tot (mulT (ofP p) (ofP q)) k)) ∨ ((prods q L p).2 = 2 ∧ ¬ OkF (fun k => f k + tot (mulT (ofP p) (ofP q)) k))
  | [], L, f, _, _, h, ho => .inl ⟨rfl, ho, h⟩
  | m :: p, L, f, hg, hd, h, ho => by
    have efun : (fun k => f k + tot (mulT (ofP (m :: p)) (ofP q)) k) = fun k => (f k + tot ((ofP q).map fun u => (addK (keyX m.2) u.1, val m.1 * u.2)) k) + tot (mulT (ofP p) (ofP q)) k := by
      funext k
      have e : ofP (m :: p) = (keyX m.2, val m.1) :: ofP p := rfl
      rw [e, mulT_cons, tot_append]
      simp only
      omega
    rw [efun]
    rcases prodIn_spec (hg m (by simp)) (hd 0 m rfl) hgq hdq h ho with ⟨e, ho2, hs2⟩ | ⟨e, hno⟩
    · unfold prods
      rw [if_pos e]
      exact prods_spec hgq hdq (fun x hx => hg x (List.mem_cons_of_mem _ hx)) (fun k x hx => hd (k + 1) x hx) hs2 ho2
    · unfold prods
      rw [if_neg (by rw [e]; decide)]
      exact .inr ⟨e, fun hh => hno (hh.mono fun k => Nat.le_add_right _ _)⟩

theorem StY.nil : StY [] (fun _ => 0) := ⟨rising_nil, fun q hq => (by cases hq), fun k => rfl⟩

theorem okF_zero : OkF (fun _ => 0) := ⟨fun _ => rt_nil.2, fun k hk => absurd hk (by simp), fun l _ hl => by
  cases l with
  | nil => simp
  | cons a l => exact absurd (hl a (by simp)) (by simp)⟩

theorem Pol.dom {p : List Mn} (h : Pol p) : DomM p := fun _ m hk =>
  ⟨(h.small m (List.mem_of_getElem? hk)).1, fun _ x hj => (h.good (List.mem_of_getElem? hk)).2.2.2 x (List.mem_of_getElem? hj)⟩

/-- Where a product is in bounds, and what it is then. -/
theorem prod_spec {p q : List Mn} (hp : Pol p) (hq : Pol q) :
    (prodE p q = 0 ∧ OkF (tot (mulT (ofP p) (ofP q))) ∧ ∃ L, StY L (tot (mulT (ofP p) (ofP q))) ∧ prodL p q = rowLY L) ∨ (prodE p q = 2 ∧ ¬ OkF (tot (mulT (ofP p) (ofP q))) ∧ prodL p q = []) := by
  have h := prods_spec (fun n hn => hq.good hn) hq.dom (fun m hm => hp.good hm) hp.dom StY.nil okF_zero
  simp only [Nat.zero_add] at h
  rcases h with ⟨e, ho, hs⟩ | ⟨e, hno⟩
  · have e2 : prodE p q = 0 := e
    exact .inl ⟨e, ho, _, hs, by unfold prodL; rw [if_pos e2]⟩
  · have e2 : prodE p q = 2 := e
    exact .inr ⟨e, hno, by unfold prodL; rw [if_neg (by rw [e2]; decide)]⟩

end Go.Proofs.YtdjmjhlbjcgoiaaGreatDoor

/- The row of likes in bounds is a polynomial that Check lets by: plain data. -/
namespace Go.Proofs.YtdjmjhlbjcgoiaaGreatDoor
open Go.RowKit Go.Maps

theorem topK_cons (x : Nat) (a : List Nat) : topK (x :: a) = if topK a = 0 ∧ x = 0 then 0 else topK a + 1 := by
  unfold topK
  rw [List.reverse_cons, List.dropWhile_append]
  by_cases h : (a.reverse.dropWhile (· == 0)).isEmpty = true
  · have h1 : a.reverse.dropWhile (· == 0) = [] := List.isEmpty_iff.1 h
    rw [if_pos h, h1]
    by_cases hx : x = 0
    · subst hx; simp
    · have : (x == 0) = false := by simpa using hx
      simp [List.dropWhile, this, hx]
  · have h1 : ¬ (a.reverse.dropWhile (· == 0)).length = 0 := fun e => h (by rw [List.eq_nil_of_length_eq_zero e]; rfl)
    rw [if_neg h, if_neg (fun hh => h1 hh.1)]
    simp

theorem unX_cons (x : Nat) (a : List Nat) : unX (x :: a) = if topK a = 0 ∧ x = 0 then [] else (x : Int) :: unX a := by
  unfold unX
  rw [topK_cons]
  split
  · rfl
  · rw [List.take_succ_cons, List.map_cons]; rfl

theorem unX_nil_iff (a : List Nat) : unX a = [] ↔ topK a = 0 := by
  cases a with
  | nil => simp [unX, topK]
  | cons x a =>
    rw [unX_cons, topK_cons]
    split
    · simp
    · simp

theorem cmp_trim : ∀ {a b : List Nat}, a.length = b.length → ltK a b → cmpX (unX a) (unX b) < 0
  | [], [], _, h => absurd h (ltK_irrefl _)
  | [], _ :: _, h, _ => by simp at h
  | _ :: _, [], h, _ => by simp at h
  | x :: a, y :: b, hl, h => by
    have hl' : a.length = b.length := by simpa using hl
    unfold ltK cmpK at h
    rw [unX_cons, unX_cons]
    by_cases hxy : x < y
    · rw [if_neg (show ¬ (topK b = 0 ∧ y = 0) by omega)]
      split
      · unfold cmpX; decide
      · unfold cmpX
        rw [if_pos (by omega)]
        decide
    · rw [if_neg hxy] at h
      by_cases hyx : y < x
      · rw [if_pos hyx] at h
        exact absurd h (by decide)
      · rw [if_neg hyx] at h
        have hxe : x = y := by omega
        subst hxe
        have ih := cmp_trim hl' h
        by_cases hb : topK b = 0
        · rw [(unX_nil_iff b).2 hb] at ih
          cases hu : unX a with
          | nil => rw [hu] at ih; exact absurd ih (by decide)
          | cons z r => rw [hu] at ih; exact absurd ih (by unfold cmpX; decide)
        · rw [if_neg (show ¬ (topK b = 0 ∧ x = 0) from fun hh => hb hh.1)]
          split
          · unfold cmpX; decide
          · unfold cmpX
            rw [if_neg (by omega), if_neg (by omega)]
            exact ih

theorem keyX_unX {k : List Nat} (h : k.length = 512) : keyX (unX k) = k := by
  obtain ⟨n, hn⟩ := top_split k
  unfold keyX
  have hlen : (unX k).length = (k.take (topK k)).length := by unfold unX; simp
  have hn2 : 512 - (unX k).length = n := by
    have := congrArg List.length hn
    rw [List.length_append, List.length_replicate, h] at this
    rw [hlen]
    omega
  rw [hn2]
  unfold unX
  rw [map_ofNat]
  exact hn.symm

theorem unX_last (l : List Nat) : (unX l).getLast? ≠ some 0 := by
  induction l with
  | nil => simp [unX]
  | cons x a ih =>
    rw [unX_cons]
    split
    · simp
    · rename_i h
      cases hu : unX a with
      | nil =>
        have := (unX_nil_iff a).1 hu
        simp
        omega
      | cons z r =>
        rw [hu] at ih
        rw [List.getLast?_cons_cons]
        exact ih

theorem StY.row {L : LkY} {f : List Nat → Nat} (h : StY L f) (ho : OkF f) (hk : ∀ q ∈ L, q.1.length = 512) : Pol (rowLY L) ∧ checkE (rowLY L) 9223372036854775807 = 0 ∧ tot (ofP (rowLY L)) = f := by
  have hmem : ∀ m ∈ rowLY L, ∃ q ∈ L, m = (q.2, unX q.1) := by
    intro m hm
    obtain ⟨q, hq, rfl⟩ := List.mem_map.1 hm
    exact ⟨q, hq, rfl⟩
  have hmon : ∀ m ∈ rowLY L, monB m = true := by
    intro m hm
    obtain ⟨q, hq, rfl⟩ := hmem m hm
    obtain ⟨h1, h2⟩ := h.right q hq
    have hne : ¬ q.2.length = 0 := fun e => by
      rw [List.eq_nil_of_length_eq_zero e] at h2
      simp [val] at h2
    have hl := unX_last q.1
    rw [List.getLast?_eq_getElem?] at hl
    rw [monB_yes hne h1.right (fun k x hx => by
      unfold unX at hx
      rw [List.getElem?_map] at hx
      cases hy : (q.1.take (topK q.1))[k]? with
      | none => rw [hy] at hx; simp at hx
      | some y => rw [hy] at hx; simp at hx; subst hx; exact Int.natCast_nonneg y)]
    simp only [Bool.or_eq_true, Bool.not_eq_true', beq_eq_false_iff_ne, ne_eq]
    exact .inr hl
  have hsort : SortedX (rowLY L) := by
    refine sortedX_of fun k m n hm hn => ?_
    unfold rowLY at hm hn
    rw [List.getElem?_map] at hm hn
    cases ha : L[k]? with
    | none => rw [ha] at hm; simp at hm
    | some a =>
      cases hb : L[k + 1]? with
      | none => rw [hb] at hn; simp at hn
      | some b =>
        rw [ha] at hm
        rw [hb] at hn
        simp at hm hn
        subst hm; subst hn
        have hr := h.rising
        unfold Rising at hr
        rw [List.pairwise_iff_getElem] at hr
        obtain ⟨i1, e1⟩ := List.getElem?_eq_some_iff.1 ha
        obtain ⟨i2, e2⟩ := List.getElem?_eq_some_iff.1 hb
        have hlt := hr k (k + 1) i1 i2 (by omega)
        rw [e1, e2] at hlt
        exact cmp_trim (by rw [hk a (List.mem_of_getElem? ha), hk b (List.mem_of_getElem? hb)]) hlt
  have hsm : ∀ m ∈ rowLY L, m.2.length ≤ 512 ∧ ∀ n ∈ m.2, n ≤ 64 := by
    intro m hm
    obtain ⟨q, hq, rfl⟩ := hmem m hm
    refine ⟨?_, fun n hn => ?_⟩
    · unfold unX
      have := hk q hq
      simp only [List.length_map, List.length_take]
      omega
    · simp only at hn
      unfold unX at hn
      obtain ⟨x, hx, rfl⟩ := List.mem_map.1 hn
      have := ho.2.1 q.1 ((h.mem q).1 hq).1 x (List.mem_of_mem_take hx)
      exact Int.ofNat_le.2 this
  have hlim : ∀ m ∈ rowLY L, Lim m.1 := by
    intro m hm
    obtain ⟨q, hq, rfl⟩ := hmem m hm
    simp only
    rw [(h.right q hq).1.1]
    exact limbs_lim _
  have hlen : (rowLY L).length ≤ 256 := by unfold rowLY; rw [List.length_map]; exact ho.len h
  refine ⟨⟨hlim, hmon, hsort, hsm, hlen⟩, (check_iff (by omega)).2 ⟨polyB_iff.2 fun k hkk => ?_, ?_⟩, ?_⟩
  · unfold okAt
    rw [List.getElem?_eq_getElem hkk]
    have hm := List.getElem_mem hkk
    simp only [Bool.and_eq_true, decide_eq_true_eq, Bool.or_eq_true, beq_iff_eq]
    refine ⟨⟨hmon _ hm, ?_⟩, ?_⟩
    · have := (hsm _ hm).1
      omega
    · by_cases h0 : k = 0
      · exact .inl h0
      · right
        have h1 : k - 1 < (rowLY L).length := by omega
        have hs : ∀ {p : List Mn}, SortedX p → ∀ k m n, p[k]? = some m → p[k + 1]? = some n → cmpX m.2 n.2 < 0 := by
          intro p
          induction p with
          | nil => intro _ k m n hm; simp at hm
          | cons a r ih =>
            intro hs k m n hm hn
            cases k with
            | zero =>
              simp at hm
              subst hm
              exact hs.head (by simpa using hn)
            | succ k => exact ih hs.tail k m n (by simpa using hm) (by simpa using hn)
        unfold expsAt
        rw [List.getElem?_eq_getElem hkk, List.getElem?_eq_getElem h1]
        exact hs hsort (k - 1) _ _ (List.getElem?_eq_getElem h1) (by rw [show k - 1 + 1 = k by omega]; exact List.getElem?_eq_getElem hkk)
  · unfold boundsB smallB
    simp only [Bool.and_eq_true, decide_eq_true_eq, List.all_eq_true]
    exact ⟨hlen, hsm⟩
  · funext k
    have key : ∀ {M : LkY}, Rising M → (∀ q ∈ M, q.1.length = 512) → tot (ofP (rowLY M)) k = val (coefK M k) := by
      intro M
      induction M with
      | nil => intro _ _; rfl
      | cons q M ih =>
        intro hr hk2
        have hr' := hr
        unfold Rising at hr
        rw [List.pairwise_cons] at hr
        have e : ofP (rowLY (q :: M)) = (keyX (unX q.1), val q.2) :: ofP (rowLY M) := rfl
        rw [e, tot, ih hr.2 (fun x hx => hk2 x (List.mem_cons_of_mem _ hx)), keyX_unX (hk2 q (by simp))]
        by_cases hq : q.1 = k
        · subst hq
          rw [if_pos rfl, coefK_head]
          have : coefK M q.1 = [] := by
            refine coefK_none ?_
            rw [Bool.eq_false_iff]
            intro hh
            obtain ⟨d, hd⟩ := hasK_iff.1 hh
            exact ltK_irrefl q.1 (hr.1 (q.1, d) hd)
          rw [this]
          simp [val]
        · rw [if_neg hq, coefK_tail (fun e => hq e.symm), Nat.zero_add]
    rw [key h.rising hk, h.tots k]

end Go.Proofs.YtdjmjhlbjcgoiaaGreatDoor

/- Sums and products by their totals: plain data. -/
namespace Go.Proofs.YtdjmjhlbjcgoiaaGreatDoor
open Go.RowKit Go.Maps

theorem cmpX_anti : ∀ {a b : List Int}, cmpX a b < 0 → ¬ cmpX b a < 0
  | [], [], h => by simp [cmpX] at h
  | [], _ :: _, _ => by unfold cmpX; decide
  | _ :: _, [], h => by unfold cmpX at h; exact absurd h (by decide)
  | x :: a, y :: b, h => by
    unfold cmpX at h ⊢
    by_cases h1 : x < y
    · rw [if_neg (by omega), if_pos h1]
      decide
    · rw [if_neg h1] at h
      by_cases h2 : y < x
      · rw [if_pos h2] at h
        exact absurd h (by decide)
      · rw [if_neg h2] at h
        rw [if_neg h2, if_neg h1]
        exact cmpX_anti h

theorem monB_partsX {m : Mn} (h : monB m = true) : m.2.length = 0 ∨ ¬ m.2[m.2.length - 1]? = some 0 := by
  obtain ⟨c, es⟩ := m
  simp only [monB, Bool.and_eq_true, List.all_eq_true, decide_eq_true_eq, Bool.or_eq_true, Bool.not_eq_true', beq_eq_false_iff_ne, ne_eq, beq_iff_eq] at h
  exact h.2

theorem unX_key {m : Mn} (h : monB m = true) (hs : Small m.2) : unX (keyX m.2) = m.2 := by
  have hm := (monB_partsX h)
  refine unX_keyX hs.1 (fun k x hx => (hs.2 k x hx).1) ?_
  by_cases h0 : m.2.length = 0
  · exact .inl h0
  · right
    have hlt : m.2.length - 1 < m.2.length := by omega
    refine ⟨m.2[m.2.length - 1], List.getElem?_eq_getElem hlt, fun e => ?_⟩
    rcases hm with h1 | h1
    · exact h0 h1
    · exact h1 (by rw [List.getElem?_eq_getElem hlt, e])

theorem key_lt {m n : Mn} (hm : monB m = true) (hn : monB n = true) (sm : Small m.2) (sn : Small n.2) (h : cmpX m.2 n.2 < 0) : ltK (keyX m.2) (keyX n.2) := by
  by_cases e : keyX m.2 = keyX n.2
  · have e2 : m.2 = n.2 := by rw [← unX_key hm sm, ← unX_key hn sn, e]
    rw [e2, cmpX_self] at h
    exact absurd h (by decide)
  · by_cases hlt : ltK (keyX m.2) (keyX n.2)
    · exact hlt
    · have h2 := cmp_trim (by rw [keyX_len sm.1, keyX_len sn.1]) (ltK_or e hlt)
      rw [unX_key hm sm, unX_key hn sn] at h2
      exact absurd h2 (cmpX_anti h)

theorem sorted_lt : ∀ {p : List Mn}, Pol p → (p.map fun m => ((keyX m.2, m.1) : List Nat × List Nat)).Pairwise (fun a b => ltK a.1 b.1)
  | [], _ => List.Pairwise.nil
  | m :: p, h => by
    have hp : Pol p := ⟨fun n hn => h.lim n (List.mem_cons_of_mem _ hn), fun n hn => h.mon n (List.mem_cons_of_mem _ hn), h.sort.tail, fun n hn => h.small n (List.mem_cons_of_mem _ hn), by have := h.len; simp at this; omega⟩
    have ih := sorted_lt hp
    rw [List.map_cons, List.pairwise_cons]
    refine ⟨?_, ih⟩
    cases p with
    | nil => intro q hq; simp at hq
    | cons n p =>
      have h1 : ltK (keyX m.2) (keyX n.2) := key_lt (h.mon m (by simp)) (h.mon n (by simp)) (h.dom 0 m rfl) (h.dom 1 n rfl) h.sort.1
      intro q hq
      rw [List.map_cons, List.pairwise_cons] at ih
      rw [List.map_cons] at hq
      rcases List.mem_cons.1 hq with rfl | hq
      · exact h1
      · exact ltK_trans h1 (ih.1 q hq)

/-- A polynomial that Check lets by is the row of its totals. -/
theorem Pol.st {p : List Mn} (h : Pol p) : ∃ L, StY L (tot (ofP p)) ∧ (∀ q ∈ L, q.1.length = 512) ∧ rowLY L = p ∧ OkF (tot (ofP p)) := by
  have hr : Rising (p.map fun m => ((keyX m.2, m.1) : List Nat × List Nat)) := sorted_lt h
  have hrow : rowLY (p.map fun m => ((keyX m.2, m.1) : List Nat × List Nat)) = p := by
    unfold rowLY
    rw [List.map_map]
    conv => rhs; rw [← List.map_id p]
    refine List.map_congr_left fun m hm => ?_
    obtain ⟨k, hk⟩ := List.mem_iff_getElem?.1 hm
    have := unX_key (h.mon m hm) (h.dom k m hk)
    simp only [Function.comp, id]
    rw [this]
  have hlen : ∀ q ∈ p.map fun m => ((keyX m.2, m.1) : List Nat × List Nat), q.1.length = 512 := by
    intro q hq
    obtain ⟨m, hm, rfl⟩ := List.mem_map.1 hq
    obtain ⟨k, hk⟩ := List.mem_iff_getElem?.1 hm
    exact keyX_len (h.dom k m hk).1
  have htot : ∀ k, val (coefK (p.map fun m => ((keyX m.2, m.1) : List Nat × List Nat)) k) = tot (ofP p) k := by
    intro k
    have key : ∀ {M : LkY}, Rising M → tot (ofL M) k = val (coefK M k) := by
      intro M
      induction M with
      | nil => intro _; rfl
      | cons q M ih =>
        intro hr2
        unfold Rising at hr2
        rw [List.pairwise_cons] at hr2
        have e : ofL (q :: M) = (q.1, val q.2) :: ofL M := rfl
        rw [e, tot, ih hr2.2]
        by_cases hq : q.1 = k
        · subst hq
          rw [if_pos rfl, coefK_head]
          have : coefK M q.1 = [] := by
            refine coefK_none ?_
            rw [Bool.eq_false_iff]
            intro hh
            obtain ⟨d, hd⟩ := hasK_iff.1 hh
            exact ltK_irrefl q.1 (hr2.1 (q.1, d) hd)
          rw [this]
          simp [val]
        · rw [if_neg hq, coefK_tail (fun e => hq e.symm), Nat.zero_add]
    rw [← key hr]
    congr 1
    unfold ofL ofP
    rw [List.map_map]
    rfl
  have hst : StY (p.map fun m => ((keyX m.2, m.1) : List Nat × List Nat)) (tot (ofP p)) := by
    refine ⟨hr, fun q hq => ?_, htot⟩
    obtain ⟨m, hm, rfl⟩ := List.mem_map.1 hq
    obtain ⟨g1, g2, g3, _⟩ := h.good hm
    exact ⟨RtY.of g1 g2, val_pos g1 g2 g3⟩
  refine ⟨_, hst, hlen, hrow, hst.ok (by rw [List.length_map]; exact h.len) fun k hk x hx => ?_⟩
  obtain ⟨q, hq, rfl⟩ := List.mem_map.1 ((hst.keys k).2 hk)
  obtain ⟨m, hm, rfl⟩ := List.mem_map.1 hq
  obtain ⟨i, hi⟩ := List.mem_iff_getElem?.1 hm
  obtain ⟨j, hj⟩ := List.mem_iff_getElem?.1 hx
  exact keyX_le (h.dom i m hi) j x hj

end Go.Proofs.YtdjmjhlbjcgoiaaGreatDoor

/- Sums and products: their laws, by their totals: plain data. -/
namespace Go.Proofs.YtdjmjhlbjcgoiaaGreatDoor
open Go.RowKit Go.Maps

/-- Each once. -/
def dd : List (List Nat) → List (List Nat)
  | [] => []
  | a :: l => if a ∈ dd l then dd l else a :: dd l

theorem mem_dd : ∀ {l : List (List Nat)} {x : List Nat}, x ∈ dd l ↔ x ∈ l
  | [], x => by simp [dd]
  | a :: l, x => by
    unfold dd
    split
    · rename_i h
      rw [mem_dd, List.mem_cons]
      constructor
      · exact .inr
      · rintro (rfl | hx)
        · exact mem_dd.1 h
        · exact hx
    · rw [List.mem_cons, List.mem_cons, mem_dd]

theorem nodup_dd : ∀ l : List (List Nat), (dd l).Nodup
  | [] => List.Pairwise.nil
  | a :: l => by
    unfold dd
    split
    · exact nodup_dd l
    · rename_i h
      exact List.nodup_cons.2 ⟨h, nodup_dd l⟩

/-- A sum of terms, each times what a key is worth. -/
def wsum (G : List Nat → Nat) : Tm → Nat
  | [] => 0
  | t :: l => t.2 * G t.1 + wsum G l

def ksum (F : List Nat → Nat) : List (List Nat) → Nat
  | [] => 0
  | k :: K => F k + ksum F K

theorem ksum_add (F G : List Nat → Nat) : ∀ K, ksum (fun k => F k + G k) K = ksum F K + ksum G K
  | [] => rfl
  | k :: K => by unfold ksum; rw [ksum_add F G K]; omega

theorem ksum_none {c : Nat} {a : List Nat} {G : List Nat → Nat} : ∀ {K : List (List Nat)}, a ∉ K → ksum (fun k => (if a = k then c else 0) * G k) K = 0
  | [], _ => rfl
  | k :: K, h => by
    rw [List.mem_cons, not_or] at h
    unfold ksum
    rw [if_neg h.1, ksum_none h.2]
    simp

theorem ksum_one {c : Nat} {a : List Nat} {G : List Nat → Nat} : ∀ {K : List (List Nat)}, K.Nodup → a ∈ K → ksum (fun k => (if a = k then c else 0) * G k) K = c * G a
  | [], _, h => by cases h
  | k :: K, hn, h => by
    rw [List.nodup_cons] at hn
    unfold ksum
    by_cases e : a = k
    · subst e
      rw [if_pos rfl, ksum_none hn.1, Nat.add_zero]
    · rw [if_neg e, ksum_one hn.2 ((List.mem_cons.1 h).resolve_left e)]
      omega

theorem ksum_zero (G : List Nat → Nat) : ∀ K, ksum (fun k => 0 * G k) K = 0
  | [] => rfl
  | k :: K => by unfold ksum; rw [ksum_zero G K]; omega

theorem wsum_ksum (G : List Nat → Nat) {K : List (List Nat)} (hn : K.Nodup) : ∀ {l : Tm}, (∀ t ∈ l, t.1 ∈ K) → wsum G l = ksum (fun k => tot l k * G k) K
  | [], _ => (ksum_zero G K).symm
  | t :: l, h => by
    have e : (fun k => tot (t :: l) k * G k) = fun k => (if t.1 = k then t.2 else 0) * G k + tot l k * G k := by
      funext k
      rw [tot, Nat.add_mul]
    rw [wsum, e, ksum_add, ksum_one hn (h t (by simp)), wsum_ksum G hn fun u hu => h u (List.mem_cons_of_mem _ hu)]

/-- Such a sum goes by the totals alone. -/
theorem wsum_congr (G : List Nat → Nat) {l l' : Tm} (h : tot l = tot l') : wsum G l = wsum G l' := by
  have hm : ∀ t ∈ l ++ l', t.1 ∈ dd ((l ++ l').map (·.1)) := fun t ht => mem_dd.2 (List.mem_map.2 ⟨t, ht, rfl⟩)
  rw [wsum_ksum G (nodup_dd _) fun t ht => hm t (List.mem_append_left _ ht), wsum_ksum G (nodup_dd _) fun t ht => hm t (List.mem_append_right _ ht), h]

theorem tot_scale (a : List Nat) (c : Nat) (k : List Nat) : ∀ r : Tm, tot (r.map fun u => (addK a u.1, c * u.2)) k = c * tot (r.map fun u => (addK a u.1, u.2)) k
  | [] => rfl
  | u :: r => by
    rw [List.map_cons, List.map_cons, tot, tot, tot_scale a c k r, Nat.mul_add]
    simp only
    split
    · rfl
    · simp

theorem tot_mul (r : Tm) (k : List Nat) : ∀ l : Tm, tot (mulT l r) k = wsum (fun a => tot (r.map fun u => (addK a u.1, u.2)) k) l
  | [] => rfl
  | t :: l => by rw [mulT_cons, tot_append, tot_mul r k l, wsum, tot_scale]

theorem mul_congr_left {l l' r : Tm} (h : tot l = tot l') : tot (mulT l r) = tot (mulT l' r) := by
  funext k
  rw [tot_mul, tot_mul, wsum_congr _ h]

theorem addK_comm (a b : List Nat) : addK a b = addK b a := by
  unfold addK
  rw [List.zipWith_comm]
  congr 1
  funext x y
  omega

theorem addK_assoc : ∀ (a b c : List Nat), addK (addK a b) c = addK a (addK b c)
  | [], b, c => by cases b <;> cases c <;> rfl
  | _ :: _, [], c => by cases c <;> rfl
  | _ :: _, _ :: _, [] => rfl
  | x :: a, y :: b, z :: c => by
    have ih := addK_assoc a b c
    unfold addK at ih ⊢
    simp only [List.zipWith_cons_cons]
    rw [ih, Nat.add_assoc]

theorem mulT_cons_right (t : List Nat × Nat) (l : Tm) (k : List Nat) : ∀ r : Tm, tot (mulT r (t :: l)) k = tot (r.map fun u => (addK u.1 t.1, u.2 * t.2)) k + tot (mulT r l) k
  | [] => rfl
  | u :: r => by
    rw [mulT_cons, mulT_cons, tot_append, tot_append, mulT_cons_right t l k r, List.map_cons, List.map_cons, tot, tot]
    omega

theorem mulT_nil_right : ∀ r : Tm, mulT r [] = []
  | [] => rfl
  | u :: r => by rw [mulT_cons, mulT_nil_right r]; rfl

theorem mul_comm_tot : ∀ l r : Tm, tot (mulT l r) = tot (mulT r l)
  | [], r => by rw [mulT_nil_right]; rfl
  | t :: l, r => by
    funext k
    rw [mulT_cons, tot_append, mulT_cons_right, mul_comm_tot l r]
    congr 2
    refine List.map_congr_left fun u _ => ?_
    rw [addK_comm, Nat.mul_comm]

theorem mul_congr_right {l r r' : Tm} (h : tot r = tot r') : tot (mulT l r) = tot (mulT l r') := by
  rw [mul_comm_tot l r, mul_comm_tot l r', mul_congr_left h]

theorem mulT_append (l l' r : Tm) : mulT (l ++ l') r = mulT l r ++ mulT l' r := by
  unfold mulT
  rw [List.flatMap_append]

theorem mulT_map (t : List Nat × Nat) (c : Tm) : ∀ b : Tm, mulT (b.map fun u => (addK t.1 u.1, t.2 * u.2)) c = (mulT b c).map fun u => (addK t.1 u.1, t.2 * u.2)
  | [] => rfl
  | u :: b => by
    rw [List.map_cons, mulT_cons, mulT_cons, List.map_append, mulT_map t c b, List.map_map]
    congr 1
    refine List.map_congr_left fun v _ => ?_
    simp only [Function.comp]
    rw [addK_assoc, Nat.mul_assoc]

theorem mulT_assoc (b c : Tm) : ∀ a : Tm, mulT (mulT a b) c = mulT a (mulT b c)
  | [] => rfl
  | t :: a => by rw [mulT_cons, mulT_append, mulT_assoc b c a, mulT_map, mulT_cons]

theorem keysLe_puts : ∀ {p : List Mn} {L : LkY}, DomM p → KeysLe L → KeysLe (puts L p).1
  | [], L, _, h => h
  | m :: p, L, hd, h => by
    have hk : (keyX m.2).length = 512 ∧ ∀ x ∈ keyX m.2, x ≤ 64 := ⟨keyX_len (hd 0 m rfl).1, fun x hx => by
      obtain ⟨j, hj⟩ := List.mem_iff_getElem?.1 hx
      exact keyX_le (hd 0 m rfl) j x hj⟩
    unfold puts
    split
    · exact keysLe_puts (fun k x hx => hd (k + 1) x hx) (keysLe_putL h hk)
    · exact keysLe_putL h hk

theorem keysLe_nil : KeysLe [] := fun q hq => by cases hq

theorem prod_yes {p q : List Mn} (hp : Pol p) (hq : Pol q) (ho : OkF (tot (mulT (ofP p) (ofP q)))) : prodE p q = 0 ∧ Pol (prodL p q) ∧ checkE (prodL p q) 9223372036854775807 = 0 ∧ tot (ofP (prodL p q)) = tot (mulT (ofP p) (ofP q)) := by
  have h := prods_spec (fun n hn => hq.good hn) hq.dom (fun m hm => hp.good hm) hp.dom StY.nil okF_zero
  simp only [Nat.zero_add] at h
  rcases h with ⟨e, _, hs⟩ | ⟨_, hno⟩
  · have hk : ∀ x ∈ (prods q [] p).1, x.1.length = 512 := fun x hx => (keysLe_prods hq.dom hp.dom keysLe_nil x hx).1
    obtain ⟨r1, r2, r3⟩ := hs.row ho hk
    have e2 : prodE p q = 0 := e
    have e3 : prodL p q = rowLY (prods q [] p).1 := by unfold prodL; rw [if_pos e2]
    rw [e3]
    exact ⟨e, r1, r2, r3⟩
  · exact absurd ho hno

theorem prod_no {p q : List Mn} (hp : Pol p) (hq : Pol q) (ho : ¬ OkF (tot (mulT (ofP p) (ofP q)))) : prodE p q = 2 ∧ prodL p q = [] := by
  rcases prod_spec hp hq with ⟨_, h, _⟩ | ⟨e, _, h⟩
  · exact absurd h ho
  · exact ⟨e, h⟩

/-- The totals fix the polynomial. -/
theorem Pol.eq {p q : List Mn} (hp : Pol p) (hq : Pol q) (h : tot (ofP p) = tot (ofP q)) : p = q := by
  obtain ⟨L, s1, _, r1, _⟩ := hp.st
  obtain ⟨M, s2, _, r2, _⟩ := hq.st
  rw [← h] at s2
  rw [← r1, ← r2, s1.eq s2]

theorem addP_of {p q : List Mn} (hp : checkE p 9223372036854775807 = 0) (hq : checkE q 9223372036854775807 = 0) : addPE p q = sumE p q ∧ addPL p q = sumL p q ∧ mulPE p q = prodE p q ∧ mulPL p q = prodL p q := by
  have h := checkAll2_iff.2 ⟨hp, hq⟩
  unfold addPE addPL mulPE mulPL
  rw [if_pos h, if_pos h, if_pos h, if_pos h]
  exact ⟨rfl, rfl, rfl, rfl⟩

/-- A polynomial that Check lets by. -/
def Ch (p : List Mn) : Prop := Pol p ∧ checkE p 9223372036854775807 = 0

end Go.Proofs.YtdjmjhlbjcgoiaaGreatDoor
