/- What sums and products are worth: plain data. -/
import Derived.Test.YtfifgmcjilkigaaPGrt
namespace Go.Proofs.Ytfifgmcjilkigaa
open Go.RowKit Go.Maps

/-- The product of the powers at a key. -/
def prodK : List Nat → List (List Nat) → Nat
  | [], _ => 1
  | _ :: _, [] => 1
  | k :: ks, f :: fs => val f ^ k * prodK ks fs

def worthK (ats : List (List Nat)) : Lk → Nat
  | [] => 0
  | p :: L => val p.2 * prodK p.1 ats + worthK ats L

theorem prodK_zeros : ∀ (n : Nat) (fs : List (List Nat)), prodK (List.replicate n 0) fs = 1
  | 0, _ => rfl
  | n + 1, [] => rfl
  | n + 1, f :: fs => by rw [List.replicate_succ, prodK, prodK_zeros n fs]; simp

theorem prodK_pad (n : Nat) : ∀ (ks : List Nat) (fs : List (List Nat)), prodK (ks ++ List.replicate n 0) fs = prodK ks fs
  | [], fs => prodK_zeros n fs
  | k :: ks, [] => rfl
  | k :: ks, f :: fs => by rw [List.cons_append, prodK, prodK, prodK_pad n ks fs]

theorem prodW_map : ∀ (es : List Int) (fs : List (List Nat)), prodW es fs = prodK (es.map Int.toNat) fs
  | [], _ => rfl
  | _ :: _, [] => rfl
  | e :: es, f :: fs => by rw [prodW, List.map_cons, prodK, prodW_map es fs]

theorem prodW_key (es : List Int) (fs : List (List Nat)) : prodW es fs = prodK (keyX es) fs := by
  unfold keyX
  rw [prodK_pad, prodW_map]

theorem top_split (ks : List Nat) : ∃ n, ks = ks.take (topK ks) ++ List.replicate n 0 := by
  have h1 : ks = (ks.reverse.dropWhile (· == 0)).reverse ++ (ks.reverse.takeWhile (· == 0)).reverse := by
    rw [← List.reverse_append, List.takeWhile_append_dropWhile, List.reverse_reverse]
  have h2 : ks.take (topK ks) = (ks.reverse.dropWhile (· == 0)).reverse := by
    unfold topK
    have := congrArg (List.take (ks.reverse.dropWhile (· == 0)).length) h1
    rw [this, List.take_left' (by simp)]
  refine ⟨(ks.reverse.takeWhile (· == 0)).length, ?_⟩
  rw [h2]
  have h3 : (ks.reverse.takeWhile (· == 0)).reverse = List.replicate (ks.reverse.takeWhile (· == 0)).length 0 := by
    rw [List.eq_replicate_iff]
    refine ⟨by simp, fun b hb => ?_⟩
    have := List.mem_reverse.1 hb
    have hall : ∀ (l : List Nat) (x : Nat), x ∈ l.takeWhile (· == 0) → x = 0 := by
      intro l
      induction l with
      | nil => intro x hx; simp at hx
      | cons a l ih =>
        intro x hx
        rw [List.takeWhile_cons] at hx
        split at hx
        · rename_i ha
          rcases List.mem_cons.1 hx with rfl | hx
          · simpa using ha
          · exact ih x hx
        · simp at hx
    exact hall _ b this
  rw [← h3]
  exact h1

theorem map_ofNat (l : List Nat) : (l.map Int.ofNat).map Int.toNat = l := by
  rw [List.map_map]
  conv => rhs; rw [← List.map_id l]
  exact List.map_congr_left fun x _ => rfl

theorem prodW_unX (ks : List Nat) (fs : List (List Nat)) : prodW (unX ks) fs = prodK ks fs := by
  unfold unX
  obtain ⟨n, hn⟩ := top_split ks
  rw [prodW_map, map_ofNat]
  conv => rhs; rw [hn]
  rw [prodK_pad]

theorem prodK_add : ∀ (a b : List Nat) (fs : List (List Nat)), a.length = b.length → prodK (addK a b) fs = prodK a fs * prodK b fs
  | [], [], _, _ => rfl
  | [], _ :: _, _, h => by simp at h
  | _ :: _, [], _, h => by simp at h
  | x :: a, y :: b, [], h => rfl
  | x :: a, y :: b, f :: fs, h => by
    have ih := prodK_add a b fs (by simpa using h)
    unfold addK at ih ⊢
    rw [List.zipWith_cons_cons, prodK, ih, prodK, prodK, Nat.pow_add]
    ac_rfl

theorem coefK_head {p : List Nat × List Nat} {r : Lk} : coefK (p :: r) p.1 = p.2 := by simp [coefK]
theorem coefK_tail {p : List Nat × List Nat} {r : Lk} {k : List Nat} (h : ¬ k = p.1) : coefK (p :: r) k = coefK r k := by
  have hb : (p.1 == k) = false := by rw [beq_eq_false_iff_ne]; exact fun e => h e.symm
  unfold coefK
  rw [List.find?_cons, hb]

theorem worthK_ins (ats : List (List Nat)) {k c : List Nat} : ∀ {L : Lk}, Rising L → worthK ats (insK L k c) + val (coefK L k) * prodK k ats = worthK ats L + val c * prodK k ats
  | [], _ => by simp [insK, worthK, coefK, val]
  | p :: r, hL => by
    have hL' := hL
    unfold Rising at hL
    rw [List.pairwise_cons] at hL
    unfold insK
    by_cases h1 : k = p.1
    · rw [if_pos h1]
      subst h1
      rw [coefK_head]
      simp only [worthK]
      omega
    · rw [if_neg h1]
      by_cases h2 : ltK k p.1
      · rw [if_pos h2]
        have hn : hasK (p :: r) k = false := by
          rw [Bool.eq_false_iff]
          intro h
          rw [hasK_iff] at h
          obtain ⟨c', h⟩ := h
          rcases List.mem_cons.1 h with h | h
          · exact h1 (by rw [← h])
          · exact ltK_irrefl _ (ltK_trans h2 (hL.1 _ h))
        rw [coefK_none hn]
        simp only [worthK, val]
        omega
      · rw [if_neg h2, coefK_tail h1]
        have ih := worthK_ins ats (k := k) (c := c) hL.2
        simp only [worthK]
        omega

theorem addE_zero {xs ys : List Nat} (h : addE xs ys = 0) : val (addL xs ys) = val xs + val ys := by
  unfold addE at h
  unfold addL
  split at h
  · rename_i hr
    rw [if_pos hr]
    unfold resE at h
    unfold resL
    split at h
    · rename_i hl
      rw [if_pos hl, val_limbs]
    · simp at h
  · simp at h

theorem mulE_zero {xs ys : List Nat} (h : mulE xs ys = 0) : val (mulL xs ys) = val xs * val ys := by
  unfold mulE at h
  unfold mulL
  split at h
  · rename_i hr
    rw [if_pos hr]
    unfold resE at h
    unfold resL
    split at h
    · rename_i hl
      rw [if_pos hl, val_limbs]
    · simp at h
  · simp at h

theorem putE_add {L : Lk} {k c : List Nat} (h : putE L k c = 0) : addE (coefK L k) c = 0 := by
  unfold putE at h
  split at h
  · assumption
  · rename_i h1; exact absurd h h1

theorem worthK_put (ats : List (List Nat)) {L : Lk} {k c : List Nat} (hL : Rising L) (h : putE L k c = 0) : worthK ats (putL L k c) = worthK ats L + val c * prodK k ats := by
  have h1 := putE_add h
  unfold putL
  rw [if_pos h1]
  have h2 := worthK_ins ats (k := k) (c := addL (coefK L k) c) hL
  rw [addE_zero h1, Nat.add_mul] at h2
  omega

theorem rising_putL {L : Lk} {k c : List Nat} (hL : Rising L) : Rising (putL L k c) := by
  unfold putL
  split
  · exact rising_insK hL
  · exact hL

theorem worthK_puts (ats : List (List Nat)) : ∀ {p : List Mn} {L : Lk}, Rising L → (puts L p).2 = 0 → Rising (puts L p).1 ∧ worthK ats (puts L p).1 = worthK ats L + worthN ats p
  | [], L, hL, _ => ⟨hL, rfl⟩
  | m :: p, L, hL, h => by
    unfold puts at h ⊢
    split at h
    · rename_i h0
      rw [if_pos h0]
      obtain ⟨h1, h2⟩ := worthK_puts ats (rising_putL hL) h
      refine ⟨h1, ?_⟩
      rw [h2, worthK_put ats hL h0, worthN, prodW_key]
      omega
    · rename_i h0
      exact absurd h h0

theorem worthN_row (ats : List (List Nat)) : ∀ L : Lk, worthN ats (rowL L) = worthK ats L
  | [] => rfl
  | p :: L => by
    have ih := worthN_row ats L
    unfold rowL at ih ⊢
    rw [List.map_cons, worthN, worthK, ih, prodW_unX]

theorem rising_nil : Rising [] := List.Pairwise.nil

theorem worthN_sum (ats : List (List Nat)) {p q : List Mn} (h : sumE p q = 0) : worthN ats (sumL p q) = worthN ats p + worthN ats q := by
  unfold sumL
  rw [if_pos h, worthN_row]
  unfold sumE at h
  split at h
  · rename_i h0
    obtain ⟨r1, w1⟩ := worthK_puts ats rising_nil h0
    obtain ⟨_, w2⟩ := worthK_puts ats r1 h
    rw [w2, w1]
    simp [worthK]
  · rename_i h0; exact absurd h h0

theorem worthK_prodIn (ats : List (List Nat)) {m : Mn} (hm : Small m.2) : ∀ {q : List Mn} {L : Lk}, DomM q → Rising L → (prodIn m L q).2 = 0 →
    Rising (prodIn m L q).1 ∧ worthK ats (prodIn m L q).1 = worthK ats L + val m.1 * prodW m.2 ats * worthN ats q
  | [], L, _, hL, _ => ⟨hL, by simp [prodIn, worthN]⟩
  | n :: q, L, hq, hL, h => by
    have hn : Small n.2 := hq 0 n rfl
    have hq' : DomM q := fun k x hx => hq (k + 1) x hx
    unfold prodIn at h ⊢
    split at h
    · rename_i h0
      rw [if_pos h0]
      split at h
      · rename_i h1
        rw [if_pos h1]
        split at h
        · rename_i h2
          rw [if_pos h2]
          obtain ⟨r1, w1⟩ := worthK_prodIn ats hm hq' (rising_putL hL) h
          refine ⟨r1, ?_⟩
          have ek : raisedK (keyX m.2) n.2 = addK (keyX m.2) (keyX n.2) := by
            unfold raisedE at h0
            unfold raisedK
            split at h0
            · rename_i hh; rw [if_pos hh]
            · simp at h0
          have el : (keyX m.2).length = (keyX n.2).length := by rw [keyX_len hm.1, keyX_len hn.1]
          rw [w1, worthK_put ats hL h2, mulE_zero h1, ek, prodK_add _ _ _ el, ← prodW_key, ← prodW_key, worthN, Nat.mul_add]
          have : val m.1 * val n.1 * (prodW m.2 ats * prodW n.2 ats) = val m.1 * prodW m.2 ats * (val n.1 * prodW n.2 ats) := by ac_rfl
          omega
        · rename_i h2; exact absurd h h2
      · rename_i h1; exact absurd h h1
    · rename_i h0; exact absurd h h0

theorem worthK_prods (ats : List (List Nat)) {q : List Mn} (hq : DomM q) : ∀ {p : List Mn} {L : Lk}, DomM p → Rising L → (prods q L p).2 = 0 → worthK ats (prods q L p).1 = worthK ats L + worthN ats p * worthN ats q
  | [], L, _, hL, _ => by simp [prods, worthN]
  | m :: p, L, hp, hL, h => by
    unfold prods at h ⊢
    split at h
    · rename_i h0
      rw [if_pos h0]
      obtain ⟨r1, w1⟩ := worthK_prodIn ats (hp 0 m rfl) hq hL h0
      rw [worthK_prods ats hq (fun k x hx => hp (k + 1) x hx) r1 h, w1, worthN, Nat.add_mul]
      omega
    · rename_i h0; exact absurd h h0

theorem worthN_prod (ats : List (List Nat)) {p q : List Mn} (hp : DomM p) (hq : DomM q) (h : prodE p q = 0) : worthN ats (prodL p q) = worthN ats p * worthN ats q := by
  unfold prodL
  rw [if_pos h, worthN_row, worthK_prods ats hq hp rising_nil h]
  simp [worthK]

theorem addPE_zero {p q : List Mn} (h : addPE p q = 0) : checkAllE [p, q] = 0 ∧ sumE p q = 0 ∧ addPL p q = sumL p q := by
  unfold addPE at h
  unfold addPL
  split at h
  · rename_i h0; exact ⟨h0, h, if_pos h0⟩
  · rename_i h0; exact absurd h h0

theorem mulPE_zero {p q : List Mn} (h : mulPE p q = 0) : checkAllE [p, q] = 0 ∧ prodE p q = 0 ∧ mulPL p q = prodL p q := by
  unfold mulPE at h
  unfold mulPL
  split at h
  · rename_i h0; exact ⟨h0, h, if_pos h0⟩
  · rename_i h0; exact absurd h h0

theorem Rt.inj {xs ys : List Nat} {n : Nat} (h : Rt xs n) (h' : Rt ys n) : xs = ys := h.1.trans h'.1.symm

theorem value_sum {p q : List Mn} {ats : List (List Nat)} (hl : ∀ m ∈ p, Lim m.1) (hl' : ∀ m ∈ q, Lim m.1) (hs : ∀ m ∈ addPL p q, Lim m.1) (hf : ∀ f ∈ ats, Lim f)
    (hp : valE p ats = 0) (hq : valE q ats = 0) (ha : addPE p q = 0) (hv : valE (addPL p q) ats = 0) : addE (valL p ats) (valL q ats) = 0 ∧ valL (addPL p q) ats = addL (valL p ats) (valL q ats) := by
  have R3 := valL_spec hs hf hv
  obtain ⟨_, h2, h3⟩ := addPE_zero ha
  have e : worthN ats (addPL p q) = worthN ats p + worthN ats q := by rw [h3, worthN_sum ats h2]
  rw [e] at R3
  obtain ⟨e1, r1⟩ := add_ok (valL_spec hl hf hp) (valL_spec hl' hf hq) R3.2
  exact ⟨e1, R3.inj r1⟩

theorem value_prod {p q : List Mn} {ats : List (List Nat)} (hl : ∀ m ∈ p, Lim m.1) (hl' : ∀ m ∈ q, Lim m.1) (hs : ∀ m ∈ mulPL p q, Lim m.1) (hf : ∀ f ∈ ats, Lim f)
    (hp : valE p ats = 0) (hq : valE q ats = 0) (ha : mulPE p q = 0) (hv : valE (mulPL p q) ats = 0) : mulE (valL p ats) (valL q ats) = 0 ∧ valL (mulPL p q) ats = mulL (valL p ats) (valL q ats) := by
  have R3 := valL_spec hs hf hv
  obtain ⟨h1, h2, h3⟩ := mulPE_zero ha
  obtain ⟨c1, c2⟩ := checkAll2_iff.1 h1
  have e : worthN ats (mulPL p q) = worthN ats p * worthN ats q := by rw [h3, worthN_prod ats (small_of_check c1) (small_of_check c2) h2]
  rw [e] at R3
  obtain ⟨e1, r1⟩ := mul_ok (valL_spec hl hf hp) (valL_spec hl' hf hq) R3.2
  exact ⟨e1, R3.inj r1⟩

end Go.Proofs.Ytfifgmcjilkigaa
