/- Texts of the proof, one behind the other. -/
import Derived.Test.YtdjmjhlbjcgoiaaGreatDoorOwn11
import Derived.Test.YtdjmjhlbjcgoiaaGreatDoorOwn8
/- The document's Mul as a plain function: plain data. -/
namespace Go.Proofs.YtdjmjhlbjcgoiaaGreatDoor
open Go.RowKit Go.Maps

/-- Exponents added, as far as some place. -/
def addXk (es fs : List Int) (k : Nat) : List Int := (List.range k).map fun i => expI es i + expI fs i

def addX (es fs : List Int) : List Int := addXk es fs (max es.length fs.length)

/-- The document's times. -/
def mulMn (a b : Mn) : Mn := (mulL a.1 b.1, addX a.2 b.2)

def timesB (a b : Mn) : Bool := decide (mulE a.1 b.1 = 0) && smallR (mulMn a b)

/-- The document's products of a monomial, and of monomials, with a row. -/
def mulInR (m : Mn) : List Mn → List Mn → Option (List Mn)
  | out, [] => some out
  | out, n :: q => if timesB m n = true then (match laidR out (mulMn m n) with | none => none | some r => mulInR m r q) else none

def mulR (q : List Mn) : List Mn → List Mn → Option (List Mn)
  | out, [] => some out
  | out, m :: p => match mulInR m out q with | none => none | some r => mulR q r p

theorem addXk_get {es fs : List Int} {k i : Nat} (h : i < k) : (addXk es fs k)[i]? = some (expI es i + expI fs i) := by
  unfold addXk
  rw [List.getElem?_map, List.getElem?_range h]
  rfl

theorem addXk_len (es fs : List Int) (k : Nat) : (addXk es fs k).length = k := by unfold addXk; rw [List.length_map, List.length_range]

theorem addXk_succ (es fs : List Int) (k : Nat) : addXk es fs (k + 1) = addXk es fs k ++ [expI es k + expI fs k] := by
  unfold addXk
  rw [List.range_succ, List.map_append]
  rfl

theorem keyX_exp {es : List Int} {i : Nat} (hi : i < 512) : (keyX es)[i]? = some (expI es i).toNat := by
  unfold expI
  by_cases h : i < es.length
  · obtain ⟨y, hy⟩ : ∃ y, es[i]? = some y := ⟨es[i], List.getElem?_eq_getElem h⟩
    rw [keyX_get hy, hy]
    rfl
  · rw [keyX_high (by omega) hi, List.getElem?_eq_none (by omega)]
    rfl

theorem expI_small {es : List Int} (h : Small es) (i : Nat) : 0 ≤ expI es i ∧ expI es i ≤ 64 := by
  unfold expI
  by_cases hi : i < es.length
  · obtain ⟨y, hy⟩ : ∃ y, es[i]? = some y := ⟨es[i], List.getElem?_eq_getElem hi⟩
    rw [hy]
    exact h.2 i y hy
  · rw [List.getElem?_eq_none (by omega)]
    decide

theorem keyX_addX {es fs : List Int} (he : Small es) (hf : Small fs) : keyX (addX es fs) = addK (keyX es) (keyX fs) := by
  have h1 := he.1
  have h2 := hf.1
  have hl : (addX es fs).length ≤ 512 := by unfold addX; rw [addXk_len]; omega
  have hl2 : (addK (keyX es) (keyX fs)).length = 512 := by unfold addK; rw [List.length_zipWith, keyX_len h1, keyX_len h2]; rfl
  apply List.ext_getElem?
  intro i
  by_cases hi : i < 512
  · rw [keyX_exp hi, addK_get (keyX_exp hi) (keyX_exp hi)]
    obtain ⟨a1, a2⟩ := expI_small he i
    obtain ⟨b1, b2⟩ := expI_small hf i
    by_cases hm : i < max es.length fs.length
    · have : expI (addX es fs) i = expI es i + expI fs i := by
        show ((addX es fs)[i]?).getD 0 = _
        unfold addX
        rw [addXk_get hm]
        rfl
      rw [this]
      congr 1
      omega
    · have e0 : ∀ gs : List Int, gs.length ≤ i → expI gs i = 0 := fun gs hg => by unfold expI; rw [List.getElem?_eq_none hg]; rfl
      rw [e0 (addX es fs) (by unfold addX; rw [addXk_len]; omega), e0 es (by omega), e0 fs (by omega)]
      rfl
  · rw [List.getElem?_eq_none (by rw [keyX_len hl]; omega), List.getElem?_eq_none (by rw [hl2]; omega)]

theorem last_exp {m : Mn} (h : Gm m) (hl : 0 < m.2.length) : 1 ≤ expI m.2 (m.2.length - 1) := by
  have h1 := monB_partsX h.1
  have h2 := (expI_small h.2 (m.2.length - 1)).1
  rcases h1 with h1 | h1
  · omega
  · unfold expI at h2 ⊢
    rw [List.getElem?_eq_getElem (by omega)] at h1 h2 ⊢
    simp only [Option.getD_some] at h2 ⊢
    have : ¬ m.2[m.2.length - 1] = 0 := fun e => h1 (by rw [e])
    omega

theorem mulE_rt {a b : List Nat} {x y : Nat} (ha : RtY a x) (hb : RtY b y) (hx : 1 ≤ x) (hy : 1 ≤ y) (h : mulE a b = 0) : RtY (mulL a b) (x * y) ∧ 1 ≤ x * y := by
  refine ⟨?_, Nat.mul_pos hx hy⟩
  by_cases hb2 : x * y < bigN
  · exact (mul_ok ha hb hb2).2
  · have := (mul_no ha hb (by omega)).1
    rw [this] at h
    exact absurd h (by decide)

/-- A product of two monomials in bounds. -/
theorem times_ok {a b : Mn} (ha : GoodM a ∧ monB a = true) (hb : GoodM b ∧ monB b = true) (sa : Small a.2) (sb : Small b.2) :
    timesB a b = (decide (mulE a.1 b.1 = 0) && decide (raisedE (keyX a.2) b.2 = 0)) ∧ (timesB a b = true → monB (mulMn a b) = true ∧ Small (mulMn a b).2 ∧ (∃ n, RtY (mulMn a b).1 n ∧ 1 ≤ n) ∧ keyX (mulMn a b).2 = raisedK (keyX a.2) b.2 ∧ (mulMn a b).1 = mulL a.1 b.1) := by
  obtain ⟨⟨a1, a2, a3, a4⟩, am⟩ := ha
  obtain ⟨⟨b1, b2, b3, b4⟩, bm⟩ := hb
  have hk := keyX_addX sa sb
  have hlen : (addX a.2 b.2).length ≤ 512 := by
    have h1 := sa.1
    have h2 := sb.1
    unfold addX; rw [addXk_len]; omega
  have hall : (addX a.2 b.2).all (fun n => decide (n ≤ 64)) = true ↔ (addK (keyX a.2) (keyX b.2)).all (fun n => decide (n ≤ 64)) = true := by
    rw [← hk]
    have hn : ∀ (i : Nat) (x : Int), (addX a.2 b.2)[i]? = some x → 0 ≤ x := fun i x hx => by
      have hi := (List.getElem?_eq_some_iff.1 hx).1
      unfold addX at hx hi
      rw [addXk_len] at hi
      rw [addXk_get hi] at hx
      cases hx
      have := (expI_small sa i).1
      have := (expI_small sb i).1
      omega
    rw [List.all_eq_true, List.all_eq_true]
    constructor
    · intro h x hx
      obtain ⟨j, hj⟩ := List.mem_iff_getElem?.1 hx
      have hj2 := (List.getElem?_eq_some_iff.1 hj).1
      rw [keyX_len hlen] at hj2
      rw [keyX_exp hj2] at hj
      cases hj
      unfold expI
      by_cases hi : j < (addX a.2 b.2).length
      · have := h _ (List.getElem_mem hi)
        rw [List.getElem?_eq_getElem hi]
        rw [decide_eq_true_eq] at this ⊢
        simp only [Option.getD_some]
        omega
      · rw [List.getElem?_eq_none (by omega)]
        decide
    · intro h x hx
      obtain ⟨j, hj⟩ := List.mem_iff_getElem?.1 hx
      have h0 := hn j x hj
      have := h _ (List.mem_of_getElem? (keyX_get hj))
      rw [decide_eq_true_eq] at this ⊢
      omega
  have hmul : mulE a.1 b.1 = 0 → (mulL a.1 b.1).length ≤ 64 ∧ rightB (mulL a.1 b.1) = true ∧ mulL a.1 b.1 ≠ [] := by
    intro h
    obtain ⟨r1, r2⟩ := mulE_rt (RtY.of a1 a2) (RtY.of b1 b2) (val_pos a1 a2 a3) (val_pos b1 b2 b3) h
    refine ⟨length_le_of_right r1.right, r1.right, fun e => ?_⟩
    have := r1.val
    rw [e] at this
    have e0 : val [] = 0 := rfl
    omega
  have hB : timesB a b = (decide (mulE a.1 b.1 = 0) && decide (raisedE (keyX a.2) b.2 = 0)) := by
    unfold timesB mulMn smallR raisedE
    by_cases h0 : mulE a.1 b.1 = 0
    · rw [decide_eq_true h0, Bool.true_and, Bool.true_and]
      simp only
      rw [decide_eq_true (hmul h0).1, decide_eq_true hlen, Bool.and_true, Bool.and_true]
      by_cases hc : (addK (keyX a.2) (keyX b.2)).all (fun n => decide (n ≤ 64)) = true
      · rw [hall.2 hc, if_pos hc]
        rfl
      · rw [if_neg hc, Bool.eq_false_iff.2 (fun h => hc (hall.1 h))]
        rfl
    · rw [decide_eq_false h0, Bool.false_and, Bool.false_and]
  refine ⟨hB, fun h => ?_⟩
  rw [hB, Bool.and_eq_true, decide_eq_true_eq, decide_eq_true_eq] at h
  obtain ⟨h0, h1⟩ := h
  have hc : (addK (keyX a.2) (keyX b.2)).all (fun n => decide (n ≤ 64)) = true := by
    unfold raisedE at h1
    split at h1
    · assumption
    · exact absurd h1 (by decide)
  have hsm : Small (mulMn a b).2 := by
    refine ⟨hlen, fun i x hx => ?_⟩
    have hi := (List.getElem?_eq_some_iff.1 hx).1
    have h64 := List.all_eq_true.1 (hall.2 hc) x (List.mem_of_getElem? hx)
    rw [decide_eq_true_eq] at h64
    refine ⟨?_, h64⟩
    unfold mulMn addX at hx hi
    rw [addXk_len] at hi
    simp only at hx
    rw [addXk_get hi] at hx
    cases hx
    have := (expI_small sa i).1
    have := (expI_small sb i).1
    omega
  obtain ⟨r1, r2⟩ := mulE_rt (RtY.of a1 a2) (RtY.of b1 b2) (val_pos a1 a2 a3) (val_pos b1 b2 b3) h0
  refine ⟨?_, hsm, ⟨_, r1, r2⟩, ?_, rfl⟩
  · unfold monB
    rw [Bool.and_eq_true, Bool.and_eq_true, Bool.and_eq_true]
    refine ⟨⟨⟨?_, (hmul h0).2.1⟩, ?_⟩, ?_⟩
    · have := (hmul h0).2.2
      simpa [mulMn] using this
    · rw [List.all_eq_true]
      intro x hx
      obtain ⟨j, hj⟩ := List.mem_iff_getElem?.1 hx
      rw [decide_eq_true_eq]
      exact (hsm.2 j x hj).1
    · by_cases hz : max a.2.length b.2.length = 0
      · have : (mulMn a b).2.length = 0 := by unfold mulMn addX; simp only; rw [addXk_len, hz]
        rw [this]
        rfl
      · have hl : (mulMn a b).2.length = max a.2.length b.2.length := by unfold mulMn addX; simp only; rw [addXk_len]
        have hg : (mulMn a b).2[(mulMn a b).2.length - 1]? = some (expI a.2 (max a.2.length b.2.length - 1) + expI b.2 (max a.2.length b.2.length - 1)) := by
          rw [hl]
          unfold mulMn addX
          simp only
          rw [addXk_get (by omega)]
        rw [hg]
        have p1 := (expI_small sa (max a.2.length b.2.length - 1)).1
        have p2 := (expI_small sb (max a.2.length b.2.length - 1)).1
        have : ¬ expI a.2 (max a.2.length b.2.length - 1) + expI b.2 (max a.2.length b.2.length - 1) = 0 := by
          by_cases hab : b.2.length ≤ a.2.length
          · rw [Nat.max_eq_left hab] at hz p1 p2 ⊢
            have := last_exp ⟨am, sa⟩ (by omega)
            omega
          · rw [Nat.max_eq_right (by omega)] at hz p1 p2 ⊢
            have := last_exp ⟨bm, sb⟩ (by omega)
            omega
        rw [Bool.or_eq_true]
        right
        simpa using this
  · unfold mulMn raisedK
    rw [if_pos hc]
    exact hk

theorem mulInR_prodIn {m : Mn} (hgm : GoodM m ∧ monB m = true) (hm : Small m.2) : ∀ {q : List Mn} {L : LkY} {f : List Nat → Nat}, (∀ n ∈ q, GoodM n ∧ monB n = true) → DomM q → StY L f → OkF f → KeysLe L →
    mulInR m (rowLY L) q = if (prodIn m L q).2 = 0 then some (rowLY (prodIn m L q).1) else none
  | [], L, f, _, _, _, _, _ => by simp [mulInR, prodIn]
  | n :: q, L, f, hg, hd, hs, ho, hk => by
    have hgn := hg n (by simp)
    have hsn : Small n.2 := hd 0 n rfl
    obtain ⟨hB, hT⟩ := times_ok hgm hgn hm hsn
    unfold mulInR prodIn
    by_cases h0 : raisedE (keyX m.2) n.2 = 0
    · by_cases h1 : mulE m.1 n.1 = 0
      · have ht : timesB m n = true := by rw [hB, decide_eq_true h0, decide_eq_true h1]; rfl
        obtain ⟨t1, t2, ⟨x, t3, t4⟩, t5, t6⟩ := hT ht
        have hk64 := small_key t2
        rw [if_pos ht, if_pos h0, if_pos h1, laidR_put hs ho hk t1 t2 ⟨_, t3⟩, t5, t6]
        rw [t5] at hk64
        rw [t6] at t3
        rcases put_spec (k := raisedK (keyX m.2) n.2) (c := mulL m.1 n.1) (n := x) hs t3 t4 hk64.2 ho.2.1 with ⟨e, ho2, hs2⟩ | ⟨e, _⟩
        · rw [if_pos e, if_pos e]
          exact mulInR_prodIn hgm hm (fun y hy => hg y (List.mem_cons_of_mem _ hy)) (fun k y hy => hd (k + 1) y hy) hs2 ho2 (keysLe_putL hk hk64)
        · rw [e]
          simp
      · have ht : ¬ timesB m n = true := by rw [hB, decide_eq_false h1]; simp
        rw [if_neg ht, if_pos h0, if_neg h1, if_neg h1]
    · have ht : ¬ timesB m n = true := by rw [hB, decide_eq_false h0]; simp
      rw [if_neg ht, if_neg h0, if_neg h0]

theorem mulR_prods {q : List Mn} (hq : Pol q) : ∀ {p : List Mn} {L : LkY} {f : List Nat → Nat}, (∀ m ∈ p, GoodM m ∧ monB m = true) → DomM p → StY L f → OkF f → KeysLe L →
    mulR q (rowLY L) p = if (prods q L p).2 = 0 then some (rowLY (prods q L p).1) else none
  | [], L, f, _, _, _, _, _ => by simp [mulR, prods]
  | m :: p, L, f, hg, hd, hs, ho, hk => by
    unfold mulR prods
    rw [mulInR_prodIn (hg m (by simp)) (hd 0 m rfl) hq.both hq.dom hs ho hk]
    rcases prodIn_spec (hg m (by simp)).1 (hd 0 m rfl) (fun n hn => hq.good hn) hq.dom hs ho with ⟨e, ho2, hs2⟩ | ⟨e, hno⟩
    · rw [if_pos e, if_pos e]
      exact mulR_prods hq (fun y hy => hg y (List.mem_cons_of_mem _ hy)) (fun k y hy => hd (k + 1) y hy) hs2 ho2 (keysLe_prodIn (hd 0 m rfl) hq.dom hk)
    · have hne : ¬ (prodIn m L q).2 = 0 := by rw [e]; decide
      rw [if_neg hne, if_neg hne, if_neg hne]

theorem mulR_eq {p q : List Mn} (hp : Pol p) (hq : Pol q) : mulR q [] p = if prodE p q = 0 then some (prodL p q) else none := by
  have h := mulR_prods hq hp.both hp.dom StY.nil okF_zero keysLe_nil
  have e : rowLY [] = [] := rfl
  rw [e] at h
  rw [h]
  unfold prodL prodE
  by_cases h0 : (prods q [] p).2 = 0
  · rw [if_pos h0, if_pos h0, if_pos h0]
  · rw [if_neg h0, if_neg h0]

end Go.Proofs.YtdjmjhlbjcgoiaaGreatDoor

/- What the document's multiplying answers. -/
namespace Go.Proofs.YtdjmjhlbjcgoiaaGreatDoor
open Go.RowKit

theorem mul_done {Z : List Nat} {P i m x D E : Nat} (h : val Z + 4294967296 ^ (i + m) * 0 = P * D + 4294967296 ^ i * (x * D)) (hE : E = P + 4294967296 ^ i * x) : val Z = E * D := by
  subst hE
  rw [Nat.add_mul, Nat.mul_assoc]
  simpa using h

theorem cast_sum (C x y z : Nat) : ((C : Int) + z + (x : Int) * y) % 4294967296 = (((C + (x * y + z)) % 4294967296 : Nat) : Int) ∧ ((C : Int) + z + (x : Int) * y) / 4294967296 = (((C + (x * y + z)) / 4294967296 : Nat) : Int) := by
  have e : (C : Int) + z + (x : Int) * y = ((C + (x * y + z) : Nat) : Int) := by
    rw [Int.natCast_add, Int.natCast_add, Int.natCast_mul]; omega
  rw [e, Int.natCast_emod, Int.natCast_ediv]
  exact ⟨rfl, rfl⟩

set_option maxRecDepth 100000 in
set_option maxHeartbeats 2000000 in
theorem refMul_any (v u : Value) (xs ys : List Nat) (w : World) (h : Sl w v xs) (h' : Sl w u ys) :
    Calls Tryz.prog 196 #[v, u] w fun e w' => ∃ v', e = .returned (.tuple #[v', .int .i64 (mulE xs ys)]) ∧ Ow w' w.heap.size v' (mulL xs ys) ∧ Below w.heap.size w w' := by
  obtain ⟨i0, hi, hz0, hz1, hz2⟩ := info_parts info_u32
  go_enter Tryz.func196, Tryz.ntmps196
  go_wp2_with fail
  refine (refRight_anyY v xs _ h).mono ?_
  rintro e w1 ⟨rfl, rfl⟩
  cases hr : rightB xs
  · go_wp2
    go_ret2
    exact ⟨_, ret2i (by simp [mulE, hr]), by simp [mulL, hr]; exact Ow.nil _ _, Below.refl _ _⟩
  go_wp2_with fail
  refine (refRight_anyY u ys _ h').mono ?_
  rintro e w1 ⟨rfl, rfl⟩
  cases hr' : rightB ys
  · go_wp2
    go_ret2
    exact ⟨_, ret2i (by simp [mulE, hr']), by simp [mulL, hr']; exact Ow.nil _ _, Below.refl _ _⟩
  have h64 := length_le_of_right hr
  have h64' := length_le_of_right hr'
  have HE : Hid (mulE xs ys = resE (val xs * val ys)) := by show _ = _; simp [mulE, hr, hr']
  have HLL : Hid (mulL xs ys = resL (val xs * val ys)) := by show _ = _; simp [mulL, hr, hr']
  obtain ⟨ao, cap, rfl, hao, hca, q1⟩ := h.flat
  obtain ⟨bo, cap', rfl, hbo, hcb, q2⟩ := h'.flat
  unfold maxLen at hca hcb
  have HS : Hid (Sl w1 (.slice ao xs.length cap) xs) := h
  have HS' : Hid (Sl w1 (.slice bo ys.length cap') ys) := h'
  clear h h' hr hr' q1 q2
  go_wp2_with (first
    | (at_make; refine wpList_make_full _ rfl _ _ 35 rfl w1.heap.size 38 i0 (.int .u32 0) 1 under_rowY hi hz0 hz1 .i64 .i64 _ _ (xs.length + ys.length + 1) rfl rfl (by omega) (by omega) (by rw [hz2]; omega) (by unfold maxLen; omega) (Nat.le_refl _) ?_; intro w0 hown0 hgrow0))
  have hb0 : Below w1.heap.size w1 w0 := (Below.refl _ _).grown hgrow0 (Nat.le_refl _) (by intro k hk; cases hk)
  have HO : Hid (Ow w0 w1.heap.size (.slice (some ⟨w1.heap.size, 0, none⟩) (xs.length + ys.length + 1) (xs.length + ys.length + 1)) (List.replicate (xs.length + ys.length + 1) 0)) := Ow.made hown0
  clear hown0 hgrow0
  go_loopw [7] (fun i wr => ∃ (k : Nat) (Z : List Nat), k ≤ xs.length ∧ i = .int .i64 k ∧ Z.length = xs.length + ys.length + 1 ∧ val Z = val (xs.take k) * val ys ∧ (∀ p, k + ys.length ≤ p → p < xs.length + ys.length + 1 → Z[p]? = some 0) ∧
      Ow wr w1.heap.size (.slice (some ⟨w1.heap.size, 0, none⟩) (xs.length + ys.length + 1) (xs.length + ys.length + 1)) Z ∧ Below w1.heap.size w1 wr) (fun i _ => xs.length - (intOf i).toNat)
  case atStart => exact ⟨0, List.replicate (xs.length + ys.length + 1) 0, Nat.zero_le _, rfl, by simp, by simp [val, val_replicate_zero], fun p _ hp => by simp [hp], HO.out, hb0⟩
  case round =>
    obtain ⟨k, Z, hk, rfl, hZ, hval, hzero, hown, hbl⟩ := hrel
    have HV : Hid (val Z = val (xs.take k) * val ys) := hval
    have HZ : Hid (Z.length = xs.length + ys.length + 1) := hZ
    have H0 : Hid (∀ p, k + ys.length ≤ p → p < xs.length + ys.length + 1 → Z[p]? = some 0) := hzero
    have HW : Hid (Ow wr w1.heap.size (.slice (some ⟨w1.heap.size, 0, none⟩) (xs.length + ys.length + 1) (xs.length + ys.length + 1)) Z) := hown
    clear hval hZ hzero hown HO hb0
    by_cases hlt : k < xs.length
    · obtain ⟨ga, offa, x, rfl, hx1, hx2, hx3⟩ := HS.out.flat'.2 k hlt
      have HX : Hid (val (xs.take (k + 1)) = val (xs.take k) + 4294967296 ^ k * x) := by
        show _ = _
        rw [take_snoc? hx1, val_snoc, List.length_take, Nat.min_eq_left (by omega)]
      have hga : ga < w1.heap.size := World.block_lt_of_cell? w1 _ hx3
      have HXC : Hid (w1.cell? ⟨ga, offa + k, none⟩ = some (.int .u32 (x : Int))) := hx3
      clear hx1 hx3
      go_wp2
      go_loopw [8, 9] (fun c i wi => ∃ (j C : Nat) (Y : List Nat), i = .int .i64 j ∧ c = .int .u64 C ∧ C < 4294967296 ∧ Y.length = xs.length + ys.length + 1 ∧
          ((j ≤ ys.length ∧ val Y + 4294967296 ^ (k + j) * C = val (xs.take k) * val ys + 4294967296 ^ k * (x * val (ys.take j)) ∧ ∀ p, k + ys.length ≤ p → p < xs.length + ys.length + 1 → Y[p]? = some 0) ∨
           (j = ys.length + 1 ∧ C = 0 ∧ val Y = val (xs.take (k + 1)) * val ys ∧ ∀ p, k + 1 + ys.length ≤ p → p < xs.length + ys.length + 1 → Y[p]? = some 0)) ∧
          Ow wi w1.heap.size (.slice (some ⟨w1.heap.size, 0, none⟩) (xs.length + ys.length + 1) (xs.length + ys.length + 1)) Y ∧ Below w1.heap.size w1 wi) (fun _ i _ => ys.length + 1 - (intOf i).toNat)
      case atStart => exact ⟨0, 0, Z, rfl, rfl, by omega, HZ.out, .inl ⟨Nat.zero_le _, by simp [val, HV.out], H0.out⟩, HW.out, hbl⟩
      case round =>
        obtain ⟨j, C, Y, rfl, rfl, hC, hY, hinv, hyo, hyb⟩ := hrel
        have GZ : Hid (Y.length = xs.length + ys.length + 1) := hY
        have GW : Hid (Ow wr w1.heap.size (.slice (some ⟨w1.heap.size, 0, none⟩) (xs.length + ys.length + 1) (xs.length + ys.length + 1)) Y) := hyo
        clear hY hyo
        rcases hinv with ⟨hj, hyv, hyz⟩ | ⟨hj, hC0, hyv, hyz⟩
        · have GV : Hid (val Y + 4294967296 ^ (k + j) * C = val (xs.take k) * val ys + 4294967296 ^ k * (x * val (ys.take j))) := hyv
          have G0 : Hid (∀ p, k + ys.length ≤ p → p < xs.length + ys.length + 1 → Y[p]? = some 0) := hyz
          clear hyv hyz
          by_cases hjl : j < ys.length
          · obtain ⟨gb, offb, y, rfl, hy1, hy2, hy3⟩ := (HS'.out.later hyb).flat'.2 j hjl
            obtain ⟨z, hz⟩ := exists_get (xs := Y) (k := k + j) (by rw [GZ.out]; omega)
            have hz32 : z < 4294967296 := GW.out.1.get hz
            obtain ⟨hcell, hfr⟩ := GW.out.at hz
            have hxc := (hyb.cell (p := ⟨ga, offa + k, none⟩) hga).trans HXC.out
            obtain ⟨hxyI, hxy0⟩ := mul_prod_leI hx2 hy2
            have KY : Hid (ys.take (j + 1) = ys.take j ++ [y]) := take_snoc? hy1
            have KL : Hid ((ys.take j).length = j) := by show _ = _; simp; omega
            have KZ : Hid (Y[k + j]? = some z) := hz
            clear hy1 hz
            go_wp2
            go_quiet (fail)
            obtain ⟨hsum, hquo⟩ := cast_sum C x y z
            have hp := (GW.out.drewN nq).put (below_drewN hyb nq) (Nat.le_refl _) GZ.out.symm (k := k + j) (z := (C + (x * y + z)) % 4294967296) hsum (by omega) rfl
            have HP : Hid (Ow ((wr.drewN nq).setCell ⟨w1.heap.size, k + j, none⟩ (.int .u32 (((C : Int) + z + (x : Int) * y) % 4294967296))) w1.heap.size (.slice (some ⟨w1.heap.size, 0, none⟩) (xs.length + ys.length + 1) (xs.length + ys.length + 1)) (Y.set (k + j) ((C + (x * y + z)) % 4294967296)) ∧ Below w1.heap.size w1 ((wr.drewN nq).setCell ⟨w1.heap.size, k + j, none⟩ (.int .u32 (((C : Int) + z + (x : Int) * y) % 4294967296)))) := hp
            have HQ : Hid (((C : Int) + z + (x : Int) * y) / 4294967296 = (((C + (x * y + z)) / 4294967296 : Nat) : Int)) := hquo
            clear hp hquo hsum
            go_wp2
            go_roundw
            case rel =>
              refine ⟨j + 1, (C + (x * y + z)) / 4294967296, _, by go_num, by rw [HQ.out], ?_, by rw [List.length_set]; exact GZ.out, .inl ⟨by omega, ?_, ?_⟩, HP.out.1, HP.out.2⟩
              · have hxyN := mul_prod_le hx2 hy2
                omega
              · rw [KY.out, val_snoc, KL.out]
                exact mul_step KZ.out GV.out
              · intro p hp1 hp2
                rw [List.getElem?_set_ne (by omega)]
                exact G0.out p hp1 hp2
            case measure => simp [intOf]; omega
          · have hjm : j = ys.length := by omega
            subst hjm
            have hz := G0.out (k + ys.length) (Nat.le_refl _) (by omega)
            have KZ : Hid (Y[k + ys.length]? = some 0) := hz
            have hv := GV.out
            rw [List.take_length] at hv
            by_cases hC0 : C = 0
            · subst hC0
              have KE : Hid (val Y = val (xs.take (k + 1)) * val ys) := mul_done hv HX.out
              clear hz hv
              go_wp2
              go_roundw
              case rel => exact ⟨k + 1, Y, by omega, by go_num, GZ.out, KE.out, fun p hp1 hp2 => G0.out p (by omega) hp2, GW.out, hyb⟩
              case measure => simp [intOf]; omega
            · have KE : Hid (val (Y.set (k + ys.length) C) = val (xs.take (k + 1)) * val ys) := mul_last hz hv HX.out
              obtain ⟨hcell, hfr⟩ := GW.out.at hz
              have hcell0 : wr.cell? ⟨w1.heap.size, k + ys.length, none⟩ = some (.int .u32 0) := hcell
              have hp := GW.out.put hyb (Nat.le_refl _) GZ.out.symm (k := k + ys.length) (z := C) (V := (C : Int)) rfl hC rfl
              have HP : Hid (Ow (wr.setCell ⟨w1.heap.size, k + ys.length, none⟩ (.int .u32 (C : Int))) w1.heap.size (.slice (some ⟨w1.heap.size, 0, none⟩) (xs.length + ys.length + 1) (xs.length + ys.length + 1)) (Y.set (k + ys.length) C) ∧ Below w1.heap.size w1 (wr.setCell ⟨w1.heap.size, k + ys.length, none⟩ (.int .u32 (C : Int)))) := hp
              clear hp hz hcell hv
              go_wp2
              go_roundw
              case rel =>
                refine ⟨ys.length + 1, 0, _, by go_num, by go_num, by omega, by rw [List.length_set]; exact GZ.out, .inr ⟨rfl, rfl, KE.out, ?_⟩, HP.out.1, HP.out.2⟩
                intro p hp1 hp2
                rw [List.getElem?_set_ne (by omega)]
                exact G0.out p (by omega) hp2
              case measure => simp [intOf]
        · subst hC0
          subst hj
          have GV : Hid (val Y = val (xs.take (k + 1)) * val ys) := hyv
          have G0 : Hid (∀ p, k + 1 + ys.length ≤ p → p < xs.length + ys.length + 1 → Y[p]? = some 0) := hyz
          clear hyv hyz
          go_wp2
          go_roundw
          case rel => exact ⟨k + 1, Y, by omega, by go_num, GZ.out, GV.out, G0.out, GW.out, hyb⟩
          case measure => simp [intOf]; omega
    · have hk' : k = xs.length := by omega
      subst hk'
      have hv := HV.out
      rw [List.take_length] at hv
      have HVZ : Hid (val Z = val xs * val ys) := hv
      clear hv HV H0
      go_wp2_with fail
      refine (told_any _ Z _ _ HW.out).mono ?_
      rintro e w3 ⟨v3, rfl, ho3, hw3⟩
      rw [HVZ.out] at ho3 ⊢
      have hb3 : Below w1.heap.size w1 w3 := by rw [hw3]; exact hbl
      have ho4 : Ow w3 w1.heap.size v3 (resL (val xs * val ys)) := by rw [hw3]; exact ho3
      clear hw3 ho3
      go_wp2
      go_ret2
      exact ⟨_, ret2i HE.out.symm, by rw [HLL.out]; exact ho4, hb3⟩

end Go.Proofs.YtdjmjhlbjcgoiaaGreatDoor
