/- The document's Add, AtLeast and Greater as plain functions: plain data. -/
import Derived.Test.YtfifgmcjilkigaaPLaid
namespace Go.Proofs.Ytfifgmcjilkigaa
open Go.RowKit Go.Maps

/-- The document's laid. -/
def laidR (p : List Mn) (m : Mn) : Option (List Mn) :=
  if smallR m = true then (match lay m p false with | none => none | some r => if r.length ≤ 256 then some r else none) else none

/-- The document's sum of a row and the monomials of another. -/
def addR : List Mn → List Mn → Option (List Mn)
  | out, [] => some out
  | out, m :: q => match laidR out m with | none => none | some r => addR r q

theorem rowL_length (L : Lk) : (rowL L).length = L.length := by unfold rowL; rw [List.length_map]

theorem small_of {m : Mn} (h : monB m = true) (hs : Small m.2) : smallR m = true := by
  rw [smallR_eq h]
  unfold smallB
  rw [Bool.and_eq_true, decide_eq_true_eq, List.all_eq_true]
  refine ⟨hs.1, fun x hx => ?_⟩
  obtain ⟨j, hj⟩ := List.mem_iff_getElem?.1 hx
  rw [decide_eq_true_eq]
  exact (hs.2 j x hj).2

/-- A monomial laid is a monomial put. -/
theorem laidR_put {L : Lk} {f : List Nat → Nat} {m : Mn} (hs : St L f) (ho : OkF f) (hk : KeysLe L) (hmb : monB m = true) (hsm : Small m.2) (hrt : ∃ n, Rt m.1 n) :
    laidR (rowL L) m = if putE L (keyX m.2) m.1 = 0 then some (rowL (putL L (keyX m.2) m.1)) else none := by
  have hk512 : ∀ x ∈ L, x.1.length = 512 := fun x hx => (hk x hx).1
  obtain ⟨hpol, _, _⟩ := hs.row ho hk512
  have hlay := lay_row hmb hsm hrt hs.rising (fun x hx => ⟨hk512 x hx, hpol.mon _ (List.mem_map.2 ⟨x, hx, rfl⟩)⟩)
  unfold laidR
  rw [if_pos (small_of hmb hsm), hlay]
  unfold putE putL
  by_cases ha : addE (coefK L (keyX m.2)) m.1 = 0
  · rw [if_pos ha, if_pos ha, if_pos ha]
    simp only [rowL_length]
    by_cases hl : (insK L (keyX m.2) (addL (coefK L (keyX m.2)) m.1)).length ≤ 256
    · rw [if_pos hl, if_pos hl, if_pos rfl]
    · rw [if_neg hl, if_neg hl, if_neg (by decide)]
  · rw [if_neg ha, if_neg ha, if_neg ha]

theorem small_key {es : List Int} (h : Small es) : (keyX es).length = 512 ∧ ∀ x ∈ keyX es, x ≤ 64 := by
  refine ⟨keyX_len h.1, fun x hx => ?_⟩
  obtain ⟨j, hj⟩ := List.mem_iff_getElem?.1 hx
  exact keyX_le h j x hj

/-- Monomials laid one after the other are monomials put one after the other. -/
theorem addR_puts : ∀ {q : List Mn} {L : Lk} {f : List Nat → Nat}, (∀ m ∈ q, GoodM m ∧ monB m = true) → DomM q → St L f → OkF f → KeysLe L →
    addR (rowL L) q = if (puts L q).2 = 0 then some (rowL (puts L q).1) else none
  | [], L, f, _, _, _, _, _ => by simp [addR, puts]
  | m :: q, L, f, hg, hd, hs, ho, hk => by
    obtain ⟨⟨g1, g2, g3, g4⟩, hmb⟩ := hg m (by simp)
    have hsm : Small m.2 := hd 0 m rfl
    have hrt : Rt m.1 (val m.1) := Rt.of g1 g2
    have hk64 := small_key hsm
    have hk2 : KeysLe (putL L (keyX m.2) m.1) := keysLe_putL hk hk64
    unfold addR puts
    rw [laidR_put hs ho hk hmb hsm ⟨_, hrt⟩]
    rcases put_spec (k := keyX m.2) (c := m.1) (n := val m.1) hs hrt (val_pos g1 g2 g3) hk64.2 ho.2.1 with ⟨e, ho2, hs2⟩ | ⟨e, _⟩
    · rw [if_pos e, if_pos e]
      exact addR_puts (fun n hn => hg n (List.mem_cons_of_mem _ hn)) (fun k x hx => hd (k + 1) x hx) hs2 ho2 hk2
    · rw [e]
      simp

theorem Pol.both {p : List Mn} (hp : Pol p) : ∀ m ∈ p, GoodM m ∧ monB m = true := fun m hm => ⟨hp.good hm, hp.mon m hm⟩

theorem addR_eq {p q : List Mn} (hp : Pol p) (hq : Pol q) : addR p q = if sumE p q = 0 then some (sumL p q) else none := by
  obtain ⟨L, hs, hk, hr, ho⟩ := hp.st
  have h1 := puts_spec (fun m hm => hp.good hm) hp.dom St.nil okF_zero
  simp only [Nat.zero_add] at h1
  rcases h1 with ⟨e1, _, s1⟩ | ⟨_, hno⟩
  · have eL : L = (puts [] p).1 := hs.eq s1
    have h2 := addR_puts hq.both hq.dom s1 ho (keysLe_puts hp.dom keysLe_nil)
    rw [← eL, hr] at h2
    rw [h2, eL]
    unfold sumL sumE
    rw [if_pos e1]
    by_cases h0 : (puts (puts [] p).1 q).2 = 0
    · rw [if_pos h0, if_pos h0, if_pos h0]
    · rw [if_neg h0, if_neg h0]
  · exact absurd ho hno

/-- The document's coef. -/
def coefR : List Mn → List Int → List Nat
  | [], _ => []
  | x :: r, e => if ordX x.2 e = 0 then x.1 else coefR r e

def atR (p q : List Mn) : Bool := q.all fun m => !decide (cmpV (coefR p m.2) m.1 < 0)

theorem coefR_none {e : List Int} : ∀ {p : List Mn}, (∀ x ∈ p, ¬ ordX x.2 e = 0) → coefR p e = []
  | [], _ => rfl
  | x :: r, h => by
    unfold coefR
    rw [if_neg (h x (by simp)), coefR_none fun y hy => h y (List.mem_cons_of_mem _ hy)]

def Gm (m : Mn) : Prop := monB m = true ∧ Small m.2

theorem gm_lt {m n : Mn} (hm : Gm m) (hn : Gm n) : cmpX m.2 n.2 < 0 ↔ ltK (keyX m.2) (keyX n.2) := by
  refine ⟨fun h => key_lt hm.1 hn.1 hm.2 hn.2 h, fun h => ?_⟩
  have h3 := cmp_trim (by rw [keyX_len hm.2.1, keyX_len hn.2.1]) h
  rw [unX_key hm.1 hm.2, unX_key hn.1 hn.2] at h3
  exact h3

theorem gm_eq {m n : Mn} (hm : Gm m) (hn : Gm n) : ordX m.2 n.2 = 0 ↔ keyX m.2 = keyX n.2 := by
  rw [ordX_cmpX hm.1 hn.1]
  refine ⟨fun h => by rw [cmpX_zero h], fun h => ?_⟩
  have := congrArg unX h
  rw [unX_key hm.1 hm.2, unX_key hn.1 hn.2] at this
  rw [this, cmpX_self]

theorem gm_ne {m n : Mn} (hm : Gm m) (hn : Gm n) (h : ltK (keyX m.2) (keyX n.2)) : ¬ ordX m.2 n.2 = 0 := fun e => by
  rw [(gm_eq hm hn).1 e] at h
  exact ltK_irrefl _ h

theorem gm_ne' {m n : Mn} (hm : Gm m) (hn : Gm n) (h : ltK (keyX n.2) (keyX m.2)) : ¬ ordX m.2 n.2 = 0 := fun e => by
  rw [(gm_eq hm hn).1 e] at h
  exact ltK_irrefl _ h

def Gp (p : List Mn) : Prop := (∀ m ∈ p, Gm m) ∧ p.Pairwise (fun a b => ltK (keyX a.2) (keyX b.2))

theorem Gp.tail {m : Mn} {p : List Mn} (h : Gp (m :: p)) : Gp p := ⟨fun x hx => h.1 x (List.mem_cons_of_mem _ hx), (List.pairwise_cons.1 h.2).2⟩

theorem Gp.left {m : Mn} : ∀ {p : List Mn}, Gp p → Gp (leftP m p)
  | [], h => h
  | x :: r, h => by
    unfold leftP
    split
    · exact Gp.left h.tail
    · exact h

theorem Pol.gp {p : List Mn} (h : Pol p) : Gp p := by
  refine ⟨fun m hm => ⟨h.mon m hm, ?_⟩, ?_⟩
  · obtain ⟨j, hj⟩ := List.mem_iff_getElem?.1 hm
    exact h.dom j m hj
  · have := sorted_lt h
    rw [List.pairwise_map] at this
    exact this

theorem coefR_left {m n : Mn} (hm : Gm m) (hn : Gm n) (hle : keyX m.2 = keyX n.2 ∨ ltK (keyX m.2) (keyX n.2)) : ∀ {p : List Mn}, Gp p → coefR (leftP m p) n.2 = coefR p n.2
  | [], _ => rfl
  | x :: r, h => by
    have hx := h.1 x (by simp)
    unfold leftP
    by_cases hc : cmpX x.2 m.2 < 0
    · rw [if_pos hc, coefR_left hm hn hle h.tail]
      have h1 := (gm_lt hx hm).1 hc
      have h2 : ltK (keyX x.2) (keyX n.2) := by
        rcases hle with e | e
        · rw [← e]; exact h1
        · exact ltK_trans h1 e
      rw [show coefR (x :: r) n.2 = coefR r n.2 by rw [coefR, if_neg (gm_ne hx hn h2)]]
    · rw [if_neg hc]

theorem cmpV_swap (a b : List Nat) : 0 < cmpV a b ↔ cmpV b a < 0 := by
  unfold cmpV
  rw [Bool.and_comm (rightB b)]
  split
  · unfold cmpI
    repeat' split
    all_goals omega
  · omega

theorem cmpV_nil {c : List Nat} {n : Nat} (h : Rt c n) (hn : 1 ≤ n) (hr : rightB c = true) : cmpV [] c < 0 := by
  have e : rightB [] = true := by decide
  have ev : val [] = 0 := rfl
  unfold cmpV
  rw [e, hr, Bool.and_self, if_pos rfl, ev, h.val, cmpI_lt (by omega)]
  decide

theorem leftP_head {m x : Mn} : ∀ {p r : List Mn}, leftP m p = x :: r → ¬ cmpX x.2 m.2 < 0
  | [], _, h => by simp [leftP] at h
  | y :: p, r, h => by
    unfold leftP at h
    by_cases hc : cmpX y.2 m.2 < 0
    · rw [if_pos hc] at h
      exact leftP_head h
    · rw [if_neg hc] at h
      cases h
      exact hc

theorem atGo_eq : ∀ {q p : List Mn}, Gp p → Gp q → (∀ m ∈ q, rightB m.1 = true ∧ ∃ n, Rt m.1 n ∧ 1 ≤ n) → atGo p q = atR p q
  | [], p, _, _, _ => by simp [atGo, atR]
  | m :: q, p, hp, hq, hr => by
    have hm := hq.1 m (by simp)
    obtain ⟨hrm, n, hn, hn1⟩ := hr m (by simp)
    have hc := coefR_left hm hm (.inl rfl) hp
    have hq2 := List.pairwise_cons.1 hq.2
    unfold atGo
    have hat : atR p (m :: q) = ((!decide (cmpV (coefR p m.2) m.1 < 0)) && atR p q) := rfl
    rw [hat]
    cases hl : leftP m p with
    | nil =>
      rw [hl] at hc
      rw [← hc]
      have : cmpV (coefR [] m.2) m.1 < 0 := cmpV_nil hn hn1 hrm
      rw [decide_eq_true this]
      simp
    | cons x r =>
      have hx := (hp.left (m := m))
      rw [hl] at hx hc
      have hgx := hx.1 x (by simp)
      simp only
      by_cases e : x.2 = m.2
      · rw [if_pos e]
        have e0 : ordX x.2 m.2 = 0 := (gm_eq hgx hm).2 (by rw [e])
        rw [← hc, show coefR (x :: r) m.2 = x.1 by rw [coefR, if_pos e0]]
        have ih := atGo_eq hx hq.tail fun y hy => hr y (List.mem_cons_of_mem _ hy)
        have hsame : atR (x :: r) q = atR p q := by
          unfold atR
          refine all_congr' fun y hy => ?_
          have h2 := coefR_left hm (hq.1 y (List.mem_cons_of_mem _ hy)) (.inr (hq2.1 y hy)) hp
          rw [hl] at h2
          rw [h2]
        by_cases hv : 0 < cmpV m.1 x.1
        · rw [if_pos hv, decide_eq_true ((cmpV_swap _ _).1 hv)]
          simp
        · rw [if_neg hv, decide_eq_false (fun h => hv ((cmpV_swap _ _).2 h)), ih, hsame]
          simp
      · rw [if_neg e]
        have hlt : ltK (keyX m.2) (keyX x.2) := by
          refine ltK_or (fun h => e ?_) (fun h => leftP_head hl ((gm_lt hgx hm).2 h))
          have := congrArg unX h
          rw [unX_key hgx.1 hgx.2, unX_key hm.1 hm.2] at this
          exact this
        have : coefR (x :: r) m.2 = [] := by
          refine coefR_none fun y hy => ?_
          rcases List.mem_cons.1 hy with rfl | hy2
          · exact gm_ne' hgx hm hlt
          · exact gm_ne' (hx.1 y hy) hm (ltK_trans hlt ((List.pairwise_cons.1 hx.2).1 y hy2))
        rw [← hc, this, decide_eq_true (cmpV_nil hn hn1 hrm)]
        simp

/-- The document's AtLeast and Greater. -/
def atLeastR (p q : List Mn) : Bool := if checkE p 9223372036854775807 = 0 ∧ checkE q 9223372036854775807 = 0 then atR p q else false

def greaterR (p q : List Mn) : Bool := atLeastR p q && decide (0 < cmpV (coefR p []) (coefR q []))

theorem coefR_const : ∀ {p : List Mn}, Gp p → coefR p [] = constL p
  | [], _ => rfl
  | x :: r, h => by
    have hx := h.1 x (by simp)
    have hz : ∀ y : Mn, Gm y → (ordX y.2 [] = 0 ↔ y.2 = []) := fun y hy => by
      have hn : Gm (y.1, []) := by
        refine ⟨?_, by simp, fun j z hz => (by simp at hz)⟩
        have := monB_parts hy.1
        unfold monB
        rw [this.2.1]
        simpa using this.1
      have := gm_eq (n := (y.1, [])) hy hn
      simp only at this
      rw [this]
      refine ⟨fun e => ?_, fun e => by rw [e]⟩
      have e2 := congrArg unX e
      rw [unX_key hy.1 hy.2, unX_key hn.1 hn.2] at e2
      exact e2
    unfold coefR constL
    by_cases e : x.2 = []
    · rw [if_pos ((hz x hx).2 e)]
      simp [e]
    · rw [if_neg (fun h => e ((hz x hx).1 h))]
      simp only
      rw [if_neg (by simpa using e)]
      refine coefR_none fun y hy h0 => ?_
      have hy0 := (hz y (h.1 y (List.mem_cons_of_mem _ hy))).1 h0
      have hlt := (List.pairwise_cons.1 h.2).1 y hy
      have hc := (gm_lt hx (h.1 y (List.mem_cons_of_mem _ hy))).2 hlt
      rw [hy0] at hc
      cases hx2 : x.2 with
      | nil => exact e hx2
      | cons a l => rw [hx2] at hc; unfold cmpX at hc; exact absurd hc (by decide)

theorem atLeast_eq {p q : List Mn} (hp : checkE p 9223372036854775807 = 0 → Pol p) (hq : checkE q 9223372036854775807 = 0 → Pol q) : atLeastB p q = atLeastR p q := by
  unfold atLeastB atLeastR
  have e : checkAllE [p, q] = 0 ↔ checkE p 9223372036854775807 = 0 ∧ checkE q 9223372036854775807 = 0 := by
    simp only [checkAllE]
    by_cases h1 : checkE p 9223372036854775807 = 0
    · by_cases h2 : checkE q 9223372036854775807 = 0
      · simp [h1, h2]
      · simp [h1, h2]
    · simp [h1]
  by_cases h : checkE p 9223372036854775807 = 0 ∧ checkE q 9223372036854775807 = 0
  · rw [if_pos (e.2 h), if_pos h]
    refine atGo_eq (hp h.1).gp (hq h.2).gp fun m hm => ?_
    obtain ⟨g1, g2, g3, _⟩ := (hq h.2).good hm
    exact ⟨(monB_parts ((hq h.2).mon m hm)).2.1, _, Rt.of g1 g2, val_pos g1 g2 g3⟩
  · rw [if_neg (fun hh => h (e.1 hh)), if_neg h]

theorem greater_eq {p q : List Mn} (hp : checkE p 9223372036854775807 = 0 → Pol p) (hq : checkE q 9223372036854775807 = 0 → Pol q) : greaterB p q = greaterR p q := by
  unfold greaterB greaterR
  rw [atLeast_eq hp hq]
  by_cases h : checkE p 9223372036854775807 = 0 ∧ checkE q 9223372036854775807 = 0
  · rw [coefR_const (hp h.1).gp, coefR_const (hq h.2).gp]
  · have : atLeastR p q = false := by unfold atLeastR; rw [if_neg h]
    rw [this]
    rfl

end Go.Proofs.Ytfifgmcjilkigaa
