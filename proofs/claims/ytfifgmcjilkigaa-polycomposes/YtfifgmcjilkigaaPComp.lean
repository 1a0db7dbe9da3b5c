/- What Compose and Value answer. -/
import Derived.Test.YtfifgmcjilkigaaPWorth
namespace Go.Proofs.Ytfifgmcjilkigaa
open Go.RowKit Go.Maps

def DomM (p : List Mn) : Prop := ∀ (k : Nat) (m : Mn), p[k]? = some m → Small m.2

def KeysLe (L : Lk) : Prop := ∀ p ∈ L, p.1.length = 512 ∧ ∀ x ∈ p.1, x ≤ 64

theorem mem_insK' {L : Lk} {k c : List Nat} {q : List Nat × List Nat} (h : q ∈ insK L k c) : q = (k, c) ∨ q ∈ L := by
  induction L with
  | nil => simp [insK] at h; exact .inl h
  | cons p r ih =>
    unfold insK at h
    split at h
    · rcases List.mem_cons.1 h with h | h
      · exact .inl h
      · exact .inr (by simp [h])
    · split at h
      · rcases List.mem_cons.1 h with h | h
        · exact .inl h
        · exact .inr h
      · rcases List.mem_cons.1 h with h | h
        · exact .inr (by simp [h])
        · rcases ih h with h | h
          · exact .inl h
          · exact .inr (by simp [h])

theorem keysLe_putL {L : Lk} {k c : List Nat} (h : KeysLe L) (hk : k.length = 512 ∧ ∀ x ∈ k, x ≤ 64) : KeysLe (putL L k c) := by
  unfold putL
  split
  · intro q hq
    rcases mem_insK' hq with rfl | hq
    · exact hk
    · exact h q hq
  · exact h

theorem raised_le {ks : List Nat} {es : List Int} (hk : ks.length = 512) (hs : Small es) (h0 : raisedE ks es = 0) : (raisedK ks es).length = 512 ∧ ∀ x ∈ raisedK ks es, x ≤ 64 := by
  refine ⟨len_raised hk hs, ?_⟩
  have ha : (addK ks (keyX es)).all (fun n => decide (n ≤ 64)) = true := by
    unfold raisedE at h0
    split at h0
    · assumption
    · omega
  unfold raisedK
  rw [if_pos ha]
  rw [List.all_eq_true] at ha
  intro x hx
  simpa using ha x hx

theorem keysLe_prodIn {m : Mn} (hm : Small m.2) {q : List Mn} : DomM q → ∀ {L : Lk}, KeysLe L → KeysLe (prodIn m L q).1 := by
  induction q with
  | nil => intro _ L h; exact h
  | cons n r ih =>
    intro hq L h
    have hn : Small n.2 := hq 0 n rfl
    have hr : DomM r := fun k m hk => hq (k + 1) m hk
    unfold prodIn
    split
    · rename_i h0
      have hk := keysLe_putL (c := mulL m.1 n.1) h (raised_le (keyX_len hm.1) hn h0)
      split
      · split
        · exact ih hr hk
        · exact hk
      · exact h
    · exact h

theorem keysLe_prods {q : List Mn} (hq : DomM q) {p : List Mn} : DomM p → ∀ {L : Lk}, KeysLe L → KeysLe (prods q L p).1 := by
  induction p with
  | nil => intro _ L h; exact h
  | cons m r ih =>
    intro hp L h
    have hm : Small m.2 := hp 0 m rfl
    have hr : DomM r := fun k m hk => hp (k + 1) m hk
    unfold prods
    split
    · exact ih hr (keysLe_prodIn hm hq h)
    · exact keysLe_prodIn hm hq h

theorem small_unX {ks : List Nat} (h : ks.length = 512 ∧ ∀ x ∈ ks, x ≤ 64) : Small (unX ks) := by
  refine ⟨by unfold unX; simp; omega, fun k x hk => ?_⟩
  unfold unX at hk
  rw [List.getElem?_map] at hk
  cases hy : (ks.take (topK ks))[k]? with
  | none => rw [hy] at hk; cases hk
  | some y =>
    rw [hy] at hk
    have hy2 := h.2 y (List.mem_of_mem_take (List.mem_of_getElem? hy))
    simp at hk
    omega

theorem domM_row {L : Lk} (h : KeysLe L) : DomM (rowL L) := by
  intro k m hk
  unfold rowL at hk
  rw [List.getElem?_map] at hk
  cases hp : L[k]? with
  | none => rw [hp] at hk; cases hk
  | some p =>
    rw [hp] at hk
    simp at hk
    subst hk
    exact small_unX (h p (List.mem_of_getElem? hp))

theorem domM_nil : DomM [] := fun k m h => by simp at h

theorem domM_prod (p q : List Mn) (hp : DomM p) (hq : DomM q) (h0 : prodE p q = 0) : DomM (prodL p q) := by
  unfold prodL
  rw [if_pos h0]
  exact domM_row (keysLe_prods hq hp (fun p h => by cases h))

theorem timesM : Times Ms DomM prodL prodE 45 := fun v u a b w h h' ha hb =>
  (pprod_any v u a b w h h' ha hb).mono fun _ _ ⟨v', he, ho, hbl⟩ => ⟨v', he, ho.ms, hbl⟩

theorem timesN : Times Sl (fun _ => True) mulL mulE 53 := fun v u a b w h h' _ _ =>
  (mul_any v u a b w h h').mono fun _ _ ⟨v', he, ho, hbl⟩ => ⟨v', he, ho.sl, hbl⟩

theorem enterM : ∀ args w, (callFunc 45 args).run Try.prog w = .ok (.enter 45 args) w := enters_of Try.func45 (by kernel_rfl) rfl
theorem enterN : ∀ args w, (callFunc 53 args).run Try.prog w = .ok (.enter 53 args) w := enters_of Try.func53 (by kernel_rfl) rfl

theorem D_worth {β : Type} {tL : List β → List β → List β} {tE : List β → List β → Int} {D : List β → Prop} (hD : ∀ x y, D x → D y → tE x y = 0 → D (tL x y)) : ∀ (es : List Int) (fs : List (List β)) (c : List β), (∀ f ∈ fs, D f) → D c → (worthGo tL tE es fs c).2 = 0 → D (worthGo tL tE es fs c).1
  | [], _, c, _, hc, _ => by unfold worthGo; exact hc
  | _ :: _, [], c, _, hc, _ => by unfold worthGo; exact hc
  | n :: es, f :: fs, c, hf, hc, h => by
    unfold worthGo at h ⊢
    split at h
    · rename_i h0
      rw [if_pos h0]
      exact D_worth hD es fs c (fun x hx => hf x (by simp [hx])) hc h
    · rename_i h0
      rw [if_neg h0]
      split at h
      · rename_i h1
        rw [if_pos h1]
        split at h
        · rename_i h2
          rw [if_pos h2]
          have hff := hf f (by simp)
          exact D_worth hD es fs _ (fun x hx => hf x (by simp [hx])) (hD _ _ hc (D_pow hD hff _ _ hff h1) h2) h
        · rename_i h2
          exact absurd h h2
      · rename_i h1
        exact absurd h h1

/-- Compose, monomial by monomial. -/
def compGo (args : List (List Mn)) : Lk → List Mn → Lk × Int
  | L, [] => (L, 0)
  | L, m :: r =>
    if (worthV prodL prodE m.2 args [(m.1, [])]).2 = 0 then
      if (puts L (worthV prodL prodE m.2 args [(m.1, [])]).1).2 = 0 then compGo args (puts L (worthV prodL prodE m.2 args [(m.1, [])]).1).1 r
      else puts L (worthV prodL prodE m.2 args [(m.1, [])]).1
    else (L, (worthV prodL prodE m.2 args [(m.1, [])]).2)

def compE (p : List Mn) (args : List (List Mn)) : Int :=
  if checkAllE [p] = 0 then if checkAllE args = 0 then if varsN p ≤ args.length then (compGo args [] p).2 else 21 else checkAllE args else checkAllE [p]
def compL (p : List Mn) (args : List (List Mn)) : List Mn := if compE p args = 0 then rowL (compGo args [] p).1 else []

/-- Value, monomial by monomial. -/
def valGo (at_ : List (List Nat)) : List Nat → List Mn → List Nat × Int
  | t, [] => (t, 0)
  | t, m :: r =>
    if (worthV mulL mulE m.2 at_ m.1).2 = 0 then
      if addE t (worthV mulL mulE m.2 at_ m.1).1 = 0 then valGo at_ (addL t (worthV mulL mulE m.2 at_ m.1).1) r
      else ([], addE t (worthV mulL mulE m.2 at_ m.1).1)
    else ([], (worthV mulL mulE m.2 at_ m.1).2)

def valE (p : List Mn) (at_ : List (List Nat)) : Int :=
  if checkAllE [p] = 0 then if varsN p ≤ at_.length then if at_.all rightB then (valGo at_ [] p).2 else 10 else 21 else checkAllE [p]
def valL (p : List Mn) (at_ : List (List Nat)) : List Nat := if valE p at_ = 0 then (valGo at_ [] p).1 else []

theorem checkAll1 {p : List Mn} (h : checkAllE [p] = 0) : checkE p 9223372036854775807 = 0 := by
  unfold checkAllE at h
  split at h
  · assumption
  · rename_i h1
    exact absurd h h1

theorem checkAll_mem : ∀ {ps : List (List Mn)}, checkAllE ps = 0 → ∀ p ∈ ps, DomM p
  | [], _, p, hp => by cases hp
  | q :: r, h, p, hp => by
    unfold checkAllE at h
    split at h
    · rename_i h1
      rcases List.mem_cons.1 hp with rfl | hp
      · exact small_of_check h1
      · exact checkAll_mem h p hp
    · rename_i h1
      exact absurd h h1

theorem varsN_ge {p : List Mn} : ∀ {k : Nat} {m : Mn}, p[k]? = some m → m.2.length ≤ varsN p := by
  intro k m hk
  have h1 := varsN_step hk
  have h2 : ∀ (l : List Mn) (a : Nat), a ≤ l.foldl (fun a m => max a m.2.length) a := by
    intro l
    induction l with
    | nil => intro a; simp
    | cons x r ih => intro a; simp only [List.foldl_cons]; exact Nat.le_trans (by omega) (ih _)
  have h3 : varsN (p.take (k + 1)) ≤ varsN p := by
    conv => rhs; rw [← List.take_append_drop (k + 1) p]
    unfold varsN
    rw [List.foldl_append]
    exact h2 _ _
  omega

end Go.Proofs.Ytfifgmcjilkigaa
