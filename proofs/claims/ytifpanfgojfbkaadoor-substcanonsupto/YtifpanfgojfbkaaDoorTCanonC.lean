/- Canon, plainly: it is blind to a renaming, and numbers what it numbered the same again. -/
import Derived.Test.YtifpanfgojfbkaaDoorTCanonB
namespace Go.Proofs.YtifpanfgojfbkaaDoor
open Go.RowKit Go.Maps

/-- A code whose variable has another number. -/
def reC (f : Int → Int) (c : Int) : Int := if c < 0 then -1 - f (-1 - c) else c
def reK (f : Int → Int) (m : Met) : Met := m.map fun p => (f p.1, p.2)

theorem reK_lookup {f : Int → Int} {S : Int → Prop} (hf : ∀ a b, S a → S b → f a = f b → a = b) (n : Int) (hn : S n) : ∀ m : Met, (∀ p ∈ m, S p.1) → (reK f m).lookup (f n) = m.lookup n
  | [], _ => rfl
  | (k, i) :: m, h => by
    show List.lookup (f n) ((f k, i) :: reK f m) = _
    rw [List.lookup_cons, List.lookup_cons]
    have hk := h _ (.head _)
    by_cases e : n = k
    · subst e
      simp
    · rw [show (n == k) = false by simpa using e, show (f n == f k) = false by simp; exact fun e2 => e (hf n k hn hk e2)]
      exact reK_lookup hf n hn m (fun p hp => h p (.tail _ hp))

theorem numN_re {f : Int → Int} {S : Int → Prop} (hf : ∀ a b, S a → S b → f a = f b → a = b) (m : Met) (n : Int) (hm : ∀ p ∈ m, S p.1) (hn : S n) :
    numN (reK f m) (f n) = ((numN m n).1, reK f (numN m n).2) ∧ ∀ p ∈ (numN m n).2, S p.1 := by
  unfold numN
  rw [reK_lookup hf n hn m hm]
  cases m.lookup n with
  | some i => exact ⟨rfl, hm⟩
  | none =>
    refine ⟨by simp [reK], fun p hp => ?_⟩
    cases hp with
    | head => exact hn
    | tail _ hp => exact hm p hp

theorem renG_re {f : Int → Int} {S : Int → Prop} (hf : ∀ a b, S a → S b → f a = f b → a = b) (h0 : ∀ a, S a → 0 ≤ f a) : ∀ (t : List Int) (m : Met), (∀ p ∈ m, S p.1) → (∀ c ∈ t, c < 0 → S (-1 - c)) →
    renG numN (reK f m) (t.map (reC f)) = ((renG numN m t).1, reK f (renG numN m t).2) ∧ ∀ p ∈ (renG numN m t).2, S p.1
  | [], m, hm, _ => ⟨rfl, hm⟩
  | c :: t, m, hm, ht => by
    by_cases hc : c < 0
    · have hs := ht c (.head _) hc
      obtain ⟨e1, e2⟩ := numN_re hf m (-1 - c) hm hs
      obtain ⟨e3, e4⟩ := renG_re hf h0 t (numN m (-1 - c)).2 e2 (fun x hx => ht x (.tail _ hx))
      have hr : reC f c = -1 - f (-1 - c) := by unfold reC; rw [if_pos hc]
      have hneg : -1 - f (-1 - c) < 0 := by have := h0 _ hs; omega
      rw [List.map_cons, hr]
      simp only [renG, if_pos hneg, if_pos hc, show -1 - (-1 - f (-1 - c)) = f (-1 - c) by omega, e1, e3]
      exact ⟨trivial, e4⟩
    · obtain ⟨e3, e4⟩ := renG_re hf h0 t m hm (fun x hx => ht x (.tail _ hx))
      have hr : reC f c = c := by unfold reC; rw [if_neg hc]
      rw [List.map_cons, hr]
      simp only [renG, if_neg hc, e3]
      exact ⟨trivial, e4⟩

theorem canG_re {f : Int → Int} {S : Int → Prop} (hf : ∀ a b, S a → S b → f a = f b → a = b) (h0 : ∀ a, S a → 0 ≤ f a) : ∀ (l : List (List Int)) (m : Met), (∀ p ∈ m, S p.1) → (∀ t ∈ l, ∀ c ∈ t, c < 0 → S (-1 - c)) →
    canG (reK f m) (l.map fun t => t.map (reC f)) = canG m l
  | [], _, _, _ => rfl
  | t :: l, m, hm, hl => by
    obtain ⟨e1, e2⟩ := renG_re hf h0 t m hm (hl t (.head _))
    rw [List.map_cons]
    simp only [canG, e1]
    rw [canG_re hf h0 l _ e2 (fun x hx => hl x (.tail _ hx))]

/-- A row shifted is a row renamed. -/
theorem canL_shift (d : Int) (l : List (List Int)) (hl : ∀ t ∈ l, ∀ c ∈ t, c < 0 → 0 ≤ -1 - c + d) : canL (l.map fun t => t.map fun c => if c < 0 then c - d else c) = canL l := by
  have h := canG_re (f := fun n => n + d) (S := fun n => 0 ≤ n + d) (fun a b _ _ e => by omega) (fun a h => h) l [] (fun p hp => (by cases hp)) hl
  have e : (fun t : List Int => t.map (reC fun n => n + d)) = fun t => t.map fun c => if c < 0 then c - d else c := by
    funext t
    congr 1
    funext c
    unfold reC
    by_cases hc : c < 0
    · rw [if_pos hc, if_pos hc]
      show -1 - (-1 - c + d) = c - d
      omega
    · rw [if_neg hc, if_neg hc]
  rw [e] at h
  exact h

/-- What is met behind all rows. -/
def canS : Met → List (List Int) → Met
  | m, [] => m
  | m, t :: l => canS (renG numN m t).2 l

/-- What one holds the other holds. -/
def Ext (m m' : Met) : Prop := ∀ n i, m.lookup n = some i → m'.lookup n = some i

theorem ext_num (m : Met) (n : Int) : Ext m (numN m n).2 := fun k i hk => by
  unfold numN
  cases hn : m.lookup n with
  | some j => exact hk
  | none =>
    have e : k ≠ n := fun e => by rw [e, hn] at hk; cases hk
    show List.lookup k ((n, (m.length : Int)) :: m) = _
    rw [List.lookup_cons, show (k == n) = false by simpa using e]
    exact hk

theorem val_num (m : Met) (n : Int) : (numN m n).2.lookup n = some (numN m n).1 := by
  unfold numN
  cases hn : m.lookup n with
  | some j => exact hn
  | none =>
    show List.lookup n ((n, (m.length : Int)) :: m) = _
    rw [List.lookup_cons, show (n == n) = true by simp]

theorem ext_ren : ∀ (t : List Int) (m : Met), Ext m (renG numN m t).2
  | [], _ => fun _ _ h => h
  | c :: t, m => fun n i h => by
    unfold renG
    split
    · exact ext_ren t _ n i (ext_num m (-1 - c) n i h)
    · exact ext_ren t m n i h

theorem ext_can : ∀ (l : List (List Int)) (m : Met), Ext m (canS m l)
  | [], _ => fun _ _ h => h
  | t :: l, m => fun n i h => ext_can l _ n i (ext_ren t m n i h)

/-- The number that a variable has in the end. -/
def numF (F : Met) (n : Int) : Int := (F.lookup n).getD 0

theorem ren_map (F : Met) : ∀ (t : List Int) (m : Met), Ext (renG numN m t).2 F → (renG numN m t).1 = t.map (reC (numF F)) ∧ ∀ c ∈ t, c < 0 → (F.lookup (-1 - c)).isSome = true
  | [], _, _ => ⟨rfl, fun c hc => (by cases hc)⟩
  | c :: t, m, h => by
    by_cases hc : c < 0
    · have e : renG numN m (c :: t) = ((-1 - (numN m (-1 - c)).1) :: (renG numN (numN m (-1 - c)).2 t).1, (renG numN (numN m (-1 - c)).2 t).2) := by simp only [renG, if_pos hc]
      rw [e] at h
      obtain ⟨h1, h2⟩ := ren_map F t (numN m (-1 - c)).2 h
      have hv := h _ _ (ext_ren t _ _ _ (val_num m (-1 - c)))
      refine ⟨?_, fun x hx hx0 => ?_⟩
      · rw [e, List.map_cons, ← h1]
        simp only [reC, if_pos hc, numF, hv, Option.getD_some]
      · cases hx with
        | head => rw [hv]; rfl
        | tail _ hx => exact h2 x hx hx0
    · have e : renG numN m (c :: t) = (c :: (renG numN m t).1, (renG numN m t).2) := by simp only [renG, if_neg hc]
      rw [e] at h
      obtain ⟨h1, h2⟩ := ren_map F t m h
      refine ⟨?_, fun x hx hx0 => ?_⟩
      · rw [e, List.map_cons, ← h1]
        simp only [reC, if_neg hc]
      · cases hx with
        | head => exact absurd hx0 hc
        | tail _ hx => exact h2 x hx hx0

theorem can_map (F : Met) : ∀ (l : List (List Int)) (m : Met), Ext (canS m l) F → canG m l = (l.map fun t => t.map (reC (numF F))) ∧ ∀ t ∈ l, ∀ c ∈ t, c < 0 → (F.lookup (-1 - c)).isSome = true
  | [], _, _ => ⟨rfl, fun t ht => (by cases ht)⟩
  | t :: l, m, h => by
    obtain ⟨h1, h2⟩ := can_map F l (renG numN m t).2 h
    obtain ⟨h3, h4⟩ := ren_map F t m (fun n i hn => h n i (ext_can l _ n i hn))
    refine ⟨by rw [List.map_cons, ← h1, ← h3]; rfl, fun x hx => ?_⟩
    cases hx with
    | head => exact h4
    | tail _ hx => exact h2 x hx

/-- Unlike variables have unlike numbers, none below 0, none from the count on. -/
def Apt (m : Met) : Prop := (∀ a b i, m.lookup a = some i → m.lookup b = some i → a = b) ∧ ∀ p ∈ m, 0 ≤ p.2 ∧ p.2 < (m.length : Int)

theorem apt_num {m : Met} (h : Apt m) (n : Int) : Apt (numN m n).2 := by
  refine ⟨?_, (numN_in h.2).2⟩
  unfold numN
  cases hn : m.lookup n with
  | some j => exact h.1
  | none =>
    intro a b i ha hb
    rw [List.lookup_cons] at ha hb
    by_cases ea : a = n
    · by_cases eb : b = n
      · rw [ea, eb]
      · subst ea
        rw [show (b == a) = false by simpa using eb] at hb
        simp at ha
        have := h.2 _ (lookup_mem hb)
        simp only at this
        omega
    · rw [show (a == n) = false by simpa using ea] at ha
      by_cases eb : b = n
      · subst eb
        simp at hb
        have := h.2 _ (lookup_mem ha)
        simp only at this
        omega
      · rw [show (b == n) = false by simpa using eb] at hb
        exact h.1 a b i ha hb

theorem apt_ren : ∀ (t : List Int) (m : Met), Apt m → Apt (renG numN m t).2
  | [], _, h => h
  | c :: t, m, h => by
    unfold renG
    split
    · exact apt_ren t _ (apt_num h _)
    · exact apt_ren t m h

theorem apt_can : ∀ (l : List (List Int)) (m : Met), Apt m → Apt (canS m l)
  | [], _, h => h
  | t :: l, m, h => apt_can l _ (apt_ren t m h)

/-- Canon of what Canon numbered is the same. -/
theorem canL_again (l : List (List Int)) : canL (canL l) = canL l := by
  have hA : Apt (canS [] l) := apt_can l [] ⟨fun a b i h => (by cases h), fun p hp => (by cases hp)⟩
  obtain ⟨h1, h2⟩ := can_map (canS [] l) l [] (fun _ _ h => h)
  have h3 := canG_re (f := numF (canS [] l)) (S := fun n => ((canS [] l).lookup n).isSome = true) (fun a b ha hb e => by
    obtain ⟨i, hi⟩ := Option.isSome_iff_exists.1 ha
    obtain ⟨j, hj⟩ := Option.isSome_iff_exists.1 hb
    simp only [numF, hi, hj, Option.getD_some] at e
    subst e
    exact hA.1 a b i hi hj) (fun a ha => by
    obtain ⟨i, hi⟩ := Option.isSome_iff_exists.1 ha
    simp only [numF, hi, Option.getD_some]
    exact (hA.2 _ (lookup_mem hi)).1) l [] (fun p hp => (by cases hp)) h2
  unfold canL
  rw [h1]
  rw [h1] at h3
  exact h3

end Go.Proofs.YtifpanfgojfbkaaDoor
