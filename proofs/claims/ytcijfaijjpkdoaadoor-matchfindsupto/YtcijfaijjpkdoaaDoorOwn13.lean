/- Texts of the proof, one behind the other. -/
import Derived.Test.YtcijfaijjpkdoaaDoorOwn4
import Derived.Test.YtcijfaijjpkdoaaDoorOwn9
import Derived.Test.YtcijfaijjpkdoaaDoorOwn12
/- Canon, plainly: it is blind to a renaming, and numbers what it numbered the same again. -/
namespace Go.Proofs.YtcijfaijjpkdoaaDoor
open Go.RowKit Go.Maps

/-- A code whose variable has another number. -/
def reC (f : Int → Int) (c : Int) : Int := if c < 0 then -1 - f (-1 - c) else c
def reK (f : Int → Int) (m : Met) : Met := m.map fun p => (f p.1, p.2)

theorem reK_lookup {f : Int → Int} {S : Int → Prop} (hf : ∀ a b, S a → S b → f a = f b → a = b) (n : Int) (hn : S n) : ∀ m : Met, (∀ p ∈ m, S p.1) → (reK f m).lookup (f n) = m.lookup n
  | [], _ => rfl
  | (k, i) :: m, h => by
    show List.lookup (f n) ((f k, i) :: reK f m) = _
    rw [List.lookup_cons, List.lookup_cons]
    have hk := h _ (.head _)
    by_cases e : n = k
    · subst e
      simp
    · rw [show (n == k) = false by simpa using e, show (f n == f k) = false by simp; exact fun e2 => e (hf n k hn hk e2)]
      exact reK_lookup hf n hn m (fun p hp => h p (.tail _ hp))

theorem numN_re {f : Int → Int} {S : Int → Prop} (hf : ∀ a b, S a → S b → f a = f b → a = b) (m : Met) (n : Int) (hm : ∀ p ∈ m, S p.1) (hn : S n) :
    numN (reK f m) (f n) = ((numN m n).1, reK f (numN m n).2) ∧ ∀ p ∈ (numN m n).2, S p.1 := by
  unfold numN
  rw [reK_lookup hf n hn m hm]
  cases m.lookup n with
  | some i => exact ⟨rfl, hm⟩
  | none =>
    refine ⟨by simp [reK], fun p hp => ?_⟩
    cases hp with
    | head => exact hn
    | tail _ hp => exact hm p hp

theorem renG_re {f : Int → Int} {S : Int → Prop} (hf : ∀ a b, S a → S b → f a = f b → a = b) (h0 : ∀ a, S a → 0 ≤ f a) : ∀ (t : List Int) (m : Met), (∀ p ∈ m, S p.1) → (∀ c ∈ t, c < 0 → S (-1 - c)) →
    renG numN (reK f m) (t.map (reC f)) = ((renG numN m t).1, reK f (renG numN m t).2) ∧ ∀ p ∈ (renG numN m t).2, S p.1
  | [], m, hm, _ => ⟨rfl, hm⟩
  | c :: t, m, hm, ht => by
    by_cases hc : c < 0
    · have hs := ht c (.head _) hc
      obtain ⟨e1, e2⟩ := numN_re hf m (-1 - c) hm hs
      obtain ⟨e3, e4⟩ := renG_re hf h0 t (numN m (-1 - c)).2 e2 (fun x hx => ht x (.tail _ hx))
      have hr : reC f c = -1 - f (-1 - c) := by unfold reC; rw [if_pos hc]
      have hneg : -1 - f (-1 - c) < 0 := by have := h0 _ hs; omega
      rw [List.map_cons, hr]
      simp only [renG, if_pos hneg, if_pos hc, show -1 - (-1 - f (-1 - c)) = f (-1 - c) by omega, e1, e3]
      exact ⟨trivial, e4⟩
    · obtain ⟨e3, e4⟩ := renG_re hf h0 t m hm (fun x hx => ht x (.tail _ hx))
      have hr : reC f c = c := by unfold reC; rw [if_neg hc]
      rw [List.map_cons, hr]
      simp only [renG, if_neg hc, e3]
      exact ⟨trivial, e4⟩

theorem canG_re {f : Int → Int} {S : Int → Prop} (hf : ∀ a b, S a → S b → f a = f b → a = b) (h0 : ∀ a, S a → 0 ≤ f a) : ∀ (l : List (List Int)) (m : Met), (∀ p ∈ m, S p.1) → (∀ t ∈ l, ∀ c ∈ t, c < 0 → S (-1 - c)) →
    canG (reK f m) (l.map fun t => t.map (reC f)) = canG m l
  | [], _, _, _ => rfl
  | t :: l, m, hm, hl => by
    obtain ⟨e1, e2⟩ := renG_re hf h0 t m hm (hl t (.head _))
    rw [List.map_cons]
    simp only [canG, e1]
    rw [canG_re hf h0 l _ e2 (fun x hx => hl x (.tail _ hx))]

/-- A row shifted is a row renamed. -/
theorem canL_shift (d : Int) (l : List (List Int)) (hl : ∀ t ∈ l, ∀ c ∈ t, c < 0 → 0 ≤ -1 - c + d) : canL (l.map fun t => t.map fun c => if c < 0 then c - d else c) = canL l := by
  have h := canG_re (f := fun n => n + d) (S := fun n => 0 ≤ n + d) (fun a b _ _ e => by omega) (fun a h => h) l [] (fun p hp => (by cases hp)) hl
  have e : (fun t : List Int => t.map (reC fun n => n + d)) = fun t => t.map fun c => if c < 0 then c - d else c := by
    funext t
    congr 1
    funext c
    unfold reC
    by_cases hc : c < 0
    · rw [if_pos hc, if_pos hc]
      show -1 - (-1 - c + d) = c - d
      omega
    · rw [if_neg hc, if_neg hc]
  rw [e] at h
  exact h

/-- What is met behind all rows. -/
def canS : Met → List (List Int) → Met
  | m, [] => m
  | m, t :: l => canS (renG numN m t).2 l

/-- What one holds the other holds. -/
def Ext (m m' : Met) : Prop := ∀ n i, m.lookup n = some i → m'.lookup n = some i

theorem ext_num (m : Met) (n : Int) : Ext m (numN m n).2 := fun k i hk => by
  unfold numN
  cases hn : m.lookup n with
  | some j => exact hk
  | none =>
    have e : k ≠ n := fun e => by rw [e, hn] at hk; cases hk
    show List.lookup k ((n, (m.length : Int)) :: m) = _
    rw [List.lookup_cons, show (k == n) = false by simpa using e]
    exact hk

theorem val_num (m : Met) (n : Int) : (numN m n).2.lookup n = some (numN m n).1 := by
  unfold numN
  cases hn : m.lookup n with
  | some j => exact hn
  | none =>
    show List.lookup n ((n, (m.length : Int)) :: m) = _
    rw [List.lookup_cons, show (n == n) = true by simp]

theorem ext_ren : ∀ (t : List Int) (m : Met), Ext m (renG numN m t).2
  | [], _ => fun _ _ h => h
  | c :: t, m => fun n i h => by
    unfold renG
    split
    · exact ext_ren t _ n i (ext_num m (-1 - c) n i h)
    · exact ext_ren t m n i h

theorem ext_can : ∀ (l : List (List Int)) (m : Met), Ext m (canS m l)
  | [], _ => fun _ _ h => h
  | t :: l, m => fun n i h => ext_can l _ n i (ext_ren t m n i h)

/-- The number that a variable has in the end. -/
def numF (F : Met) (n : Int) : Int := (F.lookup n).getD 0

theorem ren_map (F : Met) : ∀ (t : List Int) (m : Met), Ext (renG numN m t).2 F → (renG numN m t).1 = t.map (reC (numF F)) ∧ ∀ c ∈ t, c < 0 → (F.lookup (-1 - c)).isSome = true
  | [], _, _ => ⟨rfl, fun c hc => (by cases hc)⟩
  | c :: t, m, h => by
    by_cases hc : c < 0
    · have e : renG numN m (c :: t) = ((-1 - (numN m (-1 - c)).1) :: (renG numN (numN m (-1 - c)).2 t).1, (renG numN (numN m (-1 - c)).2 t).2) := by simp only [renG, if_pos hc]
      rw [e] at h
      obtain ⟨h1, h2⟩ := ren_map F t (numN m (-1 - c)).2 h
      have hv := h _ _ (ext_ren t _ _ _ (val_num m (-1 - c)))
      refine ⟨?_, fun x hx hx0 => ?_⟩
      · rw [e, List.map_cons, ← h1]
        simp only [reC, if_pos hc, numF, hv, Option.getD_some]
      · cases hx with
        | head => rw [hv]; rfl
        | tail _ hx => exact h2 x hx hx0
    · have e : renG numN m (c :: t) = (c :: (renG numN m t).1, (renG numN m t).2) := by simp only [renG, if_neg hc]
      rw [e] at h
      obtain ⟨h1, h2⟩ := ren_map F t m h
      refine ⟨?_, fun x hx hx0 => ?_⟩
      · rw [e, List.map_cons, ← h1]
        simp only [reC, if_neg hc]
      · cases hx with
        | head => exact absurd hx0 hc
        | tail _ hx => exact h2 x hx hx0

theorem can_map (F : Met) : ∀ (l : List (List Int)) (m : Met), Ext (canS m l) F → canG m l = (l.map fun t => t.map (reC (numF F))) ∧ ∀ t ∈ l, ∀ c ∈ t, c < 0 → (F.lookup (-1 - c)).isSome = true
  | [], _, _ => ⟨rfl, fun t ht => (by cases ht)⟩
  | t :: l, m, h => by
    obtain ⟨h1, h2⟩ := can_map F l (renG numN m t).2 h
    obtain ⟨h3, h4⟩ := ren_map F t m (fun n i hn => h n i (ext_can l _ n i hn))
    refine ⟨by rw [List.map_cons, ← h1, ← h3]; rfl, fun x hx => ?_⟩
    cases hx with
    | head => exact h4
    | tail _ hx => exact h2 x hx

/-- Unlike variables have unlike numbers, none below 0, none from the count on. -/
def Apt (m : Met) : Prop := (∀ a b i, m.lookup a = some i → m.lookup b = some i → a = b) ∧ ∀ p ∈ m, 0 ≤ p.2 ∧ p.2 < (m.length : Int)

theorem apt_num {m : Met} (h : Apt m) (n : Int) : Apt (numN m n).2 := by
  refine ⟨?_, (numN_in h.2).2⟩
  unfold numN
  cases hn : m.lookup n with
  | some j => exact h.1
  | none =>
    intro a b i ha hb
    rw [List.lookup_cons] at ha hb
    by_cases ea : a = n
    · by_cases eb : b = n
      · rw [ea, eb]
      · subst ea
        rw [show (b == a) = false by simpa using eb] at hb
        simp at ha
        have := h.2 _ (lookup_mem hb)
        simp only at this
        omega
    · rw [show (a == n) = false by simpa using ea] at ha
      by_cases eb : b = n
      · subst eb
        simp at hb
        have := h.2 _ (lookup_mem ha)
        simp only at this
        omega
      · rw [show (b == n) = false by simpa using eb] at hb
        exact h.1 a b i ha hb

theorem apt_ren : ∀ (t : List Int) (m : Met), Apt m → Apt (renG numN m t).2
  | [], _, h => h
  | c :: t, m, h => by
    unfold renG
    split
    · exact apt_ren t _ (apt_num h _)
    · exact apt_ren t m h

theorem apt_can : ∀ (l : List (List Int)) (m : Met), Apt m → Apt (canS m l)
  | [], _, h => h
  | t :: l, m, h => apt_can l _ (apt_ren t m h)

/-- Canon of what Canon numbered is the same. -/
theorem canL_again (l : List (List Int)) : canL (canL l) = canL l := by
  have hA : Apt (canS [] l) := apt_can l [] ⟨fun a b i h => (by cases h), fun p hp => (by cases hp)⟩
  obtain ⟨h1, h2⟩ := can_map (canS [] l) l [] (fun _ _ h => h)
  have h3 := canG_re (f := numF (canS [] l)) (S := fun n => ((canS [] l).lookup n).isSome = true) (fun a b ha hb e => by
    obtain ⟨i, hi⟩ := Option.isSome_iff_exists.1 ha
    obtain ⟨j, hj⟩ := Option.isSome_iff_exists.1 hb
    simp only [numF, hi, hj, Option.getD_some] at e
    subst e
    exact hA.1 a b i hi hj) (fun a ha => by
    obtain ⟨i, hi⟩ := Option.isSome_iff_exists.1 ha
    simp only [numF, hi, Option.getD_some]
    exact (hA.2 _ (lookup_mem hi)).1) l [] (fun p hp => (by cases hp)) h2
  unfold canL
  rw [h1]
  rw [h1] at h3
  exact h3

end Go.Proofs.YtcijfaijjpkdoaaDoor

/- Canon as the document numbers: by a row of the codes met. -/
namespace Go.Proofs.YtcijfaijjpkdoaaDoor
open Go.RowKit Go.Maps

/-- The number of a variable by a row of codes met, and the row then. -/
def docN (met : List Int) (n : Int) : Int × List Int := if -1 - n ∈ met then ((met.idxOf (-1 - n) : Nat), met) else ((met.length : Nat), met ++ [-1 - n])

def canD : List Int → List (List Int) → List (List Int)
  | _, [] => []
  | met, t :: l => (renG docN met t).1 :: canD (renG docN met t).2 l

/-- The map and the row hold the same. -/
def Rel (m : Met) (met : List Int) : Prop := m.length = met.length ∧ ∀ n : Int, m.lookup n = if -1 - n ∈ met then some ((met.idxOf (-1 - n) : Nat) : Int) else none

theorem rel_num {m : Met} {met : List Int} (h : Rel m met) (n : Int) : (numN m n).1 = (docN met n).1 ∧ Rel (numN m n).2 (docN met n).2 := by
  unfold numN docN
  rw [h.2 n]
  by_cases hn : -1 - n ∈ met
  · rw [if_pos hn, if_pos hn]
    exact ⟨rfl, h⟩
  · rw [if_neg hn, if_neg hn]
    refine ⟨by show ((m.length : Nat) : Int) = _; rw [h.1], ?_, fun k => ?_⟩
    · show ((n, (m.length : Int)) :: m).length = (met ++ [-1 - n]).length
      rw [List.length_cons, List.length_append, h.1]
      rfl
    · show List.lookup k ((n, (m.length : Int)) :: m) = if -1 - k ∈ met ++ [-1 - n] then some (((met ++ [-1 - n]).idxOf (-1 - k) : Nat) : Int) else none
      rw [List.lookup_cons]
      by_cases e : k = n
      · subst e
        rw [show (k == k) = true by simp, if_pos (by simp), List.idxOf_append, if_neg hn, h.1]
        simp
      · rw [show (k == n) = false by simpa using e]
        show List.lookup k m = _
        rw [h.2 k]
        by_cases hk : -1 - k ∈ met
        · rw [if_pos hk, if_pos (List.mem_append_left _ hk), List.idxOf_append, if_pos hk]
        · rw [if_neg hk, if_neg (by
            intro hh
            rcases List.mem_append.1 hh with hh | hh
            · exact hk hh
            · simp at hh
              omega)]

theorem rel_ren : ∀ (t : List Int) {m : Met} {met : List Int}, Rel m met → (renG numN m t).1 = (renG docN met t).1 ∧ Rel (renG numN m t).2 (renG docN met t).2
  | [], _, _, h => ⟨rfl, h⟩
  | c :: t, m, met, h => by
    by_cases hc : c < 0
    · obtain ⟨h1, h2⟩ := rel_num h (-1 - c)
      obtain ⟨h3, h4⟩ := rel_ren t h2
      simp only [renG, if_pos hc]
      exact ⟨by rw [h1, h3], h4⟩
    · obtain ⟨h3, h4⟩ := rel_ren t h
      simp only [renG, if_neg hc]
      exact ⟨by rw [h3], h4⟩

theorem rel_can : ∀ (l : List (List Int)) {m : Met} {met : List Int}, Rel m met → canG m l = canD met l
  | [], _, _, _ => rfl
  | t :: l, m, met, h => by
    obtain ⟨h1, h2⟩ := rel_ren t h
    unfold canG canD
    rw [h1, rel_can l h2]

/-- Both number alike. -/
theorem canL_doc (l : List (List Int)) : canL l = canD [] l := rel_can l ⟨rfl, fun n => (by simp)⟩

end Go.Proofs.YtcijfaijjpkdoaaDoor

/- When two rules number their variables alike, plainly. -/
namespace Go.Proofs.YtcijfaijjpkdoaaDoor
open Go.RowKit Go.Maps

theorem metA_app : ∀ (a b m : List Int), metA m (a ++ b) = metA (metA m a) b
  | [], b, m => rfl
  | c :: a, b, m => by
    by_cases h : 0 ≤ c ∨ c ∈ m
    · have e1 : metA m (c :: a) = metA m a := by conv => lhs; unfold metA; rw [if_pos h]
      have e2 : metA m (c :: (a ++ b)) = metA m (a ++ b) := by conv => lhs; unfold metA; rw [if_pos h]
      rw [List.cons_append, e1, e2, metA_app a b m]
    · have e1 : metA m (c :: a) = metA (m ++ [c]) a := by conv => lhs; unfold metA; rw [if_neg h]
      have e2 : metA m (c :: (a ++ b)) = metA (m ++ [c]) (a ++ b) := by conv => lhs; unfold metA; rw [if_neg h]
      rw [List.cons_append, e1, e2, metA_app a b (m ++ [c])]

theorem metA_ext : ∀ (a m : List Int), ∃ r, metA m a = m ++ r
  | [], m => ⟨[], by simp [metA]⟩
  | c :: a, m => by
    unfold metA
    split
    · exact metA_ext a m
    · obtain ⟨r, hr⟩ := metA_ext a (m ++ [c])
      exact ⟨c :: r, by rw [hr]; simp⟩

theorem metA_neg : ∀ (a m : List Int), (∀ c ∈ m, c < 0) → ∀ c ∈ metA m a, c < 0
  | [], m, h, c, hc => h c hc
  | d :: a, m, h, c, hc => by
    unfold metA at hc
    split at hc
    · exact metA_neg a m h c hc
    · rename_i hn
      refine metA_neg a (m ++ [d]) (fun e he => ?_) c hc
      rcases List.mem_append.1 he with he | he
      · exact h e he
      · simp at he
        subst he
        omega

theorem metA_mem : ∀ (a m : List Int) (c : Int), c ∈ metA m a ↔ c ∈ m ∨ (c ∈ a ∧ c < 0)
  | [], m, c => by simp [metA]
  | d :: a, m, c => by
    unfold metA
    split
    · rename_i hd
      rw [metA_mem a m c]
      constructor
      · rintro (h | ⟨h, h0⟩)
        · exact .inl h
        · exact .inr ⟨by simp [h], h0⟩
      · rintro (h | ⟨h, h0⟩)
        · exact .inl h
        · rcases List.mem_cons.1 h with rfl | h
          · rcases hd with hd | hd
            · omega
            · exact .inl hd
          · exact .inr ⟨h, h0⟩
    · rename_i hd
      rw [metA_mem a (m ++ [d]) c]
      constructor
      · rintro (h | ⟨h, h0⟩)
        · rcases List.mem_append.1 h with h | h
          · exact .inl h
          · simp at h
            subst h
            exact .inr ⟨by simp, by omega⟩
        · exact .inr ⟨by simp [h], h0⟩
      · rintro (h | ⟨h, h0⟩)
        · exact .inl (by simp [h])
        · rcases List.mem_cons.1 h with rfl | h
          · exact .inl (by simp)
          · exact .inr ⟨h, h0⟩

theorem met_once : ∀ (t m : List Int), m.Nodup → (metA m t).Nodup
  | [], m, h => h
  | c :: t, m, h => by
    unfold metA
    split
    · exact met_once t m h
    · rename_i hn
      refine met_once t (m ++ [c]) ?_
      rw [List.nodup_append]
      refine ⟨h, by simp, ?_⟩
      intro a ha b hb e
      simp at hb
      subst hb
      subst e
      exact hn (.inr ha)

/-- A code by its number among those met. -/
def numC (F : List Int) (c : Int) : Int := if c < 0 then -1 - ((F.idxOf c : Nat) : Int) else c

theorem doc_ren : ∀ (t met F : List Int), (∃ r, F = metA met t ++ r) → (renG docN met t).1 = t.map (numC F) ∧ (renG docN met t).2 = metA met t
  | [], met, F, _ => ⟨rfl, rfl⟩
  | c :: t, met, F, h => by
    by_cases hc : c < 0
    · have e0 : -1 - (-1 - c) = c := by omega
      by_cases hm : c ∈ met
      · have e1 : metA met (c :: t) = metA met t := by conv => lhs; unfold metA; rw [if_pos (.inr hm)]
        rw [e1] at h
        obtain ⟨h1, h2⟩ := doc_ren t met F h
        have e2 : docN met (-1 - c) = (((met.idxOf c : Nat) : Int), met) := by unfold docN; rw [e0, if_pos hm]
        simp only [renG, if_pos hc, e2, h1, h2, e1, List.map_cons, and_true, List.cons.injEq]
        obtain ⟨r, hr⟩ := h
        obtain ⟨r2, hr2⟩ := metA_ext t met
        have e3 : numC F c = -1 - ((met.idxOf c : Nat) : Int) := by
          unfold numC
          rw [if_pos hc, hr, hr2, List.append_assoc, List.idxOf_append, if_pos hm]
        rw [e3]
      · have e1 : metA met (c :: t) = metA (met ++ [c]) t := by conv => lhs; unfold metA; rw [if_neg (fun h9 => h9.elim (fun h8 => absurd h8 (by omega)) hm)]
        rw [e1] at h
        obtain ⟨h1, h2⟩ := doc_ren t (met ++ [c]) F h
        have e2 : docN met (-1 - c) = (((met.length : Nat) : Int), met ++ [c]) := by unfold docN; rw [e0, if_neg hm]
        simp only [renG, if_pos hc, e2, h1, h2, e1, List.map_cons, and_true, List.cons.injEq]
        obtain ⟨r, hr⟩ := h
        obtain ⟨r2, hr2⟩ := metA_ext t (met ++ [c])
        have e3 : numC F c = -1 - ((met.length : Nat) : Int) := by
          unfold numC
          rw [if_pos hc, hr, hr2, List.append_assoc, List.idxOf_append, if_pos (by simp), List.idxOf_append, if_neg hm]
          simp
        rw [e3]
    · have e1 : metA met (c :: t) = metA met t := by conv => lhs; unfold metA; rw [if_pos (.inl (by omega))]
      rw [e1] at h
      obtain ⟨h1, h2⟩ := doc_ren t met F h
      have e3 : numC F c = c := by unfold numC; rw [if_neg hc]
      simp only [renG, if_neg hc, h1, h2, e1, e3, List.map_cons, and_true]

theorem can_two (p q : List Int) : canL [p, q] = [p.map (numC (metA [] (p ++ q))), q.map (numC (metA [] (p ++ q)))] := by
  rw [canL_doc]
  simp only [canD]
  obtain ⟨r, hr⟩ := metA_ext q (metA [] p)
  obtain ⟨h1, h2⟩ := doc_ren p [] (metA [] (p ++ q)) ⟨r, by rw [metA_app]; exact hr⟩
  rw [h2]
  obtain ⟨h3, _⟩ := doc_ren q (metA [] p) (metA [] (p ++ q)) ⟨[], by rw [metA_app, List.append_nil]⟩
  rw [h1, h3]

/-- What the document asks of two rows of one length. -/
structure Alike (x y V W : List Int) : Prop where
  codes : ∀ (i : Nat) (a b : Int), x[i]? = some a → y[i]? = some b → (0 ≤ a ∨ 0 ≤ b) → a = b
  many : V.length = W.length
  met : ∀ (i k : Nat) (a b v w : Int), x[i]? = some a → y[i]? = some b → V[k]? = some v → W[k]? = some w → (a = v ↔ b = w)

theorem idx_of {V : List Int} (h : V.Nodup) {k : Nat} {v : Int} (hk : V[k]? = some v) : V.idxOf v = k := by
  obtain ⟨h1, rfl⟩ := List.getElem?_eq_some_iff.1 hk
  exact h.idxOf_getElem k h1

theorem idx_get {V : List Int} {v : Int} (h : v ∈ V) : V[V.idxOf v]? = some v := by
  rw [List.getElem?_eq_getElem (List.idxOf_lt_length_of_mem h), List.getElem_idxOf]

theorem num_neg {F : List Int} {c : Int} : numC F c < 0 ↔ c < 0 := by
  unfold numC
  split <;> omega

theorem alike_le {x y : List Int} (h : x.map (numC (metA [] x)) = y.map (numC (metA [] y))) : (metA [] x).length ≤ (metA [] y).length := by
  by_cases h0 : (metA [] x).length = 0
  · omega
  · obtain ⟨k, hk⟩ : ∃ k, (metA [] x).length = k + 1 := ⟨(metA [] x).length - 1, by omega⟩
    obtain ⟨v, hv⟩ : ∃ v, (metA [] x)[k]? = some v := ⟨_, List.getElem?_eq_getElem (by omega)⟩
    have hm := List.mem_of_getElem? hv
    have hx := (metA_mem x [] v).1 hm
    simp at hx
    obtain ⟨i, hi⟩ := List.getElem?_of_mem hx.1
    have e1 : (y.map (numC (metA [] y)))[i]? = some (numC (metA [] x) v) := by rw [← h, List.getElem?_map, hi]; rfl
    rw [List.getElem?_map] at e1
    cases hy : y[i]? with
    | none => rw [hy] at e1; simp at e1
    | some b =>
      rw [hy] at e1
      simp at e1
      have hb : b < 0 := by
        have h1 : numC (metA [] y) b < 0 := by rw [e1]; exact num_neg.2 hx.2
        exact num_neg.1 h1
      unfold numC at e1
      rw [if_pos hb, if_pos hx.2, idx_of (met_once x [] (by simp)) hv] at e1
      have h2 := List.idxOf_lt_length_of_mem ((metA_mem y [] b).2 (.inr ⟨List.mem_of_getElem? hy, hb⟩))
      omega

theorem alike_iff {x y : List Int} (hl : x.length = y.length) : x.map (numC (metA [] x)) = y.map (numC (metA [] y)) ↔ Alike x y (metA [] x) (metA [] y) := by
  have nx := met_once x [] (by simp)
  have ny := met_once y [] (by simp)
  constructor
  · intro h
    have pt : ∀ (i : Nat) (a b : Int), x[i]? = some a → y[i]? = some b → numC (metA [] x) a = numC (metA [] y) b := fun i a b ha hb => by
      have h1 := congrArg (fun l => l[i]?) h
      simp only [List.getElem?_map, ha, hb, Option.map_some, Option.some.injEq] at h1
      exact h1
    refine ⟨fun i a b ha hb h0 => ?_, ?_, fun i k a b v w ha hb hv hw => ?_⟩
    · have h1 := pt i a b ha hb
      have h2 : ¬ a < 0 ∧ ¬ b < 0 := by
        have h3 : a < 0 ↔ b < 0 := ⟨fun h9 => num_neg.1 (h1 ▸ num_neg.2 h9), fun h9 => num_neg.1 (h1.symm ▸ num_neg.2 h9)⟩
        omega
      unfold numC at h1
      rwa [if_neg h2.1, if_neg h2.2] at h1
    · have h1 := alike_le h
      have h2 := alike_le h.symm
      omega
    · have h1 := pt i a b ha hb
      have h3 : a < 0 ↔ b < 0 := ⟨fun h9 => num_neg.1 (h1 ▸ num_neg.2 h9), fun h9 => num_neg.1 (h1.symm ▸ num_neg.2 h9)⟩
      have hv0 := metA_neg x [] (by simp) v (List.mem_of_getElem? hv)
      have hw0 := metA_neg y [] (by simp) w (List.mem_of_getElem? hw)
      by_cases h0 : a < 0
      · have hb0 := h3.1 h0
        unfold numC at h1
        rw [if_pos h0, if_pos hb0] at h1
        have i1 := idx_get ((metA_mem x [] a).2 (.inr ⟨List.mem_of_getElem? ha, h0⟩))
        have i2 := idx_get ((metA_mem y [] b).2 (.inr ⟨List.mem_of_getElem? hb, hb0⟩))
        constructor
        · rintro rfl
          have e1 := idx_of nx hv
          have e2 : (metA [] y).idxOf b = k := by omega
          rw [e2, hw] at i2
          exact (Option.some.inj i2).symm
        · rintro rfl
          have e1 := idx_of ny hw
          have e2 : (metA [] x).idxOf a = k := by omega
          rw [e2, hv] at i1
          exact (Option.some.inj i1).symm
      · constructor
        · rintro rfl; exact absurd hv0 h0
        · rintro rfl; exact absurd (h3.2 hw0) h0
  · intro h
    refine List.ext_getElem? fun i => ?_
    rw [List.getElem?_map, List.getElem?_map]
    by_cases hi : i < x.length
    · have ha : x[i]? = some x[i] := List.getElem?_eq_getElem hi
      have hb : y[i]? = some (y[i]'(by omega)) := List.getElem?_eq_getElem (by omega)
      generalize x[i] = a at ha
      generalize (y[i]'(by omega)) = b at hb
      rw [ha, hb]
      simp only [Option.map_some, Option.some.injEq]
      by_cases h0 : 0 ≤ a ∨ 0 ≤ b
      · have := h.codes i a b ha hb h0
        subst this
        unfold numC
        rw [if_neg (by omega), if_neg (by omega)]
      · have i1 := idx_get ((metA_mem x [] a).2 (.inr ⟨List.mem_of_getElem? ha, by omega⟩))
        have hk := (List.getElem?_eq_some_iff.1 i1).1
        have hw : (metA [] y)[(metA [] x).idxOf a]? = some ((metA [] y)[(metA [] x).idxOf a]'(by rw [← h.many]; exact hk)) := List.getElem?_eq_getElem _
        have h2 := (h.met i _ a b a _ ha hb i1 hw).1 rfl
        rw [← h2] at hw
        have h3 := idx_of ny hw
        unfold numC
        rw [if_pos (by omega), if_pos (by omega), h3]
    · rw [List.getElem?_eq_none (by omega), List.getElem?_eq_none (by omega)]
      rfl

theorem can_iff {p q r s : List Int} : canL [p, q] = canL [r, s] ↔ p.length = r.length ∧ q.length = s.length ∧ Alike (p ++ q) (r ++ s) (metA [] (p ++ q)) (metA [] (r ++ s)) := by
  rw [can_two, can_two]
  constructor
  · intro h
    simp only [List.cons.injEq, and_true] at h
    have h1 := congrArg List.length h.1
    have h2 := congrArg List.length h.2
    simp only [List.length_map] at h1 h2
    refine ⟨h1, h2, (alike_iff (by simp [h1, h2])).1 ?_⟩
    rw [List.map_append, List.map_append, h.1, h.2]
  · rintro ⟨h1, h2, h3⟩
    have h4 := (alike_iff (by simp [h1, h2])).2 h3
    rw [List.map_append, List.map_append] at h4
    obtain ⟨h5, h6⟩ := List.append_inj h4 (by simp [h1])
    rw [h5, h6]

end Go.Proofs.YtcijfaijjpkdoaaDoor

/- Rows that rise, plainly. -/
namespace Go.Proofs.YtcijfaijjpkdoaaDoor
open Go.RowKit Go.Maps

theorem rise_eq : ∀ {a b : List Int}, a.Pairwise (· < ·) → b.Pairwise (· < ·) → (∀ x, x ∈ a ↔ x ∈ b) → a = b
  | [], [], _, _, _ => rfl
  | [], y :: b, _, _, h => absurd ((h y).2 (by simp)) (by simp)
  | x :: a, [], _, _, h => absurd ((h x).1 (by simp)) (by simp)
  | x :: a, y :: b, ha, hb, h => by
    rw [List.pairwise_cons] at ha hb
    have hxy : x = y := by
      rcases List.mem_cons.1 ((h x).1 (by simp)) with e | e
      · exact e
      · rcases List.mem_cons.1 ((h y).2 (by simp)) with e2 | e2
        · exact e2.symm
        · have := hb.1 x e
          have := ha.1 y e2
          omega
    subst hxy
    rw [rise_eq ha.2 hb.2 fun z => ?_]
    constructor
    · intro hz
      rcases List.mem_cons.1 ((h z).1 (by simp [hz])) with e | e
      · have := ha.1 z hz; omega
      · exact e
    · intro hz
      rcases List.mem_cons.1 ((h z).2 (by simp [hz])) with e | e
      · have := hb.1 z hz; omega
      · exact e

theorem sortI_rise {xs : List Int} (h : xs.Nodup) : (sortI xs).Pairwise (· < ·) := by
  have h1 : (sortI xs).Pairwise (fun a b => decide (a ≤ b) = true) := List.pairwise_mergeSort (fun a b c => by simp; omega) (fun a b => by simp; omega) xs
  have h2 : (sortI xs).Nodup := (List.mergeSort_perm xs _).symm.nodup h
  refine (h1.and h2).imp ?_
  rintro a b ⟨h3, h4⟩
  have h5 : a ≤ b := by simpa using h3
  have h6 : a ≠ b := h4
  omega

theorem vars_once (t : List Int) : (varsL t).Nodup := by
  unfold varsL
  refine List.Pairwise.map _ ?_ (met_once t [] (by simp))
  intro a b hab e
  omega

/-- The least of those that are later. -/
theorem sel_next {S : List Int} (h : S.Pairwise (· < ·)) {k : Nat} {s : Int} (hs : S[k]? = some s) : (∀ j y, j + 1 = k → S[j]? = some y → y < s) ∧ ∀ x ∈ S, (∀ j y, j + 1 = k → S[j]? = some y → y < x) → s ≤ x := by
  have hlt : ∀ (i j : Nat) (a b : Int), S[i]? = some a → S[j]? = some b → i < j → a < b := fun i j a b ha hb hij => by
    obtain ⟨h1, rfl⟩ := List.getElem?_eq_some_iff.1 ha
    obtain ⟨h2, rfl⟩ := List.getElem?_eq_some_iff.1 hb
    exact (List.pairwise_iff_getElem.1 h) i j h1 h2 hij
  refine ⟨fun j y hj hy => hlt j k y s hy hs (by omega), fun x hx hl => ?_⟩
  obtain ⟨m, hm⟩ := List.getElem?_of_mem hx
  rcases Nat.lt_trichotomy m k with h1 | h1 | h1
  · obtain ⟨j, rfl⟩ : ∃ j, k = j + 1 := ⟨k - 1, by omega⟩
    have hj : j < S.length := by have := (List.getElem?_eq_some_iff.1 hs).1; omega
    have h2 := hl j S[j] rfl (List.getElem?_eq_getElem hj)
    rcases Nat.lt_or_ge m j with h3 | h3
    · have := hlt m j x S[j] hm (List.getElem?_eq_getElem hj) h3
      omega
    · obtain rfl : m = j := by omega
      rw [List.getElem?_eq_getElem hj] at hm
      simp at hm
      omega
  · subst h1
    rw [hs] at hm
    simp at hm
    omega
  · exact Int.le_of_lt (hlt k m s x hs hm h1)

end Go.Proofs.YtcijfaijjpkdoaaDoor

/- A pattern and a term held against each other from the left, plainly. -/
namespace Go.Proofs.YtcijfaijjpkdoaaDoor
open Go.RowKit Go.Maps

/-- The pattern up to a place and the term up to a place, held against each other: what binds must do is to have those found, and to make the rest the rest. -/
structure Inn (sig : List Sy) (p t : List Int) (i q : Nat) (L : List Bd) : Prop where
  rows : ∃ us vs : List (List Int), us.length = vs.length ∧ (∀ u ∈ us, rowE sig u = 0) ∧ (∀ v ∈ vs, rowE sig v = 0) ∧ p.drop i = us.flatten ∧ t.drop q = vs.flatten
  right : ∀ b ∈ L, rowE sig b.2 = 0
  once : (L.map Prod.fst).Nodup
  vars : ∀ n, n ∈ L.map Prod.fst ↔ ∃ c ∈ p.take i, c < 0 ∧ n = -1 - c
  eqv : ∀ f, Rt sig f → (Sm f p t ↔ (∀ b ∈ L, f b.1 = some b.2) ∧ Sm f (p.drop i) (t.drop q))

theorem Inn.start {sig : List Sy} {p t : List Int} (hp : rowE sig p = 0) (ht : rowE sig t = 0) : Inn sig p t 0 0 [] :=
  ⟨⟨[p], [t], rfl, by simpa using hp, by simpa using ht, by simp, by simp⟩, by simp, by simp, by simp, fun f _ => by simp⟩

theorem Inn.more {sig : List Sy} {p t : List Int} {i q : Nat} {L : List Bd} (h : Inn sig p t i q L) (hi : i < p.length) : q < t.length := by
  obtain ⟨us, vs, h1, h2, h3, h4, h5⟩ := h.rows
  cases us with
  | nil =>
    have := congrArg List.length h4
    simp at this
    omega
  | cons u us =>
    cases vs with
    | nil => simp at h1
    | cons v vs =>
      have := congrArg List.length h5
      have h6 := row_ne (h3 v (by simp))
      simp at this
      omega

theorem kids_many {sig : List Sy} (ha : ArOk sig) {c : Int} {r : List Int} (h : rowE sig (c :: r) = 0) (hc : ¬ c < 0) :
    ∃ us : List (List Int), us.length = arN sig c ∧ r = us.flatten ∧ ∀ u ∈ us, rowE sig u = 0 := by
  have h1 := row_first.1 h
  rw [firstT_cons] at h1
  cases hd : codeD sig c with
  | none => rw [hd] at h1; simp at h1
  | some e =>
    rw [hd] at h1
    simp only at h1
    obtain ⟨k1, _⟩ := codeD_ar ha hd hc
    by_cases h0 : 1 + e = 0
    · rw [if_pos h0] at h1
      have hl : r.length = 0 := by
        have := congrArg Prod.fst h1
        simp at this
        omega
      exact ⟨[], by simp; omega, by rw [List.eq_nil_of_length_eq_zero hl]; rfl, fun u hu => by cases hu⟩
    · rw [if_neg h0, show (1 : Int) + e = (arN sig c : Int) by omega] at h1
      exact split_first ha _ r (0 + 1) (by omega) (by rw [h1]; simp only [List.length_cons, Prod.mk.injEq, and_true]; omega)

theorem sm_nil (f : Int → Option (List Int)) : Sm f [] [] := ⟨fun c hc => by simp at hc, rfl⟩

theorem Inn.sym {sig : List Sy} (ha : ArOk sig) {p t : List Int} {i q : Nat} {L : List Bd} (h : Inn sig p t i q L) {c d : Int} (hc : p[i]? = some c) (hd : t[q]? = some d) (h0 : ¬ c < 0) :
    (c ≠ d → ∀ f, Rt sig f → ¬ Sm f p t) ∧ (c = d → Inn sig p t (i + 1) (q + 1) L) := by
  refine ⟨fun hne f hf hs => ?_, fun hcd => ?_⟩
  · have h1 := ((h.eqv f hf).1 hs).2
    rw [drop_get hc, drop_get hd] at h1
    exact hne ((sm_head h0).1 h1).1
  · subst hcd
    obtain ⟨us, vs, h1, h2, h3, h4, h5⟩ := h.rows
    have e1 := drop_get hc
    have e2 := drop_get hd
    refine ⟨?_, h.right, h.once, fun n => ?_, fun f hf => ?_⟩
    · cases us with
      | nil => rw [e1] at h4; simp at h4
      | cons u us =>
        cases vs with
        | nil => rw [e2] at h5; simp at h5
        | cons v vs =>
          have hu := h2 u (by simp)
          have hv := h3 v (by simp)
          cases u with
          | nil => exact absurd (row_ne hu) (by simp)
          | cons c1 u =>
            cases v with
            | nil => exact absurd (row_ne hv) (by simp)
            | cons c2 v =>
              rw [e1, List.flatten_cons, List.cons_append, List.cons.injEq] at h4
              rw [e2, List.flatten_cons, List.cons_append, List.cons.injEq] at h5
              obtain ⟨rfl, h4⟩ := h4
              obtain ⟨rfl, h5⟩ := h5
              obtain ⟨xs, a1, a2, a3⟩ := kids_many ha hu h0
              obtain ⟨ys, b1, b2, b3⟩ := kids_many ha hv h0
              refine ⟨xs ++ us, ys ++ vs, ?_, ?_, ?_, ?_, ?_⟩
              · simp only [List.length_append, List.length_cons] at h1 ⊢
                omega
              · intro x hx
                rcases List.mem_append.1 hx with hx | hx
                · exact a3 x hx
                · exact h2 x (by simp [hx])
              · intro x hx
                rcases List.mem_append.1 hx with hx | hx
                · exact b3 x hx
                · exact h3 x (by simp [hx])
              · rw [h4, List.flatten_append, ← a2]
              · rw [h5, List.flatten_append, ← b2]
    · rw [h.vars n, take_get hc]
      constructor
      · rintro ⟨x, hx, h6, h7⟩
        exact ⟨x, by simp [hx], h6, h7⟩
      · rintro ⟨x, hx, h6, h7⟩
        rcases List.mem_append.1 hx with hx | hx
        · exact ⟨x, hx, h6, h7⟩
        · simp at hx
          subst hx
          exact absurd h6 h0
    · rw [h.eqv f hf, e1, e2, sm_head h0]
      simp

/-- A variable ahead of a row of terms. -/
theorem sm_first {sig : List Sy} {f : Int → Option (List Int)} (hf : Rt sig f) {c : Int} {r u s : List Int} (hc : c < 0) (hu : rowE sig u = 0) : Sm f (c :: r) (u ++ s) ↔ f (-1 - c) = some u ∧ Sm f r s := by
  constructor
  · intro h
    obtain ⟨x, hx⟩ := Option.ne_none_iff_exists'.1 (h.1 c (by simp) hc)
    have hp : piece f c = x := by unfold piece; rw [if_pos hc, hx]; rfl
    have h2 := h.2
    rw [laidL_cons, hp] at h2
    have k1 := first_right (hf _ _ hx) (laidL f r)
    rw [h2, first_right hu] at k1
    have k2 : u.length = x.length := by
      have := congrArg Prod.fst k1
      simp only at this
      omega
    obtain ⟨k3, k4⟩ := List.append_inj h2 k2.symm
    exact ⟨by rw [hx, k3], fun y hy h0 => h.1 y (by simp [hy]) h0, k4⟩
  · rintro ⟨h1, h2⟩
    have hp : piece f c = u := by unfold piece; rw [if_pos hc, h1]; rfl
    refine ⟨fun y hy h0 => ?_, by rw [laidL_cons, hp, h2.2]⟩
    rcases List.mem_cons.1 hy with rfl | hy
    · rw [h1]; simp
    · exact h2.1 y hy h0

theorem look_has {L : List Bd} (hn : (L.map Prod.fst).Nodup) : ∀ {b : Bd}, b ∈ L → L.lookup b.1 = some b.2 := by
  induction L with
  | nil => intro b hb; simp at hb
  | cons a L ih =>
    intro b hb
    rw [List.map_cons, List.nodup_cons] at hn
    rcases List.mem_cons.1 hb with rfl | hb
    · rw [List.lookup_cons]; simp
    · have : b.1 ≠ a.1 := fun e => hn.1 (by rw [← e]; exact List.mem_map.2 ⟨b, hb, rfl⟩)
      rw [List.lookup_cons, show (b.1 == a.1) = false by rw [beq_eq_false_iff_ne]; exact this]
      exact ih hn.2 hb

theorem look_not {L : List Bd} {n : Int} (h : L.lookup n = none) : n ∉ L.map Prod.fst := by
  intro hn
  obtain ⟨b, hb, rfl⟩ := List.mem_map.1 hn
  rw [List.lookup_eq_none_iff] at h
  have := h b hb
  simp at this

theorem Inn.var {sig : List Sy} (_ha : ArOk sig) {p t : List Int} {i q : Nat} {L : List Bd} (h : Inn sig p t i q L) {c : Int} (hc : p[i]? = some c) (h0 : c < 0) :
    ∃ u : List Int, firstT sig 1 0 (t.drop q) = ((u.length : Int), 0) ∧ q + u.length ≤ t.length ∧ (t.drop q).take u.length = u ∧ rowE sig u = 0 ∧
      (L.lookup (-1 - c) = none → Inn sig p t (i + 1) (q + u.length) (L ++ [(-1 - c, u)])) ∧ (L.lookup (-1 - c) = some u → Inn sig p t (i + 1) (q + u.length) L) ∧
      (∀ x, L.lookup (-1 - c) = some x → x ≠ u → ∀ f, Rt sig f → ¬ Sm f p t) := by
  obtain ⟨us, vs, h1, h2, h3, h4, h5⟩ := h.rows
  have e1 := drop_get hc
  cases us with
  | nil => rw [e1] at h4; simp at h4
  | cons z us =>
    cases vs with
    | nil => simp at h1
    | cons u vs =>
      have hu := h3 u (by simp)
      have hz := h2 z (by simp)
      cases z with
      | nil => exact absurd (row_ne hz) (by simp)
      | cons c1 z =>
        rw [e1, List.flatten_cons, List.cons_append, List.cons.injEq] at h4
        obtain ⟨rfl, h4⟩ := h4
        have hz0 : z = [] := by
          have h6 := row_first.1 hz
          rw [firstT_cons] at h6
          cases hd : codeD sig c with
          | none => rw [hd] at h6; simp at h6
          | some e =>
            have he : e = -1 := by
              unfold codeD at hd
              split at hd
              · cases hd
              · first
                | (rw [if_pos h0] at hd; cases hd; rfl)
                | (cases hd; rfl)
            subst he
            rw [hd] at h6
            simp at h6
            exact List.eq_nil_of_length_eq_zero (by omega)
        subst hz0
        rw [List.nil_append] at h4
        rw [List.flatten_cons] at h5
        have hdr : t.drop (q + u.length) = vs.flatten := by rw [← List.drop_drop, h5, List.drop_left]
        have hq : q + u.length ≤ t.length := by
          have := congrArg List.length h5
          have h9 := row_ne hu
          simp at this
          omega
        have hrows : ∃ us vs : List (List Int), us.length = vs.length ∧ (∀ u ∈ us, rowE sig u = 0) ∧ (∀ v ∈ vs, rowE sig v = 0) ∧ p.drop (i + 1) = us.flatten ∧ t.drop (q + u.length) = vs.flatten :=
          ⟨us, vs, by simpa using h1, fun x hx => h2 x (by simp [hx]), fun x hx => h3 x (by simp [hx]), h4, hdr⟩
        have heq : ∀ f, Rt sig f → (Sm f p t ↔ ((∀ b ∈ L, f b.1 = some b.2) ∧ f (-1 - c) = some u) ∧ Sm f (p.drop (i + 1)) (t.drop (q + u.length))) := fun f hf => by
          rw [h.eqv f hf, e1, h5, sm_first hf h0 hu, hdr, and_assoc]
        refine ⟨u, by rw [h5]; exact first_right hu _, hq, by rw [h5, List.take_left], hu, fun hl => ?_, fun hl => ?_, fun x hl hne f hf hs => ?_⟩
        · have hnot := look_not hl
          refine ⟨hrows, ?_, ?_, ?_, ?_⟩
          · intro b hb
            rcases List.mem_append.1 hb with hb | hb
            · exact h.right b hb
            · simp at hb
              subst hb
              exact hu
          · rw [List.map_append, List.nodup_append]
            refine ⟨h.once, by simp, ?_⟩
            intro a ha2 b hb e
            simp at hb
            subst hb
            subst e
            exact hnot ha2
          · intro n
            rw [List.map_append, List.mem_append, h.vars n, take_get hc]
            constructor
            · rintro (⟨y, hy, h6, h7⟩ | hn)
              · exact ⟨y, by simp [hy], h6, h7⟩
              · simp at hn
                exact ⟨c, by simp, h0, hn⟩
            · rintro ⟨y, hy, h6, h7⟩
              rcases List.mem_append.1 hy with hy | hy
              · exact .inl ⟨y, hy, h6, h7⟩
              · simp at hy
                subst hy
                exact .inr (by simp [h7])
          · intro f hf
            rw [heq f hf]
            constructor
            · rintro ⟨⟨h6, h7⟩, h8⟩
              refine ⟨fun b hb => ?_, h8⟩
              rcases List.mem_append.1 hb with hb | hb
              · exact h6 b hb
              · simp at hb
                subst hb
                exact h7
            · rintro ⟨h6, h8⟩
              exact ⟨⟨fun b hb => h6 b (by simp [hb]), h6 (-1 - c, u) (by simp)⟩, h8⟩
        · have hin := lookup_mem hl
          refine ⟨hrows, h.right, h.once, ?_, ?_⟩
          · intro n
            rw [h.vars n, take_get hc]
            constructor
            · rintro ⟨y, hy, h6, h7⟩
              exact ⟨y, by simp [hy], h6, h7⟩
            · rintro ⟨y, hy, h6, h7⟩
              rcases List.mem_append.1 hy with hy | hy
              · exact ⟨y, hy, h6, h7⟩
              · simp at hy
                subst hy
                exact (h.vars n).1 (by rw [h7]; exact List.mem_map.2 ⟨_, hin, rfl⟩)
          · intro f hf
            rw [heq f hf]
            constructor
            · rintro ⟨⟨h6, h7⟩, h8⟩
              exact ⟨h6, h8⟩
            · rintro ⟨h6, h8⟩
              exact ⟨⟨h6, h6 _ hin⟩, h8⟩
        · have h6 := ((heq f hf).1 hs).1
          have h7 := h6.1 _ (lookup_mem hl)
          have h8 := h6.2
          simp only at h7
          rw [h7] at h8
          exact hne (Option.some.inj h8)

theorem Inn.done {sig : List Sy} {p t : List Int} {i q : Nat} {L : List Bd} (h : Inn sig p t i q L) (hi : p.length ≤ i) : Rt sig (fun n => L.lookup n) ∧ Sm (fun n => L.lookup n) p t := by
  have hr : Rt sig (fun n => L.lookup n) := fun n u hu => h.right _ (lookup_mem hu)
  refine ⟨hr, (h.eqv _ hr).2 ⟨fun b hb => look_has h.once hb, ?_⟩⟩
  obtain ⟨us, vs, h1, h2, h3, h4, h5⟩ := h.rows
  have hp : p.drop i = [] := List.drop_of_length_le hi
  cases us with
  | nil =>
    cases vs with
    | nil => rw [hp, h5]; exact sm_nil _
    | cons v vs => simp at h1
  | cons u us =>
    have := congrArg List.length h4
    have h6 := row_ne (h2 u (by simp))
    rw [hp] at this
    simp at this
    omega

end Go.Proofs.YtcijfaijjpkdoaaDoor
