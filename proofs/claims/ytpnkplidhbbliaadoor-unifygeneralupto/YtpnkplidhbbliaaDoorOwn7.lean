/- Texts of the proof, one behind the other. -/
import Derived.Test.YtpnkplidhbbliaaDoorOwn6
import Derived.Test.YtpnkplidhbbliaaDoorOwn4
import Derived.Deep.Slices
import Derived.Test.YtpnkplidhbbliaaDoorOwn2
import Derived.Test.YtpnkplidhbbliaaDoorOwn5
import Derived.Ground.NamesProg
import Derived.Shelf.Sort.Plain
import Derived.Shelf.Slices.In.SortNone
import Derived.Sort.OwnSortedInts
/- When two rules number their variables alike, plainly. -/
namespace Go.Proofs.YtpnkplidhbbliaaDoor
open Go.RowKit Go.Maps

theorem metA_app : ∀ (a b m : List Int), metA m (a ++ b) = metA (metA m a) b
  | [], b, m => rfl
  | c :: a, b, m => by
    by_cases h : 0 ≤ c ∨ c ∈ m
    · have e1 : metA m (c :: a) = metA m a := by conv => lhs; unfold metA; rw [if_pos h]
      have e2 : metA m (c :: (a ++ b)) = metA m (a ++ b) := by conv => lhs; unfold metA; rw [if_pos h]
      rw [List.cons_append, e1, e2, metA_app a b m]
    · have e1 : metA m (c :: a) = metA (m ++ [c]) a := by conv => lhs; unfold metA; rw [if_neg h]
      have e2 : metA m (c :: (a ++ b)) = metA (m ++ [c]) (a ++ b) := by conv => lhs; unfold metA; rw [if_neg h]
      rw [List.cons_append, e1, e2, metA_app a b (m ++ [c])]

theorem metA_ext : ∀ (a m : List Int), ∃ r, metA m a = m ++ r
  | [], m => ⟨[], by simp [metA]⟩
  | c :: a, m => by
    unfold metA
    split
    · exact metA_ext a m
    · obtain ⟨r, hr⟩ := metA_ext a (m ++ [c])
      exact ⟨c :: r, by rw [hr]; simp⟩

theorem metA_neg : ∀ (a m : List Int), (∀ c ∈ m, c < 0) → ∀ c ∈ metA m a, c < 0
  | [], m, h, c, hc => h c hc
  | d :: a, m, h, c, hc => by
    unfold metA at hc
    split at hc
    · exact metA_neg a m h c hc
    · rename_i hn
      refine metA_neg a (m ++ [d]) (fun e he => ?_) c hc
      rcases List.mem_append.1 he with he | he
      · exact h e he
      · simp at he
        subst he
        omega

theorem metA_mem : ∀ (a m : List Int) (c : Int), c ∈ metA m a ↔ c ∈ m ∨ (c ∈ a ∧ c < 0)
  | [], m, c => by simp [metA]
  | d :: a, m, c => by
    unfold metA
    split
    · rename_i hd
      rw [metA_mem a m c]
      constructor
      · rintro (h | ⟨h, h0⟩)
        · exact .inl h
        · exact .inr ⟨by simp [h], h0⟩
      · rintro (h | ⟨h, h0⟩)
        · exact .inl h
        · rcases List.mem_cons.1 h with rfl | h
          · rcases hd with hd | hd
            · omega
            · exact .inl hd
          · exact .inr ⟨h, h0⟩
    · rename_i hd
      rw [metA_mem a (m ++ [d]) c]
      constructor
      · rintro (h | ⟨h, h0⟩)
        · rcases List.mem_append.1 h with h | h
          · exact .inl h
          · simp at h
            subst h
            exact .inr ⟨by simp, by omega⟩
        · exact .inr ⟨by simp [h], h0⟩
      · rintro (h | ⟨h, h0⟩)
        · exact .inl (by simp [h])
        · rcases List.mem_cons.1 h with rfl | h
          · exact .inl (by simp)
          · exact .inr ⟨h, h0⟩

theorem met_once : ∀ (t m : List Int), m.Nodup → (metA m t).Nodup
  | [], m, h => h
  | c :: t, m, h => by
    unfold metA
    split
    · exact met_once t m h
    · rename_i hn
      refine met_once t (m ++ [c]) ?_
      rw [List.nodup_append]
      refine ⟨h, by simp, ?_⟩
      intro a ha b hb e
      simp at hb
      subst hb
      subst e
      exact hn (.inr ha)

/-- A code by its number among those met. -/
def numC (F : List Int) (c : Int) : Int := if c < 0 then -1 - ((F.idxOf c : Nat) : Int) else c

theorem doc_ren : ∀ (t met F : List Int), (∃ r, F = metA met t ++ r) → (renG docN met t).1 = t.map (numC F) ∧ (renG docN met t).2 = metA met t
  | [], met, F, _ => ⟨rfl, rfl⟩
  | c :: t, met, F, h => by
    by_cases hc : c < 0
    · have e0 : -1 - (-1 - c) = c := by omega
      by_cases hm : c ∈ met
      · have e1 : metA met (c :: t) = metA met t := by conv => lhs; unfold metA; rw [if_pos (.inr hm)]
        rw [e1] at h
        obtain ⟨h1, h2⟩ := doc_ren t met F h
        have e2 : docN met (-1 - c) = (((met.idxOf c : Nat) : Int), met) := by unfold docN; rw [e0, if_pos hm]
        simp only [renG, if_pos hc, e2, h1, h2, e1, List.map_cons, and_true, List.cons.injEq]
        obtain ⟨r, hr⟩ := h
        obtain ⟨r2, hr2⟩ := metA_ext t met
        have e3 : numC F c = -1 - ((met.idxOf c : Nat) : Int) := by
          unfold numC
          rw [if_pos hc, hr, hr2, List.append_assoc, List.idxOf_append, if_pos hm]
        rw [e3]
      · have e1 : metA met (c :: t) = metA (met ++ [c]) t := by conv => lhs; unfold metA; rw [if_neg (fun h9 => h9.elim (fun h8 => absurd h8 (by omega)) hm)]
        rw [e1] at h
        obtain ⟨h1, h2⟩ := doc_ren t (met ++ [c]) F h
        have e2 : docN met (-1 - c) = (((met.length : Nat) : Int), met ++ [c]) := by unfold docN; rw [e0, if_neg hm]
        simp only [renG, if_pos hc, e2, h1, h2, e1, List.map_cons, and_true, List.cons.injEq]
        obtain ⟨r, hr⟩ := h
        obtain ⟨r2, hr2⟩ := metA_ext t (met ++ [c])
        have e3 : numC F c = -1 - ((met.length : Nat) : Int) := by
          unfold numC
          rw [if_pos hc, hr, hr2, List.append_assoc, List.idxOf_append, if_pos (by simp), List.idxOf_append, if_neg hm]
          simp
        rw [e3]
    · have e1 : metA met (c :: t) = metA met t := by conv => lhs; unfold metA; rw [if_pos (.inl (by omega))]
      rw [e1] at h
      obtain ⟨h1, h2⟩ := doc_ren t met F h
      have e3 : numC F c = c := by unfold numC; rw [if_neg hc]
      simp only [renG, if_neg hc, h1, h2, e1, e3, List.map_cons, and_true]

theorem can_two (p q : List Int) : canL [p, q] = [p.map (numC (metA [] (p ++ q))), q.map (numC (metA [] (p ++ q)))] := by
  rw [canL_doc]
  simp only [canD]
  obtain ⟨r, hr⟩ := metA_ext q (metA [] p)
  obtain ⟨h1, h2⟩ := doc_ren p [] (metA [] (p ++ q)) ⟨r, by rw [metA_app]; exact hr⟩
  rw [h2]
  obtain ⟨h3, _⟩ := doc_ren q (metA [] p) (metA [] (p ++ q)) ⟨[], by rw [metA_app, List.append_nil]⟩
  rw [h1, h3]

/-- What the document asks of two rows of one length. -/
structure Alike (x y V W : List Int) : Prop where
  codes : ∀ (i : Nat) (a b : Int), x[i]? = some a → y[i]? = some b → (0 ≤ a ∨ 0 ≤ b) → a = b
  many : V.length = W.length
  met : ∀ (i k : Nat) (a b v w : Int), x[i]? = some a → y[i]? = some b → V[k]? = some v → W[k]? = some w → (a = v ↔ b = w)

theorem idx_of {V : List Int} (h : V.Nodup) {k : Nat} {v : Int} (hk : V[k]? = some v) : V.idxOf v = k := by
  obtain ⟨h1, rfl⟩ := List.getElem?_eq_some_iff.1 hk
  exact h.idxOf_getElem k h1

theorem idx_get {V : List Int} {v : Int} (h : v ∈ V) : V[V.idxOf v]? = some v := by
  rw [List.getElem?_eq_getElem (List.idxOf_lt_length_of_mem h), List.getElem_idxOf]

theorem num_neg {F : List Int} {c : Int} : numC F c < 0 ↔ c < 0 := by
  unfold numC
  split <;> omega

theorem alike_le {x y : List Int} (h : x.map (numC (metA [] x)) = y.map (numC (metA [] y))) : (metA [] x).length ≤ (metA [] y).length := by
  by_cases h0 : (metA [] x).length = 0
  · omega
  · obtain ⟨k, hk⟩ : ∃ k, (metA [] x).length = k + 1 := ⟨(metA [] x).length - 1, by omega⟩
    obtain ⟨v, hv⟩ : ∃ v, (metA [] x)[k]? = some v := ⟨_, List.getElem?_eq_getElem (by omega)⟩
    have hm := List.mem_of_getElem? hv
    have hx := (metA_mem x [] v).1 hm
    simp at hx
    obtain ⟨i, hi⟩ := List.getElem?_of_mem hx.1
    have e1 : (y.map (numC (metA [] y)))[i]? = some (numC (metA [] x) v) := by rw [← h, List.getElem?_map, hi]; rfl
    rw [List.getElem?_map] at e1
    cases hy : y[i]? with
    | none => rw [hy] at e1; simp at e1
    | some b =>
      rw [hy] at e1
      simp at e1
      have hb : b < 0 := by
        have h1 : numC (metA [] y) b < 0 := by rw [e1]; exact num_neg.2 hx.2
        exact num_neg.1 h1
      unfold numC at e1
      rw [if_pos hb, if_pos hx.2, idx_of (met_once x [] (by simp)) hv] at e1
      have h2 := List.idxOf_lt_length_of_mem ((metA_mem y [] b).2 (.inr ⟨List.mem_of_getElem? hy, hb⟩))
      omega

theorem alike_iff {x y : List Int} (hl : x.length = y.length) : x.map (numC (metA [] x)) = y.map (numC (metA [] y)) ↔ Alike x y (metA [] x) (metA [] y) := by
  have nx := met_once x [] (by simp)
  have ny := met_once y [] (by simp)
  constructor
  · intro h
    have pt : ∀ (i : Nat) (a b : Int), x[i]? = some a → y[i]? = some b → numC (metA [] x) a = numC (metA [] y) b := fun i a b ha hb => by
      have h1 := congrArg (fun l => l[i]?) h
      simp only [List.getElem?_map, ha, hb, Option.map_some, Option.some.injEq] at h1
      exact h1
    refine ⟨fun i a b ha hb h0 => ?_, ?_, fun i k a b v w ha hb hv hw => ?_⟩
    · have h1 := pt i a b ha hb
      have h2 : ¬ a < 0 ∧ ¬ b < 0 := by
        have h3 : a < 0 ↔ b < 0 := ⟨fun h9 => num_neg.1 (h1 ▸ num_neg.2 h9), fun h9 => num_neg.1 (h1.symm ▸ num_neg.2 h9)⟩
        omega
      unfold numC at h1
      rwa [if_neg h2.1, if_neg h2.2] at h1
    · have h1 := alike_le h
      have h2 := alike_le h.symm
      omega
    · have h1 := pt i a b ha hb
      have h3 : a < 0 ↔ b < 0 := ⟨fun h9 => num_neg.1 (h1 ▸ num_neg.2 h9), fun h9 => num_neg.1 (h1.symm ▸ num_neg.2 h9)⟩
      have hv0 := metA_neg x [] (by simp) v (List.mem_of_getElem? hv)
      have hw0 := metA_neg y [] (by simp) w (List.mem_of_getElem? hw)
      by_cases h0 : a < 0
      · have hb0 := h3.1 h0
        unfold numC at h1
        rw [if_pos h0, if_pos hb0] at h1
        have i1 := idx_get ((metA_mem x [] a).2 (.inr ⟨List.mem_of_getElem? ha, h0⟩))
        have i2 := idx_get ((metA_mem y [] b).2 (.inr ⟨List.mem_of_getElem? hb, hb0⟩))
        constructor
        · rintro rfl
          have e1 := idx_of nx hv
          have e2 : (metA [] y).idxOf b = k := by omega
          rw [e2, hw] at i2
          exact (Option.some.inj i2).symm
        · rintro rfl
          have e1 := idx_of ny hw
          have e2 : (metA [] x).idxOf a = k := by omega
          rw [e2, hv] at i1
          exact (Option.some.inj i1).symm
      · constructor
        · rintro rfl; exact absurd hv0 h0
        · rintro rfl; exact absurd (h3.2 hw0) h0
  · intro h
    refine List.ext_getElem? fun i => ?_
    rw [List.getElem?_map, List.getElem?_map]
    by_cases hi : i < x.length
    · have ha : x[i]? = some x[i] := List.getElem?_eq_getElem hi
      have hb : y[i]? = some (y[i]'(by omega)) := List.getElem?_eq_getElem (by omega)
      generalize x[i] = a at ha
      generalize (y[i]'(by omega)) = b at hb
      rw [ha, hb]
      simp only [Option.map_some, Option.some.injEq]
      by_cases h0 : 0 ≤ a ∨ 0 ≤ b
      · have := h.codes i a b ha hb h0
        subst this
        unfold numC
        rw [if_neg (by omega), if_neg (by omega)]
      · have i1 := idx_get ((metA_mem x [] a).2 (.inr ⟨List.mem_of_getElem? ha, by omega⟩))
        have hk := (List.getElem?_eq_some_iff.1 i1).1
        have hw : (metA [] y)[(metA [] x).idxOf a]? = some ((metA [] y)[(metA [] x).idxOf a]'(by rw [← h.many]; exact hk)) := List.getElem?_eq_getElem _
        have h2 := (h.met i _ a b a _ ha hb i1 hw).1 rfl
        rw [← h2] at hw
        have h3 := idx_of ny hw
        unfold numC
        rw [if_pos (by omega), if_pos (by omega), h3]
    · rw [List.getElem?_eq_none (by omega), List.getElem?_eq_none (by omega)]
      rfl

theorem can_iff {p q r s : List Int} : canL [p, q] = canL [r, s] ↔ p.length = r.length ∧ q.length = s.length ∧ Alike (p ++ q) (r ++ s) (metA [] (p ++ q)) (metA [] (r ++ s)) := by
  rw [can_two, can_two]
  constructor
  · intro h
    simp only [List.cons.injEq, and_true] at h
    have h1 := congrArg List.length h.1
    have h2 := congrArg List.length h.2
    simp only [List.length_map] at h1 h2
    refine ⟨h1, h2, (alike_iff (by simp [h1, h2])).1 ?_⟩
    rw [List.map_append, List.map_append, h.1, h.2]
  · rintro ⟨h1, h2, h3⟩
    have h4 := (alike_iff (by simp [h1, h2])).2 h3
    rw [List.map_append, List.map_append] at h4
    obtain ⟨h5, h6⟩ := List.append_inj h4 (by simp [h1])
    rw [h5, h6]

end Go.Proofs.YtpnkplidhbbliaaDoor

/- Binds of one's own: rows that are the call's or older ones; a bind joined, binds joined. -/
namespace Go.Proofs.YtpnkplidhbbliaaDoor
open Go.RowKit Go.Maps

theorem info_bind : (Tryd.prog.info? 31).map (fun i => (i.zero, i.size, i.bytes)) = some (some (.agg #[.int .i64 0, .slice none 0 0]), 2, 32) := by kernel_rfl
theorem under_binds : Tryd.prog.underlying 25 = some (.slice 31) := by kernel_rfl

def flatB (s : List Bd) (us : List Value) : List Value := (s.zip us).flatMap fun p => [.int .i64 p.1.1, p.2]

/-- A row of a bind: the call's own, or one that was there. -/
def RowB (w0 w : World) (u : Value) (t : List Int) : Prop := OwI w w0.heap.size u t ∨ Is w0 u t

theorem RowB.is {w0 w : World} {u : Value} {t : List Int} (h : RowB w0 w u t) (hb : Below w0.heap.size w0 w) : Is w u t := by
  rcases h with h | h
  · exact h.is
  · exact h.kp (Kp.of_below hb)

theorem RowB.one {w0 w : World} {u : Value} {t : List Int} (h : RowB w0 w u t) : u.oneCell' = true := by
  rcases h with h | h
  · obtain ⟨_, _, rfl, _⟩ := h.shape
    rfl
  · obtain ⟨_, _, rfl, _⟩ := h
    rfl

def EBd (w0 w : World) (u : Value) (b : Bd) : Prop := RowB w0 w u b.2 ∧ -9223372036854775808 ≤ b.1 ∧ b.1 ≤ 9223372036854775807 ∧ b.2.length * 8 ≤ 140737488351232

/-- The slice value v is the call's own and holds the binds s. -/
def OB (w0 w : World) (v : Value) (s : List Bd) : Prop :=
  ∃ us : List Value, us.length = s.length ∧ (∀ (i : Nat) (u : Value) (b : Bd), us[i]? = some u → s[i]? = some b → EBd w0 w u b) ∧ w.ownsRow w0.heap.size 31 2 v s.length (flatB s us)

theorem flatB_get : ∀ {s : List Bd} {us : List Value} {i : Nat} {b : Bd} {u : Value}, s[i]? = some b → us[i]? = some u → (flatB s us)[i * 2]? = some (.int .i64 b.1) ∧ (flatB s us)[i * 2 + 1]? = some u
  | [], _, i, _, _, h, _ => by simp at h
  | _ :: _, [], i, _, _, _, h => by simp at h
  | a :: s, v :: us, 0, b, u, h, k => by
    simp at h k
    subst h
    subst k
    exact ⟨by simp [flatB], by simp [flatB]⟩
  | a :: s, v :: us, i + 1, b, u, h, k => by
    rw [List.getElem?_cons_succ] at h k
    obtain ⟨h1, h2⟩ := flatB_get h k
    have e : flatB (a :: s) (v :: us) = .int .i64 a.1 :: v :: flatB s us := rfl
    rw [e]
    refine ⟨?_, ?_⟩
    · rw [show (i + 1) * 2 = i * 2 + 1 + 1 by omega]; simpa using h1
    · rw [show (i + 1) * 2 + 1 = i * 2 + 1 + 1 + 1 by omega]; simpa using h2

theorem flatB_len : ∀ {s : List Bd} {us : List Value}, us.length = s.length → (flatB s us).length = s.length * 2
  | [], us, h => by simp [flatB]
  | a :: s, [], h => by simp at h
  | a :: s, u :: us, h => by
    have e : flatB (a :: s) (u :: us) = .int .i64 a.1 :: u :: flatB s us := rfl
    rw [e, List.length_cons, List.length_cons, flatB_len (by simpa using h), List.length_cons]
    omega

theorem flatB_append : ∀ {s r : List Bd} {us vs : List Value}, us.length = s.length → flatB (s ++ r) (us ++ vs) = flatB s us ++ flatB r vs := by
  intro s r us vs h
  unfold flatB
  rw [List.zip_append h.symm, List.flatMap_append]

theorem flatB_one : ∀ {s : List Bd} {us : List Value}, (∀ u ∈ us, u.oneCell' = true) → ∀ c ∈ flatB s us, c.oneCell' = true
  | [], _, _, c, hc => by simp [flatB] at hc
  | _ :: _, [], _, c, hc => by simp [flatB] at hc
  | a :: s, u :: us, h, c, hc => by
    have e : flatB (a :: s) (u :: us) = .int .i64 a.1 :: u :: flatB s us := rfl
    rw [e] at hc
    cases hc with
    | head => rfl
    | tail _ hc =>
      cases hc with
      | head => exact h u (.head _)
      | tail _ hc => exact flatB_one (fun x hx => h x (.tail _ hx)) c hc

theorem OB.bs {w0 w : World} {v : Value} {s : List Bd} (h : OB w0 w v s) (hb : Below w0.heap.size w0 w) : Bs w v s := by
  obtain ⟨us, hl, hc, ho⟩ := h
  have ho2 := ho
  rcases ho2.2 with ⟨rfl, hn⟩ | ⟨g, cap, cur, rfl, hbg, hg, hcap, hm, hs, ht⟩
  · obtain rfl := List.eq_nil_of_length_eq_zero hn
    exact Row.nil (by simp [maxLen])
  · refine ⟨_, cap, rfl, hcap, hm, fun _ => ⟨g, 0, rfl, (Array.getElem?_eq_some_iff.1 hg).1, ?_⟩⟩
    intro k b hk
    have hlt : k < s.length := (List.getElem?_eq_some_iff.1 hk).1
    have hck : us[k]? = some us[k] := List.getElem?_eq_getElem (by omega)
    obtain ⟨h1, h2⟩ := flatB_get hk hck
    obtain ⟨o1, o2, o3, o4⟩ := hc k _ b hck hk
    refine ⟨o2, o3, o4, ?_, us[k], ?_, o1.is hb⟩
    · rw [Nat.zero_add, World.ownsRow.cellAt ho2 (k * 2) (by omega)]
      exact h1
    · rw [Nat.zero_add, World.ownsRow.cellAt ho2 (k * 2 + 1) (by omega)]
      exact h2

theorem RowB.later {w0 w w' : World} {u : Value} {t : List Int} (h : RowB w0 w u t) (hb : Below w.heap.size w w') : RowB w0 w' u t := by
  rcases h with h | h
  · exact .inl (h.later hb)
  · exact .inr h

theorem OB.later {w0 w w' : World} {v : Value} {s : List Bd} (h : OB w0 w v s) (hb : Below w.heap.size w w') : OB w0 w' v s := by
  obtain ⟨us, hl, hc, ho⟩ := h
  exact ⟨us, hl, fun i u b h1 h2 => ⟨(hc i u b h1 h2).1.later hb, (hc i u b h1 h2).2⟩, ownsRow_later ho hb⟩

theorem OB.empty (w0 w : World) (hb : w0.heap.size ≤ w.heap.size) : OB w0 (w.alloc (.cells #[] 31)) (.slice (some ⟨w.heap.size, 0, none⟩) 0 0) [] :=
  ⟨[], rfl, fun i c m h => (by simp at h), rfl, .inr ⟨w.heap.size, 0, #[], rfl, hb, heap_alloc_new _ _, Nat.le_refl _, Nat.zero_le _, rfl, rfl⟩⟩

theorem OB.shape {w0 w : World} {v : Value} {s : List Bd} (h : OB w0 w v s) : ∃ ao cap, v = .slice ao s.length cap ∧ s.length ≤ cap ∧ cap ≤ maxLen := by
  obtain ⟨us, hl, hc, ho⟩ := h
  rcases ho.2 with ⟨rfl, hn⟩ | ⟨g, cap, cur, rfl, hb, hg, hc, hm, hs, ht⟩
  · exact ⟨none, 0, by rw [hn], by omega, by simp [maxLen]⟩
  · exact ⟨_, cap, rfl, hc, hm⟩

/-- Binds in memory joined to one's own. -/
theorem OB.join (ty : TypeId) {w0 w : World} {v : Value} {s r : List Bd} {us : List Value} (h : OB w0 w v s) (hb : Below w0.heap.size w0 w) {g off cap : Nat} (_hr : 0 < r.length) (hu : us.length = r.length)
    (hcell : ∀ (j : Nat) (c : Value), (flatB r us)[j]? = some c → w.cell? ⟨g, off + j, none⟩ = some c) (hE : ∀ (i : Nat) (u : Value) (b : Bd), us[i]? = some u → r[i]? = some b → EBd w0 w u b) (hlen : (s.length + r.length) * 32 ≤ 140737488355328) :
    ∃ v' w', (Builtin.append_ #[25, 25] ty #[v, .slice (some ⟨g, off, none⟩) r.length cap]).run Tryd.prog w = .ok v' w' ∧ OB w0 w' v' (s ++ r) ∧ Below w0.heap.size w0 w' := by
  obtain ⟨i1, hi1, hy0, hy1, hy2⟩ := info_parts info_bind
  obtain ⟨vs, hl, hc, ho⟩ := h
  obtain ⟨v', w', hrun, h2, h3, _, _⟩ := run_append_own_at (P := Tryd.prog) w w0.heap.size 25 ty 31 i1 _ 2 32 under_binds hi1 hy0 hy1 hy2 rfl (by decide) v s.length (flatB s vs) ho ⟨g, off, none⟩ r.length cap (flatB r us) (by rw [flatB_len hu])
    (fun j c hj => by rw [Addr.add_lit]; exact hcell j c hj)
    (flatB_one fun u hu2 => by
      obtain ⟨i, hi, rfl⟩ := List.getElem_of_mem hu2
      obtain ⟨b, hbx⟩ : ∃ b, r[i]? = some b := ⟨_, List.getElem?_eq_getElem (by omega)⟩
      exact (hE i _ b (List.getElem?_eq_getElem hi) hbx).1.one) (by unfold maxLen; omega) (by omega) hb.size
  have hk : ∀ {u : Value} {t : List Int}, RowB w0 w u t → RowB w0 w' u t := fun {u t} hu => by
    rcases hu with hu | hu
    · exact .inl (hu.kept h3 (ownsRow_apart hu.2 ho (by decide)))
    · exact .inr hu
  refine ⟨v', w', hrun, ⟨vs ++ us, by rw [List.length_append, List.length_append, hl, hu], fun i u b h1 h4 => ?_, ?_⟩, hb.grown h3 hb.size (fun j hj => own_blk ho hj)⟩
  · by_cases hi : i < vs.length
    · rw [List.getElem?_append_left hi] at h1
      rw [List.getElem?_append_left (by omega)] at h4
      exact ⟨hk (hc i u b h1 h4).1, (hc i u b h1 h4).2⟩
    · rw [List.getElem?_append_right (by omega)] at h1
      rw [List.getElem?_append_right (by omega), ← hl] at h4
      exact ⟨hk (hE _ u b h1 h4).1, (hE _ u b h1 h4).2⟩
  · rw [List.length_append, flatB_append hl]
    exact h2

/-- One bind joined. -/
theorem OB.snoc (ty : TypeId) {w0 w : World} {v u : Value} {s : List Bd} {x : Int} {t : List Int} (h : OB w0 w v s) (hb : Below w0.heap.size w0 w) (hE : EBd w0 w u (x, t)) (hlen : (s.length + 1) * 32 ≤ 140737488355328) :
    ∃ v' w', (Builtin.append_ #[25, 25] ty #[v, .slice (some ⟨w.heap.size, 0, none⟩) 1 1]).run Tryd.prog (w.alloc (.cells #[.int .i64 x, u] 31)) = .ok v' w' ∧ OB w0 w' v' (s ++ [(x, t)]) ∧ Below w0.heap.size w0 w' := by
  have ha := below_alloc (w := w) (.cells #[.int .i64 x, u] 31)
  refine (h.later ha).join ty (r := [(x, t)]) (us := [u]) (below_step hb ha) (by simp) rfl (fun j c hj => ?_) (fun i u' b h1 h2 => ?_) (by simpa using hlen)
  · rw [Nat.zero_add, cell_of_row _ _ _ _ _ _ (heap_alloc_new _ _)]
    simpa [flatB] using hj
  · have hi : i = 0 := by
      have := (List.getElem?_eq_some_iff.1 h1).1
      simp at this
      omega
    subst hi
    simp at h1 h2
    subst h1
    subst h2
    exact ⟨hE.1.later ha, hE.2⟩

/-- Binds that were there joined. -/
theorem OB.old (ty : TypeId) {w0 w : World} {v u : Value} {s r : List Bd} (h : OB w0 w v s) (hb : Below w0.heap.size w0 w) (hr : Bs w0 u r) (hlen : (s.length + r.length) * 32 ≤ 140737488355328) :
    ∃ v' w', (Builtin.append_ #[25, 25] ty #[v, u]).run Tryd.prog w = .ok v' w' ∧ OB w0 w' v' (s ++ r) ∧ Below w0.heap.size w0 w' := by
  obtain ⟨i1, hi1, hy0, hy1, hy2⟩ := info_parts info_bind
  obtain ⟨ao, cap, rfl, hc, hm, hx⟩ := hr
  by_cases h0 : r.length = 0
  · obtain rfl : r = [] := List.eq_nil_of_length_eq_zero h0
    obtain ⟨bo, bc, rfl, hbc, _⟩ := h.shape
    refine ⟨_, w, run_append_nothing w 25 25 ty 31 i1 under_binds hi1 _ s.length bc hbc _ ?_, by rw [List.append_nil]; exact h, hb⟩
    cases ao with
    | none => exact Src.ofNil w under_binds _
    | some a => exact Src.ofSlice w under_binds a 0 _ [] (by simp) (fun j u hj => (by simp at hj)) (fun u hu => (by simp at hu))
  · obtain ⟨g, off, rfl, hg, hcell⟩ := hx (by omega)
    have each : ∀ i, i < r.length → ∃ u : Value, ∀ b, r[i]? = some b → w0.cell? ⟨g, off + i * 2, none⟩ = some (.int .i64 b.1) ∧ w0.cell? ⟨g, off + i * 2 + 1, none⟩ = some u ∧ EBd w0 w u b := fun i hi => by
      obtain ⟨b, hbx⟩ : ∃ b, r[i]? = some b := ⟨_, List.getElem?_eq_getElem hi⟩
      obtain ⟨h1, h2, h3, h4, u, h5, h6⟩ := hcell i b hbx
      refine ⟨u, fun b' hb' => ?_⟩
      rw [hbx] at hb'
      cases hb'
      exact ⟨h4, h5, .inr h6, h1, h2, h3⟩
    obtain ⟨q, hq⟩ := Deep.choose_lt each
    refine h.join ty (r := r) (us := (List.range r.length).map q) hb (by omega) (by simp) (fun j c hj => ?_) (fun i u b h1 h2 => ?_) hlen
    · have hjl := (List.getElem?_eq_some_iff.1 hj).1
      rw [flatB_len (by simp)] at hjl
      obtain ⟨b, hbx⟩ : ∃ b, r[j / 2]? = some b := ⟨_, List.getElem?_eq_getElem (by omega)⟩
      have hux : ((List.range r.length).map q)[j / 2]? = some (q (j / 2)) := by simp [List.getElem?_range (show j / 2 < r.length by omega)]
      obtain ⟨f1, f2⟩ := flatB_get hbx hux
      obtain ⟨c1, c2, _⟩ := hq (j / 2) (by omega) b hbx
      by_cases hpar : j % 2 = 0
      · rw [show j / 2 * 2 = j by omega] at f1 c1
        rw [f1] at hj
        cases hj
        exact (Kp.of_below hb).cell _ _ c1
      · rw [show j / 2 * 2 + 1 = j by omega] at f2
        rw [f2] at hj
        cases hj
        rw [show off + j / 2 * 2 + 1 = off + j by omega] at c2
        exact (Kp.of_below hb).cell _ _ c2
    · have hi := (List.getElem?_eq_some_iff.1 h2).1
      rw [List.getElem?_map, List.getElem?_range hi, Option.map_some, Option.some.injEq] at h1
      subst h1
      exact (hq i hi b h2).2.2

end Go.Proofs.YtpnkplidhbbliaaDoor

/- Rows of trees of package match: cloned, turned round. -/
namespace Go.Proofs.YtpnkplidhbbliaaDoor
open Go.RowKit Go.Maps

end Go.Proofs.YtpnkplidhbbliaaDoor

/- Trees of package match in memory; apply. -/
namespace Go.Proofs.YtpnkplidhbbliaaDoor
open Go.RowKit Go.Maps

/-- The codes from a place on. -/
def cdS (b o c : Nat) (p n : Nat) : Value := .slice (some ⟨b, o + p, none⟩) n (c - p)

end Go.Proofs.YtpnkplidhbbliaaDoor

/- The tree of a right term, of package match: where grow stands. -/
namespace Go.Proofs.YtpnkplidhbbliaaDoor
open Go.RowKit Go.Maps Go.Shelf

attribute [local go_sem] Oper.semAt_some

end Go.Proofs.YtpnkplidhbbliaaDoor

/- grow of package match walked. -/
namespace Go.Proofs.YtpnkplidhbbliaaDoor
open Go.RowKit Go.Maps Go.Shelf

attribute [local go_sem] Oper.semAt_some

theorem rev_take {α : Type} (l : List α) {r : Nat} (_hr : r ≤ l.length) : (l.drop r).reverse = l.reverse.take (l.length - r) := by
  have e1 : l.reverse = (l.drop r).reverse ++ (l.take r).reverse := by rw [← List.reverse_append, List.take_append_drop]
  rw [e1, show l.length - r = (l.drop r).reverse.length by rw [List.length_reverse, List.length_drop], List.take_left]

/-- The frame of a round. -/
def growMA (sv v : Value) (B : Nat) (t : List Int) (k : Nat) : Act :=
  { tmps := #[sv, v, .pointer (some ⟨B, 0, none⟩), .pointer (some ⟨B + 1, 0, none⟩), .nilIface, .pointer (some ⟨B + 1 + 1, 0, none⟩), .int .i64 ((t.length - 1 - k : Nat) : Int), .int .i64 (t.reverse[k]?.getD 0), undef, undef, v, .func (.func 77) #[] #[.pointer (some ⟨B + 1 + 1 + 1, 0, none⟩)], .int .i64 ((t.length - 1 - k : Nat) : Int), .int .i64 (t.reverse[k]?.getD 0), undef, undef, undef, undef, undef, undef, undef, undef, undef, undef, undef, undef, undef, undef, undef, undef, undef, undef, undef, undef, undef, undef, undef, undef, undef, undef, undef, undef, undef, undef, undef, undef, undef, undef, undef, undef, undef, undef, undef], defers := [] }

end Go.Proofs.YtpnkplidhbbliaaDoor

/- slices.Equal at ints walked. -/
namespace Go.Proofs.YtpnkplidhbbliaaDoor
open Go.RowKit Go.Maps Go.BigFrame

end Go.Proofs.YtpnkplidhbbliaaDoor

/- bindAlike and argumentPairs walked. -/
namespace Go.Proofs.YtpnkplidhbbliaaDoor
open Go.RowKit Go.Maps Go.BigFrame

/-- What the map holds: rows of codes. -/
def Rows2 (w : World) (L : List (Int × Value)) (R : List (Int × List Int)) : Prop := L.map (·.1) = R.map (·.1) ∧ ∀ n v, L.lookup n = some v → ∃ u, R.lookup n = some u ∧ Is w v u

theorem zero_rowI (w : World) : (zeroValue 23).run Tryd.prog w = .ok (.slice none 0 0) w := by kernel_rfl
theorem under_mapI : Tryd.prog.underlying 85 = some (.map 3 23) := by kernel_rfl

/-- Pairs of trees. -/
def prC (xs : List (Value × Value)) : List Value := xs.flatMap fun p => [p.1, p.2]

theorem prC_len : ∀ xs : List (Value × Value), (prC xs).length = xs.length * 2
  | [] => rfl
  | p :: xs => by
    have := prC_len xs
    simp only [prC, List.flatMap_cons, List.length_append, List.length_cons, List.length_nil] at this ⊢
    omega

theorem prC_app (xs ys : List (Value × Value)) : prC (xs ++ ys) = prC xs ++ prC ys := by simp [prC, List.flatMap_append]

theorem prC_at : ∀ (xs : List (Value × Value)) (k : Nat) (p : Value × Value), xs[k]? = some p → (prC xs)[k * 2]? = some p.1 ∧ (prC xs)[k * 2 + 1]? = some p.2
  | [], k, p, h => by simp at h
  | q :: xs, 0, p, h => by
    simp only [List.getElem?_cons_zero, Option.some.injEq] at h
    subst h
    exact ⟨rfl, rfl⟩
  | q :: xs, k + 1, p, h => by
    rw [List.getElem?_cons_succ] at h
    have := prC_at xs k p h
    refine ⟨?_, ?_⟩
    · rw [show (k + 1) * 2 = k * 2 + 1 + 1 by omega]
      exact this.1
    · rw [show (k + 1) * 2 + 1 = k * 2 + 1 + 1 + 1 by omega]
      exact this.2

end Go.Proofs.YtpnkplidhbbliaaDoor

/- Binds whose rows are the call's own; a look into a map of rows. -/
namespace Go.Proofs.YtpnkplidhbbliaaDoor
open Go.RowKit Go.Maps

theorem MapV.lookOne {w : World} {b : Nat} {L : List (Int × Value)} (h : MapV w b L) {t e : TypeId} {z : Value} (ht : Tryd.prog.underlying t = some (.map 3 e)) (hz : (zeroValue e).run Tryd.prog w = .ok z w) {k : Int} (h1 : -9223372036854775808 ≤ k) (h2 : k ≤ 9223372036854775807) {u : Value} (hl : L.lookup k = some u) :
    (Instr.lookup t (.map (some b)) (.int .i64 k) false).run Tryd.prog w = .ok u w := by
  obtain ⟨D, hD, _, ha, hh⟩ := h
  obtain ⟨v, ps, hrun, hv⟩ := hD.lookup set_keyed ht hz (zd := .held z) (zp := []) rfl (key_int h1 h2)
  rw [hrun]
  have hv2 : D.atKey (.int .i64 k) (.held z) = .held v := by
    simp only [RV, Option.some.injEq, Prod.mk.injEq] at hv
    exact hv.1.symm
  rw [ha k u hl] at hv2
  rw [DataW.held.inj hv2]

/-- A bind whose row is the call's own. -/
def EBo (base : Nat) (w : World) (u : Value) (b : Bd) : Prop := OwI w base u b.2 ∧ -9223372036854775808 ≤ b.1 ∧ b.1 ≤ 9223372036854775807 ∧ b.2.length * 8 ≤ 140737488351232

/-- The slice value v is the call's own, as its rows are, and holds the binds s. -/
def OBW (base : Nat) (w : World) (v : Value) (s : List Bd) : Prop :=
  ∃ us : List Value, us.length = s.length ∧ (∀ (i : Nat) (u : Value) (b : Bd), us[i]? = some u → s[i]? = some b → EBo base w u b) ∧ w.ownsRow base 31 2 v s.length (flatB s us)

theorem OBW.mono {base b' : Nat} {w : World} {v : Value} {s : List Bd} (h : OBW base w v s) (hb : b' ≤ base) : OBW b' w v s := by
  obtain ⟨us, hl, hc, ho⟩ := h
  refine ⟨us, hl, fun i u b h1 h2 => ⟨(hc i u b h1 h2).1.mono hb, (hc i u b h1 h2).2⟩, ho.1, ?_⟩
  rcases ho.2 with h | ⟨g, cap, cur, rfl, hg, r⟩
  · exact .inl h
  · exact .inr ⟨g, cap, cur, rfl, by omega, r⟩

theorem OBW.later {base : Nat} {w w' : World} {v : Value} {s : List Bd} (h : OBW base w v s) (hb : Below w.heap.size w w') : OBW base w' v s := by
  obtain ⟨us, hl, hc, ho⟩ := h
  exact ⟨us, hl, fun i u b h1 h2 => ⟨(hc i u b h1 h2).1.later hb, (hc i u b h1 h2).2⟩, ownsRow_later ho hb⟩

theorem OBW.nil (base : Nat) (w : World) : OBW base w (.slice none 0 0) [] := ⟨[], rfl, fun i c m h => (by simp at h), World.ownsRow_nil _ _ _ _⟩

theorem OBW.bs {base : Nat} {w : World} {v : Value} {s : List Bd} (h : OBW base w v s) : Bs w v s := by
  obtain ⟨us, hl, hc, ho⟩ := h
  have ho2 := ho
  rcases ho2.2 with ⟨rfl, hn⟩ | ⟨g, cap, cur, rfl, hbg, hg, hcap, hm, hs, ht⟩
  · obtain rfl := List.eq_nil_of_length_eq_zero hn
    exact Row.nil (by simp [maxLen])
  · refine ⟨_, cap, rfl, hcap, hm, fun _ => ⟨g, 0, rfl, (Array.getElem?_eq_some_iff.1 hg).1, ?_⟩⟩
    intro k b hk
    have hlt : k < s.length := (List.getElem?_eq_some_iff.1 hk).1
    have hck : us[k]? = some us[k] := List.getElem?_eq_getElem (by omega)
    obtain ⟨h1, h2⟩ := flatB_get hk hck
    obtain ⟨o1, o2, o3, o4⟩ := hc k _ b hck hk
    refine ⟨o2, o3, o4, ?_, us[k], ?_, o1.is⟩
    · rw [Nat.zero_add, World.ownsRow.cellAt ho2 (k * 2) (by omega)]
      exact h1
    · rw [Nat.zero_add, World.ownsRow.cellAt ho2 (k * 2 + 1) (by omega)]
      exact h2

/-- One bind joined. -/
theorem OBW.snoc (ty : TypeId) {base : Nat} {w : World} {v u : Value} {s : List Bd} {x : Int} {t : List Int} (h : OBW base w v s) (hb : base ≤ w.heap.size) (hE : EBo base w u (x, t)) (hlen : (s.length + 1) * 32 ≤ 140737488355328) :
    ∃ v' w', (Builtin.append_ #[25, 25] ty #[v, .slice (some ⟨w.heap.size, 0, none⟩) 1 1]).run Tryd.prog (w.alloc (.cells #[.int .i64 x, u] 31)) = .ok v' w' ∧ OBW base w' v' (s ++ [(x, t)]) ∧ (w.alloc (.cells #[.int .i64 x, u] 31)).grownBy w' v.ownBlock ∧ (∀ j, v.ownBlock = some j → base ≤ j ∧ w.heap[j]? ≠ none ∧ ∃ cs, w.heap[j]? = some (.cells cs 31)) := by
  obtain ⟨i1, hi1, hy0, hy1, hy2⟩ := info_parts info_bind
  have ha := below_alloc (w := w) (.cells #[.int .i64 x, u] 31)
  have h' := h.later ha
  obtain ⟨us, hl, hc, ho0⟩ := h
  obtain ⟨vs, hl', hc', ho⟩ := h'
  have hone : u.oneCell' = true := by obtain ⟨_, _, rfl, _⟩ := hE.1.shape; rfl
  obtain ⟨v', w', hrun, h2, h3, _, _⟩ := run_append_own_at (P := Tryd.prog) (w.alloc (.cells #[.int .i64 x, u] 31)) base 25 ty 31 i1 _ 2 32 under_binds hi1 hy0 hy1 hy2 rfl (by decide) v s.length (flatB s vs) ho ⟨w.heap.size, 0, none⟩ 1 1 [.int .i64 x, u] rfl
    (fun j c hj => by
      rw [Addr.add_lit, Nat.zero_add, cell_of_row _ _ _ _ _ _ (heap_alloc_new _ _)]
      simpa using hj)
    (fun c hc => by
      simp only [List.mem_cons, List.not_mem_nil, or_false] at hc
      rcases hc with rfl | rfl
      · rfl
      · exact hone) (by unfold maxLen; omega) (by omega) (Nat.le_trans hb ha.size)
  have hk : ∀ {y : Value} {b : Bd}, EBo base (w.alloc (.cells #[.int .i64 x, u] 31)) y b → EBo base w' y b := fun {y b} hy => ⟨hy.1.kept h3 (ownsRow_apart hy.1.2 ho (by decide)), hy.2⟩
  refine ⟨v', w', hrun, ⟨vs ++ [u], by rw [List.length_append, List.length_append, hl']; rfl, fun i y b h1 h4 => ?_, ?_⟩, h3, fun j hj => ?_⟩
  · by_cases hi : i < vs.length
    · rw [List.getElem?_append_left hi] at h1
      rw [List.getElem?_append_left (by omega)] at h4
      exact hk (hc' i y b h1 h4)
    · rw [List.getElem?_append_right (by omega)] at h1
      rw [List.getElem?_append_right (by omega), ← hl'] at h4
      have hi : i - vs.length = 0 := by
        have := (List.getElem?_eq_some_iff.1 h1).1
        simp at this
        omega
      rw [hi] at h1 h4
      simp at h1 h4
      subst h1
      subst h4
      exact hk ⟨hE.1.later ha, hE.2⟩
  · rw [List.length_append, flatB_append hl']
    exact h2
  · rcases ho0.2 with ⟨rfl, _⟩ | ⟨g, cap, cur, rfl, hbg, hg, _⟩
    · cases hj
    · cases hj
      exact ⟨hbg, by rw [hg]; simp, cur, hg⟩

end Go.Proofs.YtpnkplidhbbliaaDoor

/- slices.Sort at []int laid; risingBinds of package match walked. -/
namespace Go.Proofs.YtpnkplidhbbliaaDoor
open Go.RowKit Go.Maps

def sortI (xs : List Int) : List Int := xs.mergeSort fun x y => decide (x ≤ y)

theorem sortI_len (xs : List Int) : (sortI xs).length = xs.length := by unfold sortI; simp

theorem sortI_mem (xs : List Int) (x : Int) : x ∈ sortI xs ↔ x ∈ xs := by unfold sortI; simp

def Tryd.sortLay_ren : Go.Shelf.Ren := ⟨fun | 189 => 67 | 125 => 84 | 257 => 83 | 128 => 98 | 129 => 99 | 294 => 89 | 295 => 90 | 296 => 91 | 297 => 92 | 298 => 93 | 299 => 94 | 216 => 95 | 300 => 96 | 301 => 97 | 328 => 105 | 329 => 106 | 330 => 107 | 331 => 108 | 332 => 109 | 215 => 110 | 343 => 113 | n => n, fun | 28 => 23 | 3 => 3 | 46 => 122 | 0 => 0 | 51 => 135 | 53 => 137 | 4 => 4 | 183 => 128 | 182 => 127 | 131 => 132 | 5 => 5 | 9 => 9 | 218 => 139 | 222 => 143 | 228 => 151 | 229 => 152 | n => n, fun | n => n⟩
theorem Tryd.sortLay : Go.Proofs.Lays.n189 Tryd.prog Tryd.sortLay_ren := {
  mixed := by kernel_rfl
  f125 := Tryd.func84.trans (congrArg some (by kernel_rfl))
  f128 := Tryd.func98.trans (congrArg some (by kernel_rfl))
  f129 := Tryd.func99.trans (congrArg some (by kernel_rfl))
  f189 := Tryd.func67.trans (congrArg some (by kernel_rfl))
  f215 := Tryd.func110.trans (congrArg some (by kernel_rfl))
  f216 := Tryd.func95.trans (congrArg some (by kernel_rfl))
  f257 := Tryd.func83.trans (congrArg some (by kernel_rfl))
  f294 := Tryd.func89.trans (congrArg some (by kernel_rfl))
  f295 := Tryd.func90.trans (congrArg some (by kernel_rfl))
  f296 := Tryd.func91.trans (congrArg some (by kernel_rfl))
  f297 := Tryd.func92.trans (congrArg some (by kernel_rfl))
  f298 := Tryd.func93.trans (congrArg some (by kernel_rfl))
  f299 := Tryd.func94.trans (congrArg some (by kernel_rfl))
  f300 := Tryd.func96.trans (congrArg some (by kernel_rfl))
  f301 := Tryd.func97.trans (congrArg some (by kernel_rfl))
  f328 := Tryd.func105.trans (congrArg some (by kernel_rfl))
  f329 := Tryd.func106.trans (congrArg some (by kernel_rfl))
  f330 := Tryd.func107.trans (congrArg some (by kernel_rfl))
  f331 := Tryd.func108.trans (congrArg some (by kernel_rfl))
  f332 := Tryd.func109.trans (congrArg some (by kernel_rfl))
  f343 := Tryd.func113.trans (congrArg some (by kernel_rfl))
  t0 := Tryd.underlying0
  a0 := Tryd.isAgg0
  z0 := Tryd.sizeOf0
  v0 := Tryd.zeroValue0
  t3 := Tryd.underlying3
  a3 := Tryd.isAgg3
  z3 := Tryd.sizeOf3
  v3 := Tryd.zeroValue3
  t4 := Tryd.underlying4
  a4 := Tryd.isAgg4
  z4 := Tryd.sizeOf4
  v4 := Tryd.zeroValue4
  t5 := Tryd.underlying5
  a5 := Tryd.isAgg5
  z5 := Tryd.sizeOf5
  v5 := Tryd.zeroValue5
  t9 := Tryd.underlying9
  a9 := Tryd.isAgg9
  z9 := Tryd.sizeOf9
  v9 := Tryd.zeroValue9
  t28 := Tryd.underlying23
  a28 := Tryd.isAgg23
  z28 := Tryd.sizeOf23
  v28 := Tryd.zeroValue23
  t46 := Tryd.underlying122
  a46 := Tryd.isAgg122
  z46 := Tryd.sizeOf122
  v46 := Tryd.zeroValue122
  t51 := Tryd.underlying135
  a51 := Tryd.isAgg135
  z51 := Tryd.sizeOf135
  v51 := Tryd.zeroValue135
  t53 := Tryd.underlying137
  a53 := Tryd.isAgg137
  z53 := Tryd.sizeOf137
  v53 := Tryd.zeroValue137
  t131 := Tryd.underlying132
  a131 := Tryd.isAgg132
  z131 := Tryd.sizeOf132
  v131 := Tryd.zeroValue132
  t182 := Tryd.underlying127
  a182 := Tryd.isAgg127
  z182 := Tryd.sizeOf127
  v182 := Tryd.zeroValue127
  t183 := Tryd.underlying128
  a183 := Tryd.isAgg128
  z183 := Tryd.sizeOf128
  v183 := Tryd.zeroValue128
  t218 := Tryd.underlying139
  a218 := Tryd.isAgg139
  z218 := Tryd.sizeOf139
  v218 := Tryd.zeroValue139
  t222 := Tryd.underlying143
  a222 := Tryd.isAgg143
  z222 := Tryd.sizeOf143
  v222 := Tryd.zeroValue143
  t228 := Tryd.underlying151
  a228 := Tryd.isAgg151
  z228 := Tryd.sizeOf151
  v228 := Tryd.zeroValue151
  t229 := Tryd.underlying152
  a229 := Tryd.isAgg152
  z229 := Tryd.sizeOf152
  v229 := Tryd.zeroValue152 }

set_option maxRecDepth 100000 in
set_option maxHeartbeats 800000 in
theorem sortI_any (v : Value) (xs : List Int) (w : World) (base : Nat) (ho : OwI w base v xs) (hn : xs.length < 4611686018427387904) :
    Calls Tryd.prog 67 #[v] w fun e w' => e = .returned (.tuple #[]) ∧ OwI w' base v (sortI xs) ∧ w.grownBy w' v.ownBlock := by
  have hz : ZI (sortI xs) := fun k x hk => by
    obtain ⟨j, hj⟩ := List.getElem?_of_mem ((sortI_mem xs x).1 (List.mem_of_getElem? hk))
    exact ho.1 j x hj
  rcases ho.2.2 with ⟨rfl, h0⟩ | ⟨g, cap, cur, rfl, hb, hg, hc, hm, hs, ht⟩
  · obtain rfl : xs = [] := List.eq_nil_of_length_eq_zero h0
    have hcon := Any.slices_Sort_int_none Tryd.sortLay none 0 w
    change Calls Tryd.prog 67 _ _ _ at hcon
    refine hcon.mono ?_
    rintro e w' ⟨rfl, rfl⟩
    exact ⟨rfl, by simpa [sortI] using ho, World.grownBy.refl _ _⟩
  · rw [Nat.mul_one] at ht
    have hcon := Any.slices_Sort_int Tryd.sortLay g 0 cap xs w (holds_of_blockI hg ht) (Array.getElem?_eq_some_iff.1 hg).1 hn
    change Calls Tryd.prog 67 _ _ _ at hcon
    refine hcon.mono ?_
    rintro e w' ⟨rfl, n, os, rfl⟩
    refine ⟨rfl, ⟨hz, ?_⟩, grownBy_sortedI _⟩
    have := ownsRow_sortedI (n := n) (os := os) (sortI_len xs) hb hg hc hm hs
    rw [sortI_len]
    exact this

end Go.Proofs.YtpnkplidhbbliaaDoor

/- Rows that rise, plainly. -/
namespace Go.Proofs.YtpnkplidhbbliaaDoor
open Go.RowKit Go.Maps

theorem rise_eq : ∀ {a b : List Int}, a.Pairwise (· < ·) → b.Pairwise (· < ·) → (∀ x, x ∈ a ↔ x ∈ b) → a = b
  | [], [], _, _, _ => rfl
  | [], y :: b, _, _, h => absurd ((h y).2 (by simp)) (by simp)
  | x :: a, [], _, _, h => absurd ((h x).1 (by simp)) (by simp)
  | x :: a, y :: b, ha, hb, h => by
    rw [List.pairwise_cons] at ha hb
    have hxy : x = y := by
      rcases List.mem_cons.1 ((h x).1 (by simp)) with e | e
      · exact e
      · rcases List.mem_cons.1 ((h y).2 (by simp)) with e2 | e2
        · exact e2.symm
        · have := hb.1 x e
          have := ha.1 y e2
          omega
    subst hxy
    rw [rise_eq ha.2 hb.2 fun z => ?_]
    constructor
    · intro hz
      rcases List.mem_cons.1 ((h z).1 (by simp [hz])) with e | e
      · have := ha.1 z hz; omega
      · exact e
    · intro hz
      rcases List.mem_cons.1 ((h z).2 (by simp [hz])) with e | e
      · have := hb.1 z hz; omega
      · exact e

theorem sortI_rise {xs : List Int} (h : xs.Nodup) : (sortI xs).Pairwise (· < ·) := by
  have h1 : (sortI xs).Pairwise (fun a b => decide (a ≤ b) = true) := List.pairwise_mergeSort (fun a b c => by simp; omega) (fun a b => by simp; omega) xs
  have h2 : (sortI xs).Nodup := (List.mergeSort_perm xs _).symm.nodup h
  refine (h1.and h2).imp ?_
  rintro a b ⟨h3, h4⟩
  have h5 : a ≤ b := by simpa using h3
  have h6 : a ≠ b := h4
  omega

theorem vars_once (t : List Int) : (varsL t).Nodup := by
  unfold varsL
  refine List.Pairwise.map _ ?_ (met_once t [] (by simp))
  intro a b hab e
  omega

/-- The least of those that are later. -/
theorem sel_next {S : List Int} (h : S.Pairwise (· < ·)) {k : Nat} {s : Int} (hs : S[k]? = some s) : (∀ j y, j + 1 = k → S[j]? = some y → y < s) ∧ ∀ x ∈ S, (∀ j y, j + 1 = k → S[j]? = some y → y < x) → s ≤ x := by
  have hlt : ∀ (i j : Nat) (a b : Int), S[i]? = some a → S[j]? = some b → i < j → a < b := fun i j a b ha hb hij => by
    obtain ⟨h1, rfl⟩ := List.getElem?_eq_some_iff.1 ha
    obtain ⟨h2, rfl⟩ := List.getElem?_eq_some_iff.1 hb
    exact (List.pairwise_iff_getElem.1 h) i j h1 h2 hij
  refine ⟨fun j y hj hy => hlt j k y s hy hs (by omega), fun x hx hl => ?_⟩
  obtain ⟨m, hm⟩ := List.getElem?_of_mem hx
  rcases Nat.lt_trichotomy m k with h1 | h1 | h1
  · obtain ⟨j, rfl⟩ : ∃ j, k = j + 1 := ⟨k - 1, by omega⟩
    have hj : j < S.length := by have := (List.getElem?_eq_some_iff.1 hs).1; omega
    have h2 := hl j S[j] rfl (List.getElem?_eq_getElem hj)
    rcases Nat.lt_or_ge m j with h3 | h3
    · have := hlt m j x S[j] hm (List.getElem?_eq_getElem hj) h3
      omega
    · obtain rfl : m = j := by omega
      rw [List.getElem?_eq_getElem hj] at hm
      simp at hm
      omega
  · subst h1
    rw [hs] at hm
    simp at hm
    omega
  · exact Int.le_of_lt (hlt k m s x hs hm h1)

end Go.Proofs.YtpnkplidhbbliaaDoor

/- areTerms of package match walked. -/
namespace Go.Proofs.YtpnkplidhbbliaaDoor
open Go.RowKit Go.Maps

def termsB (sig : List Sy) (l : List (List Int)) : Bool := l.all fun t => decide (termE sig t = 0)

theorem termsB_take {sig : List Sy} {l : List (List Int)} {k : Nat} {t : List Int} (h : l[k]? = some t) : termsB sig (l.take (k + 1)) = (termsB sig (l.take k) && decide (termE sig t = 0)) := by
  unfold termsB
  rw [take_get h, List.all_append]
  simp

theorem termsB_no {sig : List Sy} {l : List (List Int)} {k : Nat} {t : List Int} (h : l[k]? = some t) (hn : termE sig t ≠ 0) : termsB sig l = false := by
  unfold termsB
  rw [List.all_eq_false]
  exact ⟨t, List.mem_of_getElem? h, by simpa using hn⟩

end Go.Proofs.YtpnkplidhbbliaaDoor

/- argumentPairs walked. -/
namespace Go.Proofs.YtpnkplidhbbliaaDoor
open Go.RowKit Go.Maps Go.BigFrame

/-- The tree is that of the term at a place of a row. -/
def Wf (sig : List Sy) (r : List Int) (T : Tr) (q : Nat) : Prop := ∃ u rest, r.drop q = u ++ rest ∧ rowE sig u = 0 ∧ growR sig u = [T]

theorem Wf.size {sig : List Sy} {r : List Int} {T : Tr} {q : Nat} (h : Wf sig r T q) : q + T.size ≤ r.length := by
  obtain ⟨u, rest, h1, h2, h3⟩ := h
  have h4 := growR_sizes sig u
  rw [h3] at h4
  have h5 := congrArg List.length h1
  have h6 := T.pos
  simp only [List.length_drop, List.length_append, sizes] at h4 h5
  omega

theorem Wf.row {sig : List Sy} {r : List Int} {T : Tr} {q : Nat} (h : Wf sig r T q) : rowE sig ((r.drop q).take T.size) = 0 ∧ growR sig ((r.drop q).take T.size) = [T] := by
  obtain ⟨u, rest, h1, h2, h3⟩ := h
  have h4 := growR_sizes sig u
  rw [h3] at h4
  simp only [sizes] at h4
  have h5 : (r.drop q).take T.size = u := by rw [h1, show T.size = u.length by omega, List.take_left]
  rw [h5]
  exact ⟨h2, h3⟩

theorem drop_head {r : List Int} {q : Nat} {c : Int} {l : List Int} (h : r.drop q = c :: l) : r[q]? = some c ∧ r.drop (q + 1) = l := by
  constructor
  · have := congrArg (·[0]?) h
    simpa [List.getElem?_drop] using this
  · rw [← List.drop_drop, h]
    rfl

theorem Wf.var {sig : List Sy} {r : List Int} {q : Nat} (h : Wf sig r .var q) : ∃ c, r[q]? = some c ∧ c < 0 := by
  obtain ⟨u, rest, h1, h2, h3⟩ := h
  cases u with
  | nil => simp [rowE, firstT] at h2
  | cons c u =>
    rw [List.cons_append] at h1
    refine ⟨c, (drop_head h1).1, ?_⟩
    by_cases hc : c < 0
    · exact hc
    · have h4 : growStep sig (growR sig u) c = [.var] := h3
      unfold growStep at h4
      rw [if_neg hc] at h4
      have h5 := congrArg List.getLast? h4
      simp at h5

theorem Wf.app {sig : List Sy} (ha : ArOk sig) {r : List Int} {ts : List Tr} {q : Nat} (h : Wf sig r (.app ts) q) : ∃ c, r[q]? = some c ∧ ¬ c < 0 ∧ ts.length = arN sig c ∧ ∀ (k : Nat) (t : Tr), ts[k]? = some t → Wf sig r t (q + 1 + sizes (ts.take k)) := by
  obtain ⟨u, rest, h1, h2, h3⟩ := h
  cases u with
  | nil => simp [rowE, firstT] at h2
  | cons c u =>
    rw [List.cons_append] at h1
    obtain ⟨h4, h5⟩ := drop_head h1
    have hc : ¬ c < 0 := fun hc => by
      have h6 : growStep sig (growR sig u) c = [.app ts] := h3
      unfold growStep at h6
      rw [if_pos hc] at h6
      have h7 := congrArg List.getLast? h6
      simp at h7
    obtain ⟨us, u1, u2, u3, u4⟩ := kids_tree ha h2 hc
    rw [h3] at u4
    simp only [List.cons.injEq, Tr.app.injEq, and_true] at u4
    have key : ∀ (vs : List (List Int)) (o : Nat) (q2 : List Int), (∀ u ∈ vs, rowE sig u = 0) → r.drop o = vs.flatten ++ q2 → (vs.flatMap (growR sig)).length = vs.length ∧ ∀ (k : Nat) (t : Tr), (vs.flatMap (growR sig))[k]? = some t → Wf sig r t (o + sizes ((vs.flatMap (growR sig)).take k)) := by
      intro vs
      induction vs with
      | nil => intro o q2 _ _; exact ⟨rfl, fun k t hk => by simp at hk⟩
      | cons v vs ih =>
        intro o q2 hv hd
        obtain ⟨T, e1, e2⟩ := grow_one ha (hv v (by simp))
        rw [List.flatten_cons, List.append_assoc] at hd
        have hd2 : r.drop (o + v.length) = vs.flatten ++ q2 := by rw [← List.drop_drop, hd, List.drop_left]
        obtain ⟨i1, i2⟩ := ih (o + v.length) q2 (fun u hu => hv u (by simp [hu])) hd2
        rw [List.flatMap_cons, e1]
        refine ⟨by simp [i1], fun k t hk => ?_⟩
        cases k with
        | zero =>
          simp only [List.singleton_append, List.getElem?_cons_zero, Option.some.injEq] at hk
          subst hk
          simp only [List.take_zero, sizes, Nat.add_zero]
          exact ⟨v, _, hd, hv v (by simp), e1⟩
        | succ k =>
          rw [List.singleton_append, List.getElem?_cons_succ] at hk
          have := i2 k t hk
          rw [List.singleton_append, List.take_succ_cons]
          simp only [sizes]
          rw [e2, ← Nat.add_assoc]
          exact this
    obtain ⟨k1, k2⟩ := key us (q + 1) rest u3 (by rw [h5, u2])
    rw [← u4] at k1 k2
    exact ⟨c, h4, hc, by rw [k1, u1], k2⟩

end Go.Proofs.YtpnkplidhbbliaaDoor

/- When binds make a pattern a term, plainly. -/
namespace Go.Proofs.YtpnkplidhbbliaaDoor
open Go.RowKit Go.Maps

/-- Binds whose rows are right terms. -/
def Rt (sig : List Sy) (f : Int → Option (List Int)) : Prop := ∀ n u, f n = some u → rowE sig u = 0

/-- The binds make the one row the other one, and have all its variables. -/
def Sm (f : Int → Option (List Int)) (p t : List Int) : Prop := (∀ c ∈ p, c < 0 → f (-1 - c) ≠ none) ∧ laidL f p = t

theorem laidL_app (f : Int → Option (List Int)) (a b : List Int) : laidL f (a ++ b) = laidL f a ++ laidL f b := by
  unfold laidL
  rw [List.flatMap_append]

theorem laidL_cons (f : Int → Option (List Int)) (c : Int) (b : List Int) : laidL f (c :: b) = piece f c ++ laidL f b := by
  unfold laidL
  rw [List.flatMap_cons]

theorem sm_var {f : Int → Option (List Int)} {c : Int} {t : List Int} (hc : c < 0) : Sm f [c] t ↔ f (-1 - c) = some t := by
  unfold Sm
  rw [laidL_cons]
  have hp : piece f c = (f (-1 - c)).getD [c] := by unfold piece; rw [if_pos hc]
  rw [hp]
  constructor
  · rintro ⟨h1, h2⟩
    have h3 := h1 c (by simp) hc
    cases hf : f (-1 - c) with
    | none => exact absurd hf h3
    | some u =>
      rw [hf] at h2
      simp [laidL] at h2
      rw [h2]
  · intro h
    rw [h]
    refine ⟨fun d hd _ => ?_, by simp [laidL]⟩
    simp at hd
    subst hd
    rw [h]
    simp

theorem sm_head {f : Int → Option (List Int)} {c d : Int} {r s : List Int} (hc : ¬ c < 0) : Sm f (c :: r) (d :: s) ↔ c = d ∧ Sm f r s := by
  unfold Sm
  rw [laidL_cons]
  have hp : piece f c = [c] := by unfold piece; rw [if_neg hc]
  rw [hp]
  constructor
  · rintro ⟨h1, h2⟩
    simp only [List.singleton_append, List.cons.injEq] at h2
    exact ⟨h2.1, fun x hx h0 => h1 x (by simp [hx]) h0, h2.2⟩
  · rintro ⟨rfl, h1, h2⟩
    refine ⟨fun x hx h0 => ?_, by rw [h2]; rfl⟩
    rcases List.mem_cons.1 hx with rfl | hx
    · omega
    · exact h1 x hx h0

theorem sm_split {f : Int → Option (List Int)} {a b s u : List Int} (hl : (laidL f a).length = s.length) : Sm f (a ++ b) (s ++ u) ↔ Sm f a s ∧ Sm f b u := by
  unfold Sm
  rw [laidL_app]
  constructor
  · rintro ⟨h1, h2⟩
    obtain ⟨h3, h4⟩ := List.append_inj h2 hl
    exact ⟨⟨fun c hc => h1 c (by simp [hc]), h3⟩, ⟨fun c hc => h1 c (by simp [hc]), h4⟩⟩
  · rintro ⟨⟨h1, h2⟩, h3, h4⟩
    refine ⟨fun c hc h0 => ?_, by rw [h2, h4]⟩
    rcases List.mem_append.1 hc with hc | hc
    · exact h1 c hc h0
    · exact h3 c hc h0

/-- Arguments one by one. -/
theorem sm_list {sig : List Sy} (ha : ArOk sig) {f : Int → Option (List Int)} (hf : Rt sig f) : ∀ (us vs : List (List Int)), us.length = vs.length → (∀ u ∈ us, rowE sig u = 0) → (∀ v ∈ vs, rowE sig v = 0) → (Sm f us.flatten vs.flatten ↔ ∀ (k : Nat) (u v : List Int), us[k]? = some u → vs[k]? = some v → Sm f u v)
  | [], [], _, _, _ => by
    refine ⟨fun _ k u v hu => by simp at hu, fun _ => ⟨fun c hc => by simp at hc, rfl⟩⟩
  | u :: us, v :: vs, hl, hu, hv => by
    have ih := sm_list ha hf us vs (by simpa using hl) (fun x hx => hu x (by simp [hx])) (fun x hx => hv x (by simp [hx]))
    rw [List.flatten_cons, List.flatten_cons]
    have hlu := row_laid ha hf (hu u (by simp))
    constructor
    · intro h
      have h2 := h.2
      rw [laidL_app] at h2
      have h3 := first_right hlu (laidL f us.flatten)
      rw [h2, first_right (hv v (by simp))] at h3
      have h4 : v.length = (laidL f u).length := by
        have := congrArg Prod.fst h3
        simp only at this
        omega
      obtain ⟨h5, h6⟩ := (sm_split h4.symm).1 h
      intro k a b ha1 hb1
      cases k with
      | zero =>
        simp only [List.getElem?_cons_zero, Option.some.injEq] at ha1 hb1
        subst ha1
        subst hb1
        exact h5
      | succ k =>
        rw [List.getElem?_cons_succ] at ha1 hb1
        exact ih.1 h6 k a b ha1 hb1
    · intro h
      have h5 := h 0 u v rfl rfl
      refine (sm_split (by rw [h5.2])).2 ⟨h5, ih.2 fun k a b ha1 hb1 => h (k + 1) a b (by simpa using ha1) (by simpa using hb1)⟩
  | [], _ :: _, hl, _, _ => by simp at hl
  | _ :: _, [], hl, _, _ => by simp at hl

/-- A pair of places: a pattern's tree and a term's. -/
structure Pr where
  P : Tr
  q1 : Nat
  T : Tr
  q2 : Nat

def Pr.pr (p : List Int) (d : Pr) : List Int := (p.drop d.q1).take d.P.size
def Pr.tr (t : List Int) (d : Pr) : List Int := (t.drop d.q2).take d.T.size
def Pr.ok (sig : List Sy) (p t : List Int) (d : Pr) : Prop := Wf sig p d.P d.q1 ∧ Wf sig t d.T d.q2

theorem take_head {r : List Int} {q : Nat} {c : Int} (h : r[q]? = some c) (n : Nat) : (r.drop q).take (n + 1) = c :: (r.drop (q + 1)).take n := by
  rw [drop_get h, List.take_succ_cons]

/-- A pattern's variable. -/
theorem pr_var {sig : List Sy} {p t : List Int} {d : Pr} (h : d.ok sig p t) (hP : d.P = .var) : ∃ c, p[d.q1]? = some c ∧ c < 0 ∧ ∀ f, Sm f (d.pr p) (d.tr t) ↔ f (-1 - c) = some (d.tr t) := by
  have h1 := h.1
  rw [hP] at h1
  obtain ⟨c, hc, h0⟩ := h1.var
  refine ⟨c, hc, h0, fun f => ?_⟩
  have : d.pr p = [c] := by
    unfold Pr.pr
    rw [hP]
    simp only [Tr.size]
    rw [take_head hc 0]
    rfl
  rw [this]
  exact sm_var h0

theorem first_of {r : List Int} {q n : Nat} (h : q + (1 + n) ≤ r.length) : ∃ c, r[q]? = some c := ⟨_, List.getElem?_eq_getElem (by omega)⟩

/-- The places of arguments. -/
def argPr (_p _t : List Int) (ts1 ts2 : List Tr) (q1 q2 : Nat) : List Pr := (List.range ts1.length).map fun k => ⟨(ts1[k]?).getD .var, q1 + 1 + sizes (ts1.take k), (ts2[k]?).getD .var, q2 + 1 + sizes (ts2.take k)⟩

theorem sizes_cut {ts : List Tr} {k : Nat} {t : Tr} (h : ts[k]? = some t) : sizes (ts.take (k + 1)) = sizes (ts.take k) + t.size := by
  rw [take_get h, sizes_app]
  simp [sizes]

/-- A row of arguments is what its trees say. -/
theorem args_flat (r : List Int) : ∀ (ts : List Tr) (o : Nat), (r.drop o).take (sizes ts) = ((List.range ts.length).map fun k => (r.drop (o + sizes (ts.take k))).take ((ts[k]?).getD .var).size).flatten
  | [], o => by simp [sizes]
  | t :: ts, o => by
    rw [List.length_cons, List.range_succ_eq_map, List.map_cons, List.flatten_cons, List.map_map]
    have ih := args_flat r ts (o + t.size)
    simp only [sizes, List.take_zero, Nat.add_zero, List.getElem?_cons_zero, Option.getD_some]
    rw [List.take_add, List.drop_drop, ih]
    congr 2
    refine List.map_congr_left fun k _ => ?_
    simp only [Function.comp, List.take_succ_cons, sizes, List.getElem?_cons_succ]
    rw [Nat.add_assoc]

/-- A pattern's symbol. -/
theorem pr_app {sig : List Sy} (ha : ArOk sig) {p t : List Int} {d : Pr} (h : d.ok sig p t) {ts1 : List Tr} (hP : d.P = .app ts1) {c x : Int} (hc : p[d.q1]? = some c) (hx : t[d.q2]? = some x) :
    (d.T = .var ∨ c ≠ x → ∀ f, ¬ Sm f (d.pr p) (d.tr t)) ∧ (∀ ts2, d.T = .app ts2 → c = x → ts2.length = ts1.length ∧ (∀ e ∈ argPr p t ts1 ts2 d.q1 d.q2, e.ok sig p t) ∧ ∀ f, Rt sig f → (Sm f (d.pr p) (d.tr t) ↔ ∀ e ∈ argPr p t ts1 ts2 d.q1 d.q2, Sm f (e.pr p) (e.tr t))) := by
  have h1 := h.1
  rw [hP] at h1
  obtain ⟨c', hc', hc0, hl1, hk1⟩ := h1.app ha
  rw [hc] at hc'
  cases hc'
  have hpr : d.pr p = c :: (p.drop (d.q1 + 1)).take (sizes ts1) := by
    unfold Pr.pr
    rw [hP]
    simp only [Tr.size]
    rw [Nat.add_comm, take_head hc]
  constructor
  · rintro hh f hs
    have htr : ∃ s, d.tr t = x :: s := by
      unfold Pr.tr
      obtain ⟨n, hn⟩ : ∃ n, d.T.size = n + 1 := ⟨d.T.size - 1, by have := d.T.pos; omega⟩
      rw [hn, take_head hx]
      exact ⟨_, rfl⟩
    obtain ⟨s, htr⟩ := htr
    rw [hpr, htr] at hs
    have := (sm_head hc0).1 hs
    rcases hh with hh | hh
    · have h2 := h.2
      rw [hh] at h2
      obtain ⟨x', hx', h0⟩ := h2.var
      rw [hx] at hx'
      cases hx'
      omega
    · exact hh this.1
  · intro ts2 hT hcx
    have h2 := h.2
    rw [hT] at h2
    obtain ⟨x', hx', hx0, hl2, hk2⟩ := h2.app ha
    rw [hx] at hx'
    cases hx'
    have hll : ts2.length = ts1.length := by rw [hl1, hl2, hcx]
    have hok : ∀ e ∈ argPr p t ts1 ts2 d.q1 d.q2, e.ok sig p t := by
      intro e he
      obtain ⟨k, hk, rfl⟩ := List.mem_map.1 he
      have hk := List.mem_range.1 hk
      have e1 : ts1[k]? = some ts1[k] := List.getElem?_eq_getElem hk
      have e2 : ts2[k]? = some (ts2[k]'(by omega)) := List.getElem?_eq_getElem (by omega)
      unfold Pr.ok
      simp only [e1, e2, Option.getD_some]
      exact ⟨hk1 k _ e1, hk2 k _ e2⟩
    refine ⟨hll, hok, fun f hf => ?_⟩
    have htr : d.tr t = x :: (t.drop (d.q2 + 1)).take (sizes ts2) := by
      unfold Pr.tr
      rw [hT]
      simp only [Tr.size]
      rw [Nat.add_comm, take_head hx]
    rw [hpr, htr, sm_head hc0, args_flat p ts1 (d.q1 + 1), args_flat t ts2 (d.q2 + 1)]
    have hlist := sm_list ha hf ((List.range ts1.length).map fun k => (p.drop (d.q1 + 1 + sizes (ts1.take k))).take ((ts1[k]?).getD .var).size) ((List.range ts2.length).map fun k => (t.drop (d.q2 + 1 + sizes (ts2.take k))).take ((ts2[k]?).getD .var).size) (by simp [hll])
      (fun u hu => by
        obtain ⟨k, hk, rfl⟩ := List.mem_map.1 hu
        have hk := List.mem_range.1 hk
        have e1 : ts1[k]? = some ts1[k] := List.getElem?_eq_getElem hk
        rw [e1, Option.getD_some]
        exact (hk1 k _ e1).row.1)
      (fun u hu => by
        obtain ⟨k, hk, rfl⟩ := List.mem_map.1 hu
        have hk := List.mem_range.1 hk
        have e1 : ts2[k]? = some ts2[k] := List.getElem?_eq_getElem hk
        rw [e1, Option.getD_some]
        exact (hk2 k _ e1).row.1)
    rw [hlist]
    constructor
    · rintro ⟨_, hh⟩ e he
      obtain ⟨k, hk, rfl⟩ := List.mem_map.1 he
      have hk := List.mem_range.1 hk
      exact hh k _ _ (by rw [List.getElem?_map, List.getElem?_range hk]; rfl) (by rw [List.getElem?_map, List.getElem?_range (by omega)]; rfl)
    · intro hh
      refine ⟨hcx, fun k u v hu hv => ?_⟩
      have hk : k < ts1.length := by
        have := (List.getElem?_eq_some_iff.1 hu).1
        simpa using this
      rw [List.getElem?_map, List.getElem?_range hk] at hu
      rw [List.getElem?_map, List.getElem?_range (by omega)] at hv
      simp only [Option.map_some, Option.some.injEq] at hu hv
      subst hu
      subst hv
      exact hh _ (List.mem_map.2 ⟨k, List.mem_range.2 hk, rfl⟩)

end Go.Proofs.YtpnkplidhbbliaaDoor

/- boundRows: what its round reads. -/
namespace Go.Proofs.YtpnkplidhbbliaaDoor
open Go.RowKit Go.Maps Go.BigFrame

/-- How many nodes wait. -/
def wait (ds : List Pr) : Nat := (ds.map fun d => d.P.size).sum

theorem wait_app (a b : List Pr) : wait (a ++ b) = wait a + wait b := by simp [wait, List.sum_append]

theorem wait_args (p t : List Int) (ts1 ts2 : List Tr) (q1 q2 : Nat) : wait (argPr p t ts1 ts2 q1 q2) = sizes ts1 := by
  unfold wait argPr
  rw [List.map_map]
  have : ∀ (ts : List Tr), ((List.range ts.length).map fun k => ((ts[k]?).getD .var).size).sum = sizes ts := by
    intro ts
    induction ts with
    | nil => rfl
    | cons t ts ih =>
      rw [List.length_cons, List.range_succ_eq_map, List.map_cons, List.map_map, List.sum_cons]
      simp only [List.getElem?_cons_zero, Option.getD_some, sizes]
      have e9 : ((fun k => (((t :: ts)[k]?).getD .var).size) ∘ Nat.succ) = fun k => ((ts[k]?).getD .var).size := by
        funext k
        simp
      rw [e9, ih]
  exact this ts1

end Go.Proofs.YtpnkplidhbbliaaDoor
