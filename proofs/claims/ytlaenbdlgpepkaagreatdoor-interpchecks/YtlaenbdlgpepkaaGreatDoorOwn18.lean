/- Texts of the proof, one behind the other. -/
import Derived.Test.YtlaenbdlgpepkaaGreatDoorOwn4
import Derived.Test.YtlaenbdlgpepkaaGreatDoorOwn6
import Derived.Test.YtlaenbdlgpepkaaGreatDoorOwn17
import Derived.Test.YtlaenbdlgpepkaaGreatDoorOwn5
import Derived.Deep.Slices
import Derived.Sort.QuietTacIn
import Derived.Sort.CutIn
import Derived.Deep.DeepAppendRoom
/- The polynomial of a term, plainly: from the back, with a stack. -/
namespace Go.Proofs.YtlaenbdlgpepkaaGreatDoor

/-- The polynomial that is a variable alone. -/
def vpol (k : Nat) : List Mn := [([1], List.replicate k 0 ++ [1])]

/-- A symbol's polynomial. -/
def spol : List Ip → Int → List Mn
  | [], _ => []
  | x :: r, d => if x.1 = d then x.2 else spol r d

/-- A code more, from the back to the front: what begins first stands first. -/
def ofS (sig : List Sy) (sp vp : Int → List Mn) : List Int → Option (List (List Mn))
  | [] => some []
  | c :: u =>
    match ofS sig sp vp u with
    | none => none
    | some st => if c < 0 then some (vp c :: st) else if compE (sp c) (st.take (arN sig c)) = 0 then some (compL (sp c) (st.take (arN sig c)) :: st.drop (arN sig c)) else none

theorem ofS_var {sig : List Sy} {sp vp : Int → List Mn} {c : Int} {u : List Int} {st : List (List Mn)} (h : ofS sig sp vp u = some st) (hc : c < 0) : ofS sig sp vp (c :: u) = some (vp c :: st) := by
  rw [ofS, h]
  simp only [if_pos hc]

theorem ofS_yes {sig : List Sy} {sp vp : Int → List Mn} {c : Int} {u : List Int} {st : List (List Mn)} (h : ofS sig sp vp u = some st) (hc : ¬ c < 0) (h0 : compE (sp c) (st.take (arN sig c)) = 0) :
    ofS sig sp vp (c :: u) = some (compL (sp c) (st.take (arN sig c)) :: st.drop (arN sig c)) := by
  rw [ofS, h]
  simp only [if_neg hc, if_pos h0]

theorem ofS_no {sig : List Sy} {sp vp : Int → List Mn} {c : Int} {u : List Int} {st : List (List Mn)} (h : ofS sig sp vp u = some st) (hc : ¬ c < 0) (h0 : ¬ compE (sp c) (st.take (arN sig c)) = 0) : ofS sig sp vp (c :: u) = none := by
  rw [ofS, h]
  simp only [if_neg hc, if_neg h0]

theorem ofS_none {sig : List Sy} {sp vp : Int → List Mn} {u : List Int} (h : ofS sig sp vp u = none) (c : Int) : ofS sig sp vp (c :: u) = none := by
  rw [ofS, h]

theorem ofS_noneL {sig : List Sy} {sp vp : Int → List Mn} {u : List Int} (h : ofS sig sp vp u = none) : ∀ p : List Int, ofS sig sp vp (p ++ u) = none
  | [] => h
  | c :: p => ofS_none (ofS_noneL h p) c

theorem ofS_len {sig : List Sy} {sp vp : Int → List Mn} : ∀ {u : List Int} {st : List (List Mn)}, ofS sig sp vp u = some st → st.length = (growR sig u).length
  | [], st, h => by cases h; rfl
  | c :: u, st, h => by
    cases hu : ofS sig sp vp u with
    | none => rw [ofS_none hu] at h; cases h
    | some s =>
      have ih := ofS_len hu
      by_cases hc : c < 0
      · rw [ofS_var hu hc] at h
        cases h
        show _ = (growStep sig (growR sig u) c).length
        unfold growStep
        rw [if_pos hc, List.length_append, List.length_cons, ih]
        rfl
      · by_cases h0 : compE (sp c) (s.take (arN sig c)) = 0
        · rw [ofS_yes hu hc h0] at h
          cases h
          show _ = (growStep sig (growR sig u) c).length
          unfold growStep
          rw [if_neg hc, List.length_append, List.length_cons, List.length_drop, List.length_take, ih]
          simp only [List.length_cons, List.length_nil]
          omega
        · rw [ofS_no hu hc h0] at h; cases h

/-- Two rows of terms, one behind the other. -/
theorem ofS_app {sig : List Sy} (ha : ArOk sig) {sp vp : Int → List Mn} {v : List Int} {sv : List (List Mn)} (hv : ofS sig sp vp v = some sv) : ∀ (u p : List Int), firstT sig 1 0 (p ++ u) = (((p ++ u).length : Int), 0) →
    ofS sig sp vp (u ++ v) = (ofS sig sp vp u).map (· ++ sv)
  | [], p, _ => by simpa [ofS] using hv
  | c :: u, p, h => by
    have ih := ofS_app ha hv u (p ++ [c]) (by simpa using h)
    cases hu : ofS sig sp vp u with
    | none =>
      rw [hu] at ih
      rw [ofS_none hu, List.cons_append, ofS_none ih]
      rfl
    | some s =>
      rw [hu] at ih
      have ih2 : ofS sig sp vp (u ++ v) = some (s ++ sv) := ih
      by_cases hc : c < 0
      · rw [List.cons_append, ofS_var ih2 hc, ofS_var hu hc]
        rfl
      · obtain ⟨_, h2⟩ := grow_code ha p c u 1 0 (by omega) (by rw [h]; simp) hc
        rw [← ofS_len hu] at h2
        have e1 : (s ++ sv).take (arN sig c) = s.take (arN sig c) := by rw [List.take_append_of_le_length h2]
        have e2 : (s ++ sv).drop (arN sig c) = s.drop (arN sig c) ++ sv := by rw [List.drop_append_of_le_length h2]
        by_cases h0 : compE (sp c) (s.take (arN sig c)) = 0
        · rw [List.cons_append, ofS_yes ih2 hc (by rw [e1]; exact h0), ofS_yes hu hc h0, e1, e2]
          rfl
        · rw [List.cons_append, ofS_no ih2 hc (by rw [e1]; exact h0), ofS_no hu hc h0]
          rfl

/-- A right row is one term: one polynomial or none. -/
theorem ofS_one {sig : List Sy} (ha : ArOk sig) {sp vp : Int → List Mn} {t : List Int} (h : rowE sig t = 0) : ofS sig sp vp t = none ∨ ∃ p, ofS sig sp vp t = some [p] := by
  cases ht : ofS sig sp vp t with
  | none => exact .inl rfl
  | some st =>
    obtain ⟨T, hT, _⟩ := grow_one ha h
    have hl := ofS_len ht
    rw [hT] at hl
    match st, hl with
    | [p], _ => exact .inr ⟨p, rfl⟩

/-- Terms one behind the other. -/
theorem ofS_flat {sig : List Sy} (ha : ArOk sig) {sp vp : Int → List Mn} : ∀ {us : List (List Int)} {ps : List (List Mn)}, (∀ u ∈ us, rowE sig u = 0) → us.length = ps.length → (∀ (i : Nat) u p, us[i]? = some u → ps[i]? = some p → ofS sig sp vp u = some [p]) → ofS sig sp vp us.flatten = some ps
  | [], [], _, _, _ => rfl
  | [], _ :: _, _, h, _ => by simp at h
  | _ :: _, [], _, h, _ => by simp at h
  | u :: us, p :: ps, hu, hl, h => by
    have ih := ofS_flat ha (us := us) (ps := ps) (fun x hx => hu x (List.mem_cons_of_mem _ hx)) (by simpa using hl) (fun i x y hx hy => h (i + 1) x y (by simpa using hx) (by simpa using hy))
    rw [List.flatten_cons, ofS_app ha ih u [] (row_first.1 (hu u (by simp))), h 0 u p rfl rfl]
    rfl

theorem ofS_flat_none {sig : List Sy} (ha : ArOk sig) {sp vp : Int → List Mn} : ∀ {us : List (List Int)}, (∀ u ∈ us, rowE sig u = 0) → (∃ u ∈ us, ofS sig sp vp u = none) → ofS sig sp vp us.flatten = none
  | [], _, h => by obtain ⟨u, hu, _⟩ := h; cases hu
  | u :: us, hu, h => by
    rw [List.flatten_cons]
    cases hr : ofS sig sp vp us.flatten with
    | none => exact ofS_noneL hr u
    | some s =>
      rw [ofS_app ha hr u [] (row_first.1 (hu u (by simp)))]
      obtain ⟨x, hx, hn⟩ := h
      rcases List.mem_cons.1 hx with rfl | hx
      · rw [hn]; rfl
      · rw [ofS_flat_none ha (fun x hx => hu x (List.mem_cons_of_mem _ hx)) ⟨x, hx, hn⟩] at hr
        cases hr

/-- Compose, monomial by monomial: in bounds or too big. -/
theorem compGo_two {args : List (List Mn)} (ha : ∀ f ∈ args, Ch f) : ∀ {p : List Mn} {L : LkY} {F : List Nat → Nat}, Pol p → StY L F → OkF F → KeysLe L →
    ((compGo args L p).2 = 0 ∧ ∃ G, StY (compGo args L p).1 G ∧ OkF G ∧ KeysLe (compGo args L p).1) ∨ (compGo args L p).2 = 2
  | [], L, F, _, hs, ho, hk => by
    unfold compGo
    exact .inl ⟨rfl, F, hs, ho, hk⟩
  | m :: p, L, F, hp, hs, ho, hk => by
    have hpt : Pol p := hp.tail
    have hmb := hp.mon m (by simp)
    have hmg := hp.good (m := m) (by simp)
    have hxs : ∀ x ∈ m.2, 0 ≤ x ∧ x ≤ 64 := hmg.2.2.2
    unfold compGo
    cases hn : noughtB m.2 args
    · have ev : worthV prodL prodE m.2 args [(m.1, [])] = worthGo prodL prodE m.2 args [(m.1, [])] := by unfold worthV; rw [hn]; rfl
      rw [ev]
      obtain ⟨e1, e2, e3⟩ := fac_worth ha hxs hn (ch_const hmb (hp.lim m (by simp))) (by simp)
      rw [← e1]
      by_cases h0 : (facR m.2 args [(m.1, [])]).2 = 0
      · obtain ⟨x1, x2⟩ := e2 h0
        rw [if_pos h0, ← x1]
        obtain ⟨X, hX⟩ : ∃ X, X = (facR m.2 args [(m.1, [])]).1 := ⟨_, rfl⟩
        rw [← hX] at x2 ⊢
        have hk2 := keysLe_puts x2.1.dom hk
        rcases puts_spec (fun m hm => x2.1.good hm) x2.1.dom hs ho with ⟨b1, b2, b3⟩ | ⟨b1, b2⟩
        · rw [if_pos b1]
          exact compGo_two ha hpt b3 b2 hk2
        · rw [if_neg (by rw [b1]; decide)]
          exact .inr b1
      · rw [if_neg h0]
        rcases e3 with h | h
        · exact absurd h h0
        · exact .inr h
    · have ev : worthV prodL prodE m.2 args [(m.1, [])] = ([], 0) := by unfold worthV; rw [hn]; rfl
      rw [ev]
      have ep : puts L [] = (L, 0) := rfl
      simp only [ep, if_true]
      exact compGo_two ha hpt hs ho hk

theorem comp_two {p : List Mn} {args : List (List Mn)} (hp : Ch p) (ha : ∀ f ∈ args, Ch f) (hv : varsN p ≤ args.length) : (compE p args = 0 ∧ Ch (compL p args)) ∨ compE p args = 2 := by
  have h1 : compE p args = (compGo args [] p).2 := by
    unfold compE
    rw [if_pos (checkAll1_iff.2 hp.2), if_pos (checkAll_zero fun x hx => (ha x hx).2), if_pos hv]
  rcases compGo_two ha hp.1 StY.nil okF_zero keysLe_nil with ⟨h2, G, g1, g2, g3⟩ | h2
  · have h0 := h1.trans h2
    have hr := g1.row g2 fun q hq => (g3 q hq).1
    refine .inl ⟨h0, ?_⟩
    unfold compL
    rw [if_pos h0]
    exact ⟨hr.1, hr.2.1⟩
  · exact .inr (h1.trans h2)

/-- What Check tells of interpretations: each symbol's is one, a polynomial of so many variables. -/
theorem inGo_all {sig : List Sy} : ∀ {l : List Ip} {f : Nat → Bool}, inGo sig f l = 0 → (l.map (·.1)).Nodup ∧ (∀ x ∈ l, f x.1.toNat = false) ∧ ∀ i, i < sig.length → f i = true ∨ (i : Int) ∈ l.map (·.1)
  | [], f, h => by
    rw [inGo] at h
    refine ⟨List.nodup_nil, fun x hx => (by cases hx), fun i hi => .inl ?_⟩
    cases hf : f i with
    | true => rfl
    | false => rw [lackB_yes hi hf] at h; cases h
  | (c, p) :: r, f, h => by
    have hok := inGo_ok h
    rw [inGo] at h
    split at h
    · cases h
    · rename_i h1
      split at h
      · cases h
      · split at h
        · cases h
        · obtain ⟨a1, a2, a3⟩ := inGo_all h
          have hc := (hok (c, p) (by simp)).1
          simp only at hc
          have hnot : ∀ x ∈ r, ¬ x.1 = c := fun x hx e => by
            have := a2 x hx
            unfold gvn at this
            rw [e] at this
            simp at this
          refine ⟨?_, ?_, fun i hi => ?_⟩
          · rw [List.map_cons, List.nodup_cons]
            refine ⟨fun hm => ?_, a1⟩
            obtain ⟨x, hx, e⟩ := List.mem_map.1 hm
            exact hnot x hx e
          · intro x hx
            rcases List.mem_cons.1 hx with rfl | hx
            · cases hf : f c.toNat with
              | true => exact absurd (Or.inr (Or.inr hf)) h1
              | false => rfl
            · have := a2 x hx
              unfold gvn at this
              split at this
              · cases this
              · exact this
          · rcases a3 i hi with h3 | h3
            · unfold gvn at h3
              split at h3
              · rename_i e
                refine .inr ?_
                rw [e, List.map_cons, Int.toNat_of_nonneg hc]
                simp
              · exact .inl h3
            · exact .inr (List.mem_cons_of_mem _ h3)

theorem spol_mem : ∀ {l : List Ip} {c : Int}, c ∈ l.map (·.1) → (c, spol l c) ∈ l
  | [], c, h => by cases h
  | x :: r, c, h => by
    rw [spol]
    by_cases e : x.1 = c
    · rw [if_pos e, ← e]
      simp
    · rw [if_neg e]
      rcases List.mem_cons.1 h with h | h
      · exact absurd h.symm e
      · exact List.mem_cons_of_mem _ (spol_mem h)

theorem spol_of : ∀ {l : List Ip} {c : Int} {p : List Mn}, (l.map (·.1)).Nodup → (c, p) ∈ l → spol l c = p
  | [], c, p, _, h => by cases h
  | x :: r, c, p, hn, h => by
    rw [List.map_cons, List.nodup_cons] at hn
    rw [spol]
    rcases List.mem_cons.1 h with h | h
    · rw [← h, if_pos rfl]
    · rw [if_neg (fun e => hn.1 (by rw [e]; exact List.mem_map.2 ⟨_, h, rfl⟩))]
      exact spol_of hn.2 h

theorem spol_rev {l : List Ip} (hn : (l.map (·.1)).Nodup) (c : Int) : spol l.reverse c = spol l c := by
  by_cases h : c ∈ l.map (·.1)
  · have h1 := spol_mem h
    have h2 : (l.reverse.map (·.1)).Nodup := by
      rw [List.map_reverse]
      exact (List.reverse_perm (l.map (·.1))).symm.nodup hn
    exact spol_of h2 (List.mem_reverse.2 h1)
  · have hno : ∀ m : List Ip, (∀ x ∈ m, ¬ x.1 = c) → spol m c = [] := by
      intro m
      induction m with
      | nil => intro _; rfl
      | cons x r ih =>
        intro hx
        rw [spol, if_neg (hx x (by simp))]
        exact ih fun y hy => hx y (List.mem_cons_of_mem _ hy)
    rw [hno l fun x hx e => h (List.mem_map.2 ⟨x, hx, e⟩), hno l.reverse fun x hx e => h (List.mem_map.2 ⟨x, List.mem_reverse.1 hx, e⟩)]

end Go.Proofs.YtlaenbdlgpepkaaGreatDoor

/- When two rules number their variables alike, plainly. -/
namespace Go.Proofs.YtlaenbdlgpepkaaGreatDoor
open Go.RowKit Go.Maps

theorem metA_app : ∀ (a b m : List Int), metA m (a ++ b) = metA (metA m a) b
  | [], b, m => rfl
  | c :: a, b, m => by
    by_cases h : 0 ≤ c ∨ c ∈ m
    · have e1 : metA m (c :: a) = metA m a := by conv => lhs; unfold metA; rw [if_pos h]
      have e2 : metA m (c :: (a ++ b)) = metA m (a ++ b) := by conv => lhs; unfold metA; rw [if_pos h]
      rw [List.cons_append, e1, e2, metA_app a b m]
    · have e1 : metA m (c :: a) = metA (m ++ [c]) a := by conv => lhs; unfold metA; rw [if_neg h]
      have e2 : metA m (c :: (a ++ b)) = metA (m ++ [c]) (a ++ b) := by conv => lhs; unfold metA; rw [if_neg h]
      rw [List.cons_append, e1, e2, metA_app a b (m ++ [c])]

theorem metA_ext : ∀ (a m : List Int), ∃ r, metA m a = m ++ r
  | [], m => ⟨[], by simp [metA]⟩
  | c :: a, m => by
    unfold metA
    split
    · exact metA_ext a m
    · obtain ⟨r, hr⟩ := metA_ext a (m ++ [c])
      exact ⟨c :: r, by rw [hr]; simp⟩

theorem metA_neg : ∀ (a m : List Int), (∀ c ∈ m, c < 0) → ∀ c ∈ metA m a, c < 0
  | [], m, h, c, hc => h c hc
  | d :: a, m, h, c, hc => by
    unfold metA at hc
    split at hc
    · exact metA_neg a m h c hc
    · rename_i hn
      refine metA_neg a (m ++ [d]) (fun e he => ?_) c hc
      rcases List.mem_append.1 he with he | he
      · exact h e he
      · simp at he
        subst he
        omega

theorem metA_mem : ∀ (a m : List Int) (c : Int), c ∈ metA m a ↔ c ∈ m ∨ (c ∈ a ∧ c < 0)
  | [], m, c => by simp [metA]
  | d :: a, m, c => by
    unfold metA
    split
    · rename_i hd
      rw [metA_mem a m c]
      constructor
      · rintro (h | ⟨h, h0⟩)
        · exact .inl h
        · exact .inr ⟨by simp [h], h0⟩
      · rintro (h | ⟨h, h0⟩)
        · exact .inl h
        · rcases List.mem_cons.1 h with rfl | h
          · rcases hd with hd | hd
            · omega
            · exact .inl hd
          · exact .inr ⟨h, h0⟩
    · rename_i hd
      rw [metA_mem a (m ++ [d]) c]
      constructor
      · rintro (h | ⟨h, h0⟩)
        · rcases List.mem_append.1 h with h | h
          · exact .inl h
          · simp at h
            subst h
            exact .inr ⟨by simp, by omega⟩
        · exact .inr ⟨by simp [h], h0⟩
      · rintro (h | ⟨h, h0⟩)
        · exact .inl (by simp [h])
        · rcases List.mem_cons.1 h with rfl | h
          · exact .inl (by simp)
          · exact .inr ⟨h, h0⟩

theorem met_once : ∀ (t m : List Int), m.Nodup → (metA m t).Nodup
  | [], m, h => h
  | c :: t, m, h => by
    unfold metA
    split
    · exact met_once t m h
    · rename_i hn
      refine met_once t (m ++ [c]) ?_
      rw [List.nodup_append]
      refine ⟨h, by simp, ?_⟩
      intro a ha b hb e
      simp at hb
      subst hb
      subst e
      exact hn (.inr ha)

/-- A code by its number among those met. -/
def numC (F : List Int) (c : Int) : Int := if c < 0 then -1 - ((F.idxOf c : Nat) : Int) else c

theorem doc_ren : ∀ (t met F : List Int), (∃ r, F = metA met t ++ r) → (renG docN met t).1 = t.map (numC F) ∧ (renG docN met t).2 = metA met t
  | [], met, F, _ => ⟨rfl, rfl⟩
  | c :: t, met, F, h => by
    by_cases hc : c < 0
    · have e0 : -1 - (-1 - c) = c := by omega
      by_cases hm : c ∈ met
      · have e1 : metA met (c :: t) = metA met t := by conv => lhs; unfold metA; rw [if_pos (.inr hm)]
        rw [e1] at h
        obtain ⟨h1, h2⟩ := doc_ren t met F h
        have e2 : docN met (-1 - c) = (((met.idxOf c : Nat) : Int), met) := by unfold docN; rw [e0, if_pos hm]
        simp only [renG, if_pos hc, e2, h1, h2, e1, List.map_cons, and_true, List.cons.injEq]
        obtain ⟨r, hr⟩ := h
        obtain ⟨r2, hr2⟩ := metA_ext t met
        have e3 : numC F c = -1 - ((met.idxOf c : Nat) : Int) := by
          unfold numC
          rw [if_pos hc, hr, hr2, List.append_assoc, List.idxOf_append, if_pos hm]
        rw [e3]
      · have e1 : metA met (c :: t) = metA (met ++ [c]) t := by conv => lhs; unfold metA; rw [if_neg (fun h9 => h9.elim (fun h8 => absurd h8 (by omega)) hm)]
        rw [e1] at h
        obtain ⟨h1, h2⟩ := doc_ren t (met ++ [c]) F h
        have e2 : docN met (-1 - c) = (((met.length : Nat) : Int), met ++ [c]) := by unfold docN; rw [e0, if_neg hm]
        simp only [renG, if_pos hc, e2, h1, h2, e1, List.map_cons, and_true, List.cons.injEq]
        obtain ⟨r, hr⟩ := h
        obtain ⟨r2, hr2⟩ := metA_ext t (met ++ [c])
        have e3 : numC F c = -1 - ((met.length : Nat) : Int) := by
          unfold numC
          rw [if_pos hc, hr, hr2, List.append_assoc, List.idxOf_append, if_pos (by simp), List.idxOf_append, if_neg hm]
          simp
        rw [e3]
    · have e1 : metA met (c :: t) = metA met t := by conv => lhs; unfold metA; rw [if_pos (.inl (by omega))]
      rw [e1] at h
      obtain ⟨h1, h2⟩ := doc_ren t met F h
      have e3 : numC F c = c := by unfold numC; rw [if_neg hc]
      simp only [renG, if_neg hc, h1, h2, e1, e3, List.map_cons, and_true]

theorem can_two (p q : List Int) : canL [p, q] = [p.map (numC (metA [] (p ++ q))), q.map (numC (metA [] (p ++ q)))] := by
  rw [canL_doc]
  simp only [canD]
  obtain ⟨r, hr⟩ := metA_ext q (metA [] p)
  obtain ⟨h1, h2⟩ := doc_ren p [] (metA [] (p ++ q)) ⟨r, by rw [metA_app]; exact hr⟩
  rw [h2]
  obtain ⟨h3, _⟩ := doc_ren q (metA [] p) (metA [] (p ++ q)) ⟨[], by rw [metA_app, List.append_nil]⟩
  rw [h1, h3]

/-- What the document asks of two rows of one length. -/
structure Alike (x y V W : List Int) : Prop where
  codes : ∀ (i : Nat) (a b : Int), x[i]? = some a → y[i]? = some b → (0 ≤ a ∨ 0 ≤ b) → a = b
  many : V.length = W.length
  met : ∀ (i k : Nat) (a b v w : Int), x[i]? = some a → y[i]? = some b → V[k]? = some v → W[k]? = some w → (a = v ↔ b = w)

theorem idx_of {V : List Int} (h : V.Nodup) {k : Nat} {v : Int} (hk : V[k]? = some v) : V.idxOf v = k := by
  obtain ⟨h1, rfl⟩ := List.getElem?_eq_some_iff.1 hk
  exact h.idxOf_getElem k h1

theorem idx_get {V : List Int} {v : Int} (h : v ∈ V) : V[V.idxOf v]? = some v := by
  rw [List.getElem?_eq_getElem (List.idxOf_lt_length_of_mem h), List.getElem_idxOf]

theorem num_neg {F : List Int} {c : Int} : numC F c < 0 ↔ c < 0 := by
  unfold numC
  split <;> omega

theorem alike_le {x y : List Int} (h : x.map (numC (metA [] x)) = y.map (numC (metA [] y))) : (metA [] x).length ≤ (metA [] y).length := by
  by_cases h0 : (metA [] x).length = 0
  · omega
  · obtain ⟨k, hk⟩ : ∃ k, (metA [] x).length = k + 1 := ⟨(metA [] x).length - 1, by omega⟩
    obtain ⟨v, hv⟩ : ∃ v, (metA [] x)[k]? = some v := ⟨_, List.getElem?_eq_getElem (by omega)⟩
    have hm := List.mem_of_getElem? hv
    have hx := (metA_mem x [] v).1 hm
    simp at hx
    obtain ⟨i, hi⟩ := List.getElem?_of_mem hx.1
    have e1 : (y.map (numC (metA [] y)))[i]? = some (numC (metA [] x) v) := by rw [← h, List.getElem?_map, hi]; rfl
    rw [List.getElem?_map] at e1
    cases hy : y[i]? with
    | none => rw [hy] at e1; simp at e1
    | some b =>
      rw [hy] at e1
      simp at e1
      have hb : b < 0 := by
        have h1 : numC (metA [] y) b < 0 := by rw [e1]; exact num_neg.2 hx.2
        exact num_neg.1 h1
      unfold numC at e1
      rw [if_pos hb, if_pos hx.2, idx_of (met_once x [] (by simp)) hv] at e1
      have h2 := List.idxOf_lt_length_of_mem ((metA_mem y [] b).2 (.inr ⟨List.mem_of_getElem? hy, hb⟩))
      omega

theorem alike_iff {x y : List Int} (hl : x.length = y.length) : x.map (numC (metA [] x)) = y.map (numC (metA [] y)) ↔ Alike x y (metA [] x) (metA [] y) := by
  have nx := met_once x [] (by simp)
  have ny := met_once y [] (by simp)
  constructor
  · intro h
    have pt : ∀ (i : Nat) (a b : Int), x[i]? = some a → y[i]? = some b → numC (metA [] x) a = numC (metA [] y) b := fun i a b ha hb => by
      have h1 := congrArg (fun l => l[i]?) h
      simp only [List.getElem?_map, ha, hb, Option.map_some, Option.some.injEq] at h1
      exact h1
    refine ⟨fun i a b ha hb h0 => ?_, ?_, fun i k a b v w ha hb hv hw => ?_⟩
    · have h1 := pt i a b ha hb
      have h2 : ¬ a < 0 ∧ ¬ b < 0 := by
        have h3 : a < 0 ↔ b < 0 := ⟨fun h9 => num_neg.1 (h1 ▸ num_neg.2 h9), fun h9 => num_neg.1 (h1.symm ▸ num_neg.2 h9)⟩
        omega
      unfold numC at h1
      rwa [if_neg h2.1, if_neg h2.2] at h1
    · have h1 := alike_le h
      have h2 := alike_le h.symm
      omega
    · have h1 := pt i a b ha hb
      have h3 : a < 0 ↔ b < 0 := ⟨fun h9 => num_neg.1 (h1 ▸ num_neg.2 h9), fun h9 => num_neg.1 (h1.symm ▸ num_neg.2 h9)⟩
      have hv0 := metA_neg x [] (by simp) v (List.mem_of_getElem? hv)
      have hw0 := metA_neg y [] (by simp) w (List.mem_of_getElem? hw)
      by_cases h0 : a < 0
      · have hb0 := h3.1 h0
        unfold numC at h1
        rw [if_pos h0, if_pos hb0] at h1
        have i1 := idx_get ((metA_mem x [] a).2 (.inr ⟨List.mem_of_getElem? ha, h0⟩))
        have i2 := idx_get ((metA_mem y [] b).2 (.inr ⟨List.mem_of_getElem? hb, hb0⟩))
        constructor
        · rintro rfl
          have e1 := idx_of nx hv
          have e2 : (metA [] y).idxOf b = k := by omega
          rw [e2, hw] at i2
          exact (Option.some.inj i2).symm
        · rintro rfl
          have e1 := idx_of ny hw
          have e2 : (metA [] x).idxOf a = k := by omega
          rw [e2, hv] at i1
          exact (Option.some.inj i1).symm
      · constructor
        · rintro rfl; exact absurd hv0 h0
        · rintro rfl; exact absurd (h3.2 hw0) h0
  · intro h
    refine List.ext_getElem? fun i => ?_
    rw [List.getElem?_map, List.getElem?_map]
    by_cases hi : i < x.length
    · have ha : x[i]? = some x[i] := List.getElem?_eq_getElem hi
      have hb : y[i]? = some (y[i]'(by omega)) := List.getElem?_eq_getElem (by omega)
      generalize x[i] = a at ha
      generalize (y[i]'(by omega)) = b at hb
      rw [ha, hb]
      simp only [Option.map_some, Option.some.injEq]
      by_cases h0 : 0 ≤ a ∨ 0 ≤ b
      · have := h.codes i a b ha hb h0
        subst this
        unfold numC
        rw [if_neg (by omega), if_neg (by omega)]
      · have i1 := idx_get ((metA_mem x [] a).2 (.inr ⟨List.mem_of_getElem? ha, by omega⟩))
        have hk := (List.getElem?_eq_some_iff.1 i1).1
        have hw : (metA [] y)[(metA [] x).idxOf a]? = some ((metA [] y)[(metA [] x).idxOf a]'(by rw [← h.many]; exact hk)) := List.getElem?_eq_getElem _
        have h2 := (h.met i _ a b a _ ha hb i1 hw).1 rfl
        rw [← h2] at hw
        have h3 := idx_of ny hw
        unfold numC
        rw [if_pos (by omega), if_pos (by omega), h3]
    · rw [List.getElem?_eq_none (by omega), List.getElem?_eq_none (by omega)]
      rfl

theorem can_iff {p q r s : List Int} : canL [p, q] = canL [r, s] ↔ p.length = r.length ∧ q.length = s.length ∧ Alike (p ++ q) (r ++ s) (metA [] (p ++ q)) (metA [] (r ++ s)) := by
  rw [can_two, can_two]
  constructor
  · intro h
    simp only [List.cons.injEq, and_true] at h
    have h1 := congrArg List.length h.1
    have h2 := congrArg List.length h.2
    simp only [List.length_map] at h1 h2
    refine ⟨h1, h2, (alike_iff (by simp [h1, h2])).1 ?_⟩
    rw [List.map_append, List.map_append, h.1, h.2]
  · rintro ⟨h1, h2, h3⟩
    have h4 := (alike_iff (by simp [h1, h2])).2 h3
    rw [List.map_append, List.map_append] at h4
    obtain ⟨h5, h6⟩ := List.append_inj h4 (by simp [h1])
    rw [h5, h6]

end Go.Proofs.YtlaenbdlgpepkaaGreatDoor

/- The polynomial of a term, plainly: what is handed to Compose is right; what Of and Falls answer. -/
namespace Go.Proofs.YtlaenbdlgpepkaaGreatDoor

theorem arI_arN {sig : List Sy} (ha : ArOk sig) (c : Int) : arI sig c = (arN sig c : Int) := by
  unfold arI arN
  cases h : sig[c.toNat]? with
  | none => rfl
  | some s =>
    have := ha s (List.mem_of_getElem? h)
    simp only
    omega

/-- Each symbol's polynomial, where Check tells nothing. -/
theorem in_spol {sig : List Sy} {l : List Ip} (h : inE sig l = 0) (hL : ∀ x ∈ l, ∀ m ∈ x.2, Lim m.1) {c : Int} (h0 : 0 ≤ c) (h1 : c.toNat < sig.length) : (c, spol l c) ∈ l ∧ Ch (spol l c) ∧ varsN (spol l c) ≤ arN sig c := by
  obtain ⟨hs, hx⟩ := inE_ok h
  have ha := sigE_ok hs
  have hg : inGo sig (fun _ => false) l = 0 := by
    unfold inE at h
    rw [if_pos hs] at h
    exact h
  obtain ⟨_, _, h3⟩ := inGo_all hg
  have hm : c ∈ l.map (·.1) := by
    rcases h3 c.toNat h1 with h | h
    · cases h
    · rw [Int.toNat_of_nonneg h0] at h
      exact h
  have hmem := spol_mem hm
  obtain ⟨_, _, n20, n2⟩ := hx _ hmem
  simp only at n20 n2
  have hz : checkE (spol l c) (arI sig c) = 0 := by
    rcases checkE_three (spol l c) (arI sig c) (arI_ok ha c) with h | h | h
    · exact h
    · exact absurd h n2
    · exact absurd h n20
  have hbig := check_vars (b := 9223372036854775807) (arI_ok ha c) (by omega) hz
  refine ⟨hmem, ⟨Pol.of (hL _ hmem) (by omega) hbig, hbig⟩, ?_⟩
  rw [arI_arN ha] at hz
  exact (check_len hbig).1 hz

theorem in_nodup {sig : List Sy} {l : List Ip} (h : inE sig l = 0) : (l.map (·.1)).Nodup := by
  obtain ⟨hs, _⟩ := inE_ok h
  unfold inE at h
  rw [if_pos hs] at h
  exact (inGo_all h).1

theorem vpol_mon (k : Nat) : monB ([1], List.replicate k (0 : Int) ++ [1]) = true := by
  unfold monB
  have h1 : (List.replicate k (0 : Int) ++ [1]).all (fun n => decide (0 ≤ n)) = true := by
    rw [List.all_eq_true]
    intro x hx
    rcases List.mem_append.1 hx with h | h
    · rw [List.eq_of_mem_replicate h]; rfl
    · rw [List.mem_singleton.1 h]; rfl
  have h2 : (List.replicate k (0 : Int) ++ [1])[(List.replicate k (0 : Int) ++ [1]).length - 1]? = some 1 := by
    rw [List.length_append, List.length_replicate]
    simp
  rw [h1]
  simp only [h2]
  have h3 : rightB [1] = true := by decide
  rw [h3]
  simp

theorem vpol_check {k n : Nat} (hk : k < n) : checkE (vpol k) (n : Int) = if k < 512 then 0 else 2 := by
  have hp : polyB (vpol k) (n : Int) = true := by
    rw [polyB_iff]
    intro j hj
    have : j = 0 := by simpa [vpol] using hj
    subst this
    unfold okAt
    simp only [vpol, List.getElem?_cons_zero, vpol_mon, Bool.true_and, beq_self_eq_true, Bool.true_or, Bool.and_true, decide_eq_true_eq, List.length_append, List.length_replicate, List.length_cons, List.length_nil]
    omega
  unfold checkE
  rw [if_neg (by omega), if_neg (by rw [hp]; decide)]
  by_cases h : k < 512
  · have hb : boundsB (vpol k) = true := by
      unfold boundsB smallB vpol
      simp only [List.length_cons, List.length_nil, List.all_cons, List.all_nil, Bool.and_true, List.length_append, List.length_replicate, Bool.and_eq_true, decide_eq_true_eq, List.all_eq_true]
      refine ⟨by omega, by omega, fun x hx => ?_⟩
      rcases List.mem_append.1 hx with h | h
      · rw [List.eq_of_mem_replicate h]; omega
      · rw [List.mem_singleton.1 h]; omega
    rw [if_neg (by rw [hb]; decide), if_pos h]
  · have hb : boundsB (vpol k) = false := by
      unfold boundsB smallB vpol
      simp only [List.length_cons, List.length_nil, List.all_cons, List.all_nil, Bool.and_true, List.length_append, List.length_replicate]
      rw [decide_eq_false (p := k + (0 + 1) ≤ 512) (by omega)]
      simp
    rw [if_pos hb, if_neg h]

theorem vpol_ch {k : Nat} (hk : k < 512) : Ch (vpol k) := by
  have h := vpol_check (n := 512) hk
  rw [if_pos hk] at h
  have hb := check_vars (b := 9223372036854775807) (by omega) (by omega) h
  refine ⟨Pol.of (fun m hm => ?_) (by omega) hb, hb⟩
  have : m = ([1], List.replicate k 0 ++ [1]) := by simpa [vpol] using hm
  subst this
  intro x hx
  have : x = 1 := by simpa using hx
  omega

/-- What stands on the stack is right; and a code that is too big is told as such. -/
theorem ofS_ch {sig : List Sy} (ha : ArOk sig) {sp vp : Int → List Mn} (hsp : ∀ c : Int, 0 ≤ c → c.toNat < sig.length → Ch (sp c) ∧ varsN (sp c) ≤ arN sig c) : ∀ (u p : List Int), firstT sig 1 0 (p ++ u) = (((p ++ u).length : Int), 0) → (∀ c ∈ u, c < 0 → Ch (vp c)) →
    ∀ st, ofS sig sp vp u = some st → ∀ q ∈ st, Ch q
  | [], p, _, _, st, h => by
    cases h
    exact fun q hq => by cases hq
  | c :: u, p, hf, hv, st, h => by
    have ih := ofS_ch ha hsp u (p ++ [c]) (by simpa using hf) (fun d hd => hv d (List.mem_cons_of_mem _ hd))
    cases hu : ofS sig sp vp u with
    | none => rw [ofS_none hu] at h; cases h
    | some s =>
      have is := ih s hu
      by_cases hc : c < 0
      · rw [ofS_var hu hc] at h
        cases h
        intro q hq
        rcases List.mem_cons.1 hq with rfl | hq
        · exact hv c (by simp) hc
        · exact is q hq
      · obtain ⟨k1, k2⟩ := grow_code ha p c u 1 0 (by omega) (by rw [hf]; simp) hc
        rw [← ofS_len hu] at k2
        obtain ⟨c1, c2⟩ := hsp c (by omega) k1
        by_cases h0 : compE (sp c) (s.take (arN sig c)) = 0
        · rw [ofS_yes hu hc h0] at h
          cases h
          intro q hq
          rcases List.mem_cons.1 hq with rfl | hq
          · rcases comp_two c1 (fun f hf => is f (List.mem_of_mem_take hf)) (by rw [List.length_take, Nat.min_eq_left k2]; exact c2) with h | h
            · exact h.2
            · rw [h] at h0; cases h0
          · exact is q (List.mem_of_mem_drop hq)
        · rw [ofS_no hu hc h0] at h; cases h

theorem ofS_big {sig : List Sy} (ha : ArOk sig) {sp vp : Int → List Mn} (hsp : ∀ c : Int, 0 ≤ c → c.toNat < sig.length → Ch (sp c) ∧ varsN (sp c) ≤ arN sig c) {c : Int} {u p : List Int} (hf : firstT sig 1 0 (p ++ c :: u) = (((p ++ c :: u).length : Int), 0)) (hv : ∀ c ∈ u, c < 0 → Ch (vp c))
    {st : List (List Mn)} (hu : ofS sig sp vp u = some st) (hc : ¬ c < 0) : c.toNat < sig.length ∧ arN sig c ≤ st.length ∧ (compE (sp c) (st.take (arN sig c)) = 0 ∨ compE (sp c) (st.take (arN sig c)) = 2) := by
  obtain ⟨k1, k2⟩ := grow_code ha p c u 1 0 (by omega) (by rw [hf]; simp) hc
  rw [← ofS_len hu] at k2
  obtain ⟨c1, c2⟩ := hsp c (by omega) k1
  have is := ofS_ch ha hsp u (p ++ [c]) (by simpa using hf) hv st hu
  refine ⟨k1, k2, ?_⟩
  rcases comp_two c1 (fun f hf => is f (List.mem_of_mem_take hf)) (by rw [List.length_take, Nat.min_eq_left k2]; exact c2) with h | h
  · exact .inl h.1
  · exact .inr h

/-- A variable's polynomial by its place in a row of numbers. -/
def vAt (vs : List Int) (c : Int) : List Mn := vpol (vs.idxOf (-1 - c))

/-- The polynomial of a term, with the variables numbered by a row; nothing: one is too big. -/
def ofV (sig : List Sy) (l : List Ip) (vs t : List Int) : Option (List Mn) :=
  if 512 < vs.length then none else match ofS sig (spol l) (vAt vs) t with | some [p] => some p | _ => none

/-- The error and the row that are told. -/
def ovE (o : Option (List Mn)) : Int := match o with | some _ => 0 | none => 2

def ovL (o : Option (List Mn)) : List Mn := o.getD []

theorem ofV_some {sig : List Sy} {l : List Ip} {vs t : List Int} {p : List Mn} (h : vs.length ≤ 512) (ht : ofS sig (spol l) (vAt vs) t = some [p]) : ofV sig l vs t = some p := by
  unfold ofV
  rw [if_neg (by omega), ht]

theorem ofV_none {sig : List Sy} {l : List Ip} {vs t : List Int} (ht : ofS sig (spol l) (vAt vs) t = none) : ofV sig l vs t = none := by
  unfold ofV
  rw [ht]
  split <;> rfl

def ofPE (sig : List Sy) (l : List Ip) (t : List Int) : Int := if inE sig l = 0 then if termE sig t = 0 then ovE (ofV sig l (varsL t) t) else termE sig t else inE sig l

def ofPL (sig : List Sy) (l : List Ip) (t : List Int) : List Mn := if inE sig l = 0 ∧ termE sig t = 0 then ovL (ofV sig l (varsL t) t) else []

/-- Of two answers the first error. -/
def ovE2 (a b : Option (List Mn)) : Int := if ovE a = 0 then ovE b else ovE a

def fallE (sig : List Sy) (l : List Ip) (a b : List Int) : Int := if inE sig l = 0 then if termE sig a = 0 then if termE sig b = 0 then ovE2 (ofV sig l (varsL (a ++ b)) a) (ofV sig l (varsL (a ++ b)) b) else termE sig b else termE sig a else inE sig l

/-- How much greater one is. -/
def fallP (p q : List Mn) : Int := if greaterB p q = true then 2 else if atLeastB p q = true then 1 else 0

def fallN (sig : List Sy) (l : List Ip) (a b : List Int) : Int := if fallE sig l a b = 0 then fallP (ovL (ofV sig l (varsL (a ++ b)) a)) (ovL (ofV sig l (varsL (a ++ b)) b)) else 0

end Go.Proofs.YtlaenbdlgpepkaaGreatDoor

/- Binds whose rows are the call's own; a look into a map of rows. -/
namespace Go.Proofs.YtlaenbdlgpepkaaGreatDoor
open Go.RowKit Go.Maps

theorem MapV.lookOne {w : World} {b : Nat} {L : List (Int × Value)} (h : MapV w b L) {t e : TypeId} {z : Value} (ht : Tryz.prog.underlying t = some (.map 3 e)) (hz : (zeroValue e).run Tryz.prog w = .ok z w) {k : Int} (h1 : -9223372036854775808 ≤ k) (h2 : k ≤ 9223372036854775807) {u : Value} (hl : L.lookup k = some u) :
    (Instr.lookup t (.map (some b)) (.int .i64 k) false).run Tryz.prog w = .ok u w := by
  obtain ⟨D, hD, _, ha, hh⟩ := h
  obtain ⟨v, ps, hrun, hv⟩ := hD.lookup set_keyed ht hz (zd := .held z) (zp := []) rfl (key_int h1 h2)
  rw [hrun]
  have hv2 : D.atKey (.int .i64 k) (.held z) = .held v := by
    simp only [RV, Option.some.injEq, Prod.mk.injEq] at hv
    exact hv.1.symm
  rw [ha k u hl] at hv2
  rw [DataW.held.inj hv2]

/-- A bind whose row is the call's own. -/
def EBo (base : Nat) (w : World) (u : Value) (b : Bd) : Prop := OwI w base u b.2 ∧ -9223372036854775808 ≤ b.1 ∧ b.1 ≤ 9223372036854775807 ∧ b.2.length * 8 ≤ 140737488351232

/-- The slice value v is the call's own, as its rows are, and holds the binds s. -/
def OBW (base : Nat) (w : World) (v : Value) (s : List Bd) : Prop :=
  ∃ us : List Value, us.length = s.length ∧ (∀ (i : Nat) (u : Value) (b : Bd), us[i]? = some u → s[i]? = some b → EBo base w u b) ∧ w.ownsRow base 229 2 v s.length (flatB s us)

theorem OBW.mono {base b' : Nat} {w : World} {v : Value} {s : List Bd} (h : OBW base w v s) (hb : b' ≤ base) : OBW b' w v s := by
  obtain ⟨us, hl, hc, ho⟩ := h
  refine ⟨us, hl, fun i u b h1 h2 => ⟨(hc i u b h1 h2).1.mono hb, (hc i u b h1 h2).2⟩, ho.1, ?_⟩
  rcases ho.2 with h | ⟨g, cap, cur, rfl, hg, r⟩
  · exact .inl h
  · exact .inr ⟨g, cap, cur, rfl, by omega, r⟩

theorem OBW.later {base : Nat} {w w' : World} {v : Value} {s : List Bd} (h : OBW base w v s) (hb : Below w.heap.size w w') : OBW base w' v s := by
  obtain ⟨us, hl, hc, ho⟩ := h
  exact ⟨us, hl, fun i u b h1 h2 => ⟨(hc i u b h1 h2).1.later hb, (hc i u b h1 h2).2⟩, ownsRow_later ho hb⟩

theorem OBW.nil (base : Nat) (w : World) : OBW base w (.slice none 0 0) [] := ⟨[], rfl, fun i c m h => (by simp at h), World.ownsRow_nil _ _ _ _⟩

theorem OBW.bs {base : Nat} {w : World} {v : Value} {s : List Bd} (h : OBW base w v s) : Bs w v s := by
  obtain ⟨us, hl, hc, ho⟩ := h
  have ho2 := ho
  rcases ho2.2 with ⟨rfl, hn⟩ | ⟨g, cap, cur, rfl, hbg, hg, hcap, hm, hs, ht⟩
  · obtain rfl := List.eq_nil_of_length_eq_zero hn
    exact Row.nil (by simp [maxLen])
  · refine ⟨_, cap, rfl, hcap, hm, fun _ => ⟨g, 0, rfl, (Array.getElem?_eq_some_iff.1 hg).1, ?_⟩⟩
    intro k b hk
    have hlt : k < s.length := (List.getElem?_eq_some_iff.1 hk).1
    have hck : us[k]? = some us[k] := List.getElem?_eq_getElem (by omega)
    obtain ⟨h1, h2⟩ := flatB_get hk hck
    obtain ⟨o1, o2, o3, o4⟩ := hc k _ b hck hk
    refine ⟨o2, o3, o4, ?_, us[k], ?_, o1.is⟩
    · rw [Nat.zero_add, World.ownsRow.cellAt ho2 (k * 2) (by omega)]
      exact h1
    · rw [Nat.zero_add, World.ownsRow.cellAt ho2 (k * 2 + 1) (by omega)]
      exact h2

/-- One bind joined. -/
theorem OBW.snoc (ty : TypeId) {base : Nat} {w : World} {v u : Value} {s : List Bd} {x : Int} {t : List Int} (h : OBW base w v s) (hb : base ≤ w.heap.size) (hE : EBo base w u (x, t)) (hlen : (s.length + 1) * 32 ≤ 140737488355328) :
    ∃ v' w', (Builtin.append_ #[124, 124] ty #[v, .slice (some ⟨w.heap.size, 0, none⟩) 1 1]).run Tryz.prog (w.alloc (.cells #[.int .i64 x, u] 229)) = .ok v' w' ∧ OBW base w' v' (s ++ [(x, t)]) ∧ (w.alloc (.cells #[.int .i64 x, u] 229)).grownBy w' v.ownBlock ∧ (∀ j, v.ownBlock = some j → base ≤ j ∧ w.heap[j]? ≠ none ∧ ∃ cs, w.heap[j]? = some (.cells cs 229)) := by
  obtain ⟨i1, hi1, hy0, hy1, hy2⟩ := info_parts info_bind
  have ha := below_alloc (w := w) (.cells #[.int .i64 x, u] 229)
  have h' := h.later ha
  obtain ⟨us, hl, hc, ho0⟩ := h
  obtain ⟨vs, hl', hc', ho⟩ := h'
  have hone : u.oneCell' = true := by obtain ⟨_, _, rfl, _⟩ := hE.1.shape; rfl
  obtain ⟨v', w', hrun, h2, h3, _, _⟩ := run_append_own_at (P := Tryz.prog) (w.alloc (.cells #[.int .i64 x, u] 229)) base 124 ty 229 i1 _ 2 32 under_binds hi1 hy0 hy1 hy2 rfl (by decide) v s.length (flatB s vs) ho ⟨w.heap.size, 0, none⟩ 1 1 [.int .i64 x, u] rfl
    (fun j c hj => by
      rw [Addr.add_lit, Nat.zero_add, cell_of_row _ _ _ _ _ _ (heap_alloc_new _ _)]
      simpa using hj)
    (fun c hc => by
      simp only [List.mem_cons, List.not_mem_nil, or_false] at hc
      rcases hc with rfl | rfl
      · rfl
      · exact hone) (by unfold maxLen; omega) (by omega) (Nat.le_trans hb ha.size)
  have hk : ∀ {y : Value} {b : Bd}, EBo base (w.alloc (.cells #[.int .i64 x, u] 229)) y b → EBo base w' y b := fun {y b} hy => ⟨hy.1.kept h3 (ownsRow_apart hy.1.2 ho (by decide)), hy.2⟩
  refine ⟨v', w', hrun, ⟨vs ++ [u], by rw [List.length_append, List.length_append, hl']; rfl, fun i y b h1 h4 => ?_, ?_⟩, h3, fun j hj => ?_⟩
  · by_cases hi : i < vs.length
    · rw [List.getElem?_append_left hi] at h1
      rw [List.getElem?_append_left (by omega)] at h4
      exact hk (hc' i y b h1 h4)
    · rw [List.getElem?_append_right (by omega)] at h1
      rw [List.getElem?_append_right (by omega), ← hl'] at h4
      have hi : i - vs.length = 0 := by
        have := (List.getElem?_eq_some_iff.1 h1).1
        simp at this
        omega
      rw [hi] at h1 h4
      simp at h1 h4
      subst h1
      subst h4
      exact hk ⟨hE.1.later ha, hE.2⟩
  · rw [List.length_append, flatB_append hl']
    exact h2
  · rcases ho0.2 with ⟨rfl, _⟩ | ⟨g, cap, cur, rfl, hbg, hg, _⟩
    · cases hj
    · cases hj
      exact ⟨hbg, by rw [hg]; simp, cur, hg⟩

end Go.Proofs.YtlaenbdlgpepkaaGreatDoor

/- Blocks of rows of monomials; rows of one's own beside them. -/
namespace Go.Proofs.YtlaenbdlgpepkaaGreatDoor
open Go.RowKit Go.Maps Go.BigFrame

/-- A block that holds the headers of rows of monomials. -/
def VB (w : World) (g : Nat) (vals : List Value) : Prop := w.heap[g]? = some (.cells vals.toArray 31 (0, 0))

theorem VB.lt {w : World} {g : Nat} {vals : List Value} (h : VB w g vals) : g < w.heap.size := (Array.getElem?_eq_some_iff.1 h).1

theorem VB.cell {w : World} {g : Nat} {vals : List Value} (h : VB w g vals) {k : Nat} {v : Value} (hk : vals[k]? = some v) : w.cell? ⟨g, k, none⟩ = some v := by
  rw [cell_of_row _ _ _ _ _ _ h]
  simpa using hk

theorem VB.frozen {w : World} {g : Nat} {vals : List Value} (h : VB w g vals) (k : Nat) : w.frozen? ⟨g, k, none⟩ = false := frozen_of_row w _ _ _ _ h

theorem VB.set {w : World} {g : Nat} {vals : List Value} (h : VB w g vals) (k : Nat) (v : Value) : VB (w.setCell ⟨g, k, none⟩ v) g (vals.set k v) := by
  unfold VB
  rw [heap_setCell_same _ _ _ _ _ _ h]
  simp

theorem VB.later {w w' : World} {g : Nat} {vals : List Value} (h : VB w g vals) (hb : Below w.heap.size w w') : VB w' g vals := (hb.block g h.lt).trans h

theorem VB.held {w w' : World} {g : Nat} {vals : List Value} {row : Option Nat} (h : VB w g vals) (hg : w.grownBy w' row) (hr : some g ≠ row) : VB w' g vals := (hg.block g h.lt hr).trans h

theorem grown_setCell (w : World) (g k : Nat) (v : Value) : w.grownBy (w.setCell ⟨g, k, none⟩ v) (some g) :=
  ⟨rfl, rfl, rfl, by simp, fun j _ hj => Below.heap_setCell w ⟨g, k, none⟩ v j (fun e => hj (by rw [e]))⟩

theorem own_notVB {w : World} {base n g : Nat} {e : TypeId} {s : Nat} {v : Value} {xs vals : List Value} (h : w.ownsRow base e s v n xs) (hg : VB w g vals) (hne : e ≠ 31) : v.ownBlock = none ∨ v.ownBlock ≠ some g := by
  rcases h.2 with ⟨rfl, _⟩ | ⟨g', cap, cur, rfl, _, hg', _⟩
  · exact .inl rfl
  · refine .inr ?_
    simp only [Value.ownBlock]
    intro e
    cases e
    unfold VB at hg
    rw [hg] at hg'
    simp only [Option.some.injEq, Obj.cells.injEq] at hg'
    exact hne hg'.2.1.symm

theorem OM.held {w w' : World} {base : Nat} {v : Value} {p : List Mn} {row : Option Nat} (h : OM w base v p) (hg : w.grownBy w' row) (hn : ∀ (e : TypeId) (s n : Nat) (u : Value) (xs : List Value), w.ownsRow base e s u n xs → e ≠ 31 → u.ownBlock = none ∨ u.ownBlock ≠ row) : OM w' base v p := by
  obtain ⟨cs, hl, hc, ho⟩ := h
  refine ⟨cs, hl, fun i c m h1 h2 => ?_, World.ownsRow.kept ho hg (hn _ _ _ _ _ ho (by decide))⟩
  obtain ⟨o1, o2⟩ := hc i c m h1 h2
  exact ⟨o1.held hg (hn _ _ _ _ _ o1.2 (by decide)), o2.kept hg (hn _ _ _ _ _ o2.2 (by decide))⟩

theorem OM.setVB {w : World} {base g k : Nat} {v u : Value} {p : List Mn} {vals : List Value} (h : OM w base v p) (hg : VB w g vals) : OM (w.setCell ⟨g, k, none⟩ u) base v p :=
  h.held (grown_setCell w g k u) fun _ _ _ _ _ ho hne => own_notVB ho hg hne

theorem OM.mapped {w w' : World} {base b : Nat} {v : Value} {p : List Mn} {es : Array MapEntry} {clock : Nat} (h : OM w base v p) (hb : w.heap[b]? = some (.map es clock)) (hg : w.grownBy w' (some b)) : OM w' base v p :=
  h.held hg fun _ _ _ _ _ ho _ => own_notMap ho hb

theorem info_monos : (Tryz.prog.info? 31).map (fun i => (i.zero, i.size, i.bytes)) = some (some (.slice none 0 0), 1, 24) := by kernel_rfl

theorem under_polys : Tryz.prog.underlying 49 = some (.slice 31) := by kernel_rfl

theorem run_make_polys (w : World) (n : Nat) (hn : n * 24 ≤ 140737488355328) : (Instr.makeSlice 49 (.int .i64 (n : Int)) (.int .i64 (n : Int))).run Tryz.prog w = .ok (.slice (some ⟨w.heap.size, 0, none⟩) n n) (w.alloc (.cells (List.replicate n (Value.slice none 0 0)).toArray 31)) := by
  obtain ⟨i0, hi, hz0, hz1, hz2⟩ := info_parts3 info_monos
  have h := run_make (P := Tryz.prog) w 49 31 i0 (.slice none 0 0) under_polys hi hz0 .i64 .i64 (n : Int) (n : Int) (by omega) (Int.le_refl _) (by rw [hz2]; omega) (by omega)
  rw [hz1, Int.toNat_natCast] at h
  have e : madeCells (Value.slice none 0 0).cells (n * 1) = (List.replicate n (Value.slice none 0 0)).toArray := by
    apply Array.ext'
    have : (Value.slice none 0 0).cells = #[Value.slice none 0 0] := rfl
    rw [this, toList_madeCells_one]
    simp
  rw [e] at h
  exact h

/-- Some rows of a block, one behind the other, as a list of polynomials. -/
theorem VB.ps {w : World} {g top n cap : Nat} {vals : List Value} {ps : List (List Mn)} (h : VB w g vals) (hn : n = ps.length) (hc : n ≤ cap) (hm : cap ≤ maxLen) (hx : ∀ (i : Nat) p, ps[i]? = some p → ∃ u, vals[top + i]? = some u ∧ Ms w u p) : Ps w (.slice (some ⟨g, top, none⟩) n cap) ps := by
  subst hn
  refine ⟨_, cap, rfl, hc, hm, fun _ => ⟨g, top, rfl, h.lt, fun k p hk => ?_⟩⟩
  obtain ⟨u, hu, hms⟩ := hx k p hk
  exact ⟨u, by rw [Nat.mul_one]; exact h.cell hu, hms⟩

end Go.Proofs.YtlaenbdlgpepkaaGreatDoor
