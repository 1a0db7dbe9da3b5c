/- Texts of the proof, one behind the other. -/
import Derived.Test.YtlaenbdlgpepkaaGreatDoorOwn9
import Derived.Test.YtlaenbdlgpepkaaGreatDoorOwn11
import Derived.Deep.DeepAppendRoom
import Derived.Test.YtlaenbdlgpepkaaGreatDoorOwn10
import Derived.Test.YtlaenbdlgpepkaaGreatDoorOwn4
import Derived.Test.YtlaenbdlgpepkaaGreatDoorOwn5
import Derived.Deep.Slices
import Derived.Sort.QuietTacIn
import Derived.Sort.CutIn
/- The document's examples at the head of layer 2's statements: they come out true. -/
namespace Go.Proofs.YtlaenbdlgpepkaaGreatDoor
open Go.RowKit Go.Maps

theorem sl_oneN {w : World} {g x : Nat} (hx : x < 4294967296) (h : w.cell? ⟨g, 0, none⟩ = some (.int .u32 (x : Int))) : Sl w (.slice (some ⟨g, 0, none⟩) 1 1) [x] := by
  refine ⟨by intro y hy; simp at hy; omega, _, 1, rfl, by simp, by simp [maxLen], fun _ => ⟨g, 0, rfl, World.block_lt_of_cell? w _ h, ?_⟩⟩
  intro k y hk
  have hlt := (List.getElem?_eq_some_iff.1 hk).1
  match k, hlt with
  | 0, _ =>
    simp only [List.getElem?_cons_zero, Option.some.injEq] at hk
    subst hk
    exact h

theorem is_oneI {w : World} {g : Nat} {a : Int} (ha : -9223372036854775808 ≤ a ∧ a ≤ 9223372036854775807) (h : w.cell? ⟨g, 0, none⟩ = some (.int .i64 a)) : Is w (.slice (some ⟨g, 0, none⟩) 1 1) [a] := by
  refine ⟨_, 1, rfl, by simp, by simp [maxLen], fun _ => ⟨g, 0, rfl, World.block_lt_of_cell? w _ h, ?_⟩⟩
  intro k x hk
  have hlt := (List.getElem?_eq_some_iff.1 hk).1
  match k, hlt with
  | 0, _ =>
    simp only [List.getElem?_cons_zero, Option.some.injEq] at hk
    subst hk
    exact ⟨ha.1, ha.2, h⟩

/-- Monomials one behind the other. -/
def EMs (w : World) (g : Nat) : Nat → List Mn → Prop
  | _, [] => True
  | o, m :: r => EM w g o m ∧ EMs w g (o + 2) r

theorem EMs.get {w : World} {g : Nat} : ∀ {p : List Mn} {o k : Nat} {m : Mn}, EMs w g o p → p[k]? = some m → EM w g (o + k * 2) m
  | [], _, _, _, _, h => by simp at h
  | x :: r, o, 0, m, h, hk => by
    simp at hk
    subst hk
    exact h.1
  | x :: r, o, k + 1, m, h, hk => by
    have := EMs.get h.2 (k := k) (by simpa using hk)
    rw [show o + (k + 1) * 2 = o + 2 + k * 2 by omega]
    exact this

theorem ms_lit {w : World} {g n : Nat} {p : List Mn} (hg : g < w.heap.size) (hn : n = p.length ∧ p.length ≤ 9) (h : EMs w g 0 p) : Ms w (.slice (some ⟨g, 0, none⟩) n n) p := by
  obtain ⟨rfl, hl⟩ := hn
  refine ⟨_, p.length, rfl, Nat.le_refl _, by unfold maxLen; omega, fun _ => ⟨g, 0, rfl, hg, fun k m hk => ?_⟩⟩
  have := h.get hk
  rwa [Nat.zero_add] at this ⊢

end Go.Proofs.YtlaenbdlgpepkaaGreatDoor

/- What the document's Compose answers. -/
namespace Go.Proofs.YtlaenbdlgpepkaaGreatDoor
open Go.RowKit Go.Maps

theorem checkAll_zero : ∀ {args : List (List Mn)}, (∀ x ∈ args, checkE x 9223372036854775807 = 0) → checkAllE args = 0
  | [], _ => rfl
  | a :: args, h => by
    simp only [checkAllE]
    rw [if_pos (h a (by simp))]
    exact checkAll_zero fun x hx => h x (List.mem_cons_of_mem _ hx)

end Go.Proofs.YtlaenbdlgpepkaaGreatDoor

/- The polynomial of a term, plainly: from the back, with a stack. -/
namespace Go.Proofs.YtlaenbdlgpepkaaGreatDoor

/-- The polynomial that is a variable alone. -/
def vpol (k : Nat) : List Mn := [([1], List.replicate k 0 ++ [1])]

/-- A symbol's polynomial. -/
def spol : List Ip → Int → List Mn
  | [], _ => []
  | x :: r, d => if x.1 = d then x.2 else spol r d

/-- A code more, from the back to the front: what begins first stands first. -/
def ofS (sig : List Sy) (sp vp : Int → List Mn) : List Int → Option (List (List Mn))
  | [] => some []
  | c :: u =>
    match ofS sig sp vp u with
    | none => none
    | some st => if c < 0 then some (vp c :: st) else if compE (sp c) (st.take (arN sig c)) = 0 then some (compL (sp c) (st.take (arN sig c)) :: st.drop (arN sig c)) else none

theorem ofS_var {sig : List Sy} {sp vp : Int → List Mn} {c : Int} {u : List Int} {st : List (List Mn)} (h : ofS sig sp vp u = some st) (hc : c < 0) : ofS sig sp vp (c :: u) = some (vp c :: st) := by
  rw [ofS, h]
  simp only [if_pos hc]

theorem ofS_yes {sig : List Sy} {sp vp : Int → List Mn} {c : Int} {u : List Int} {st : List (List Mn)} (h : ofS sig sp vp u = some st) (hc : ¬ c < 0) (h0 : compE (sp c) (st.take (arN sig c)) = 0) :
    ofS sig sp vp (c :: u) = some (compL (sp c) (st.take (arN sig c)) :: st.drop (arN sig c)) := by
  rw [ofS, h]
  simp only [if_neg hc, if_pos h0]

theorem ofS_no {sig : List Sy} {sp vp : Int → List Mn} {c : Int} {u : List Int} {st : List (List Mn)} (h : ofS sig sp vp u = some st) (hc : ¬ c < 0) (h0 : ¬ compE (sp c) (st.take (arN sig c)) = 0) : ofS sig sp vp (c :: u) = none := by
  rw [ofS, h]
  simp only [if_neg hc, if_neg h0]

theorem ofS_none {sig : List Sy} {sp vp : Int → List Mn} {u : List Int} (h : ofS sig sp vp u = none) (c : Int) : ofS sig sp vp (c :: u) = none := by
  rw [ofS, h]

theorem ofS_noneL {sig : List Sy} {sp vp : Int → List Mn} {u : List Int} (h : ofS sig sp vp u = none) : ∀ p : List Int, ofS sig sp vp (p ++ u) = none
  | [] => h
  | c :: p => ofS_none (ofS_noneL h p) c

theorem ofS_len {sig : List Sy} {sp vp : Int → List Mn} : ∀ {u : List Int} {st : List (List Mn)}, ofS sig sp vp u = some st → st.length = (growR sig u).length
  | [], st, h => by cases h; rfl
  | c :: u, st, h => by
    cases hu : ofS sig sp vp u with
    | none => rw [ofS_none hu] at h; cases h
    | some s =>
      have ih := ofS_len hu
      by_cases hc : c < 0
      · rw [ofS_var hu hc] at h
        cases h
        show _ = (growStep sig (growR sig u) c).length
        unfold growStep
        rw [if_pos hc, List.length_append, List.length_cons, ih]
        rfl
      · by_cases h0 : compE (sp c) (s.take (arN sig c)) = 0
        · rw [ofS_yes hu hc h0] at h
          cases h
          show _ = (growStep sig (growR sig u) c).length
          unfold growStep
          rw [if_neg hc, List.length_append, List.length_cons, List.length_drop, List.length_take, ih]
          simp only [List.length_cons, List.length_nil]
          omega
        · rw [ofS_no hu hc h0] at h; cases h

/-- A right row is one term: one polynomial or none. -/
theorem ofS_one {sig : List Sy} (ha : ArOk sig) {sp vp : Int → List Mn} {t : List Int} (h : rowE sig t = 0) : ofS sig sp vp t = none ∨ ∃ p, ofS sig sp vp t = some [p] := by
  cases ht : ofS sig sp vp t with
  | none => exact .inl rfl
  | some st =>
    obtain ⟨T, hT, _⟩ := grow_one ha h
    have hl := ofS_len ht
    rw [hT] at hl
    match st, hl with
    | [p], _ => exact .inr ⟨p, rfl⟩

/-- Compose, monomial by monomial: in bounds or too big. -/
theorem compGo_two {args : List (List Mn)} (ha : ∀ f ∈ args, Ch f) : ∀ {p : List Mn} {L : LkY} {F : List Nat → Nat}, Pol p → StY L F → OkF F → KeysLe L →
    ((compGo args L p).2 = 0 ∧ ∃ G, StY (compGo args L p).1 G ∧ OkF G ∧ KeysLe (compGo args L p).1) ∨ (compGo args L p).2 = 2
  | [], L, F, _, hs, ho, hk => by
    unfold compGo
    exact .inl ⟨rfl, F, hs, ho, hk⟩
  | m :: p, L, F, hp, hs, ho, hk => by
    have hpt : Pol p := hp.tail
    have hmb := hp.mon m (by simp)
    have hmg := hp.good (m := m) (by simp)
    have hxs : ∀ x ∈ m.2, 0 ≤ x ∧ x ≤ 64 := hmg.2.2.2
    unfold compGo
    cases hn : noughtB m.2 args
    · have ev : worthV prodL prodE m.2 args [(m.1, [])] = worthGo prodL prodE m.2 args [(m.1, [])] := by unfold worthV; rw [hn]; rfl
      rw [ev]
      obtain ⟨e1, e2, e3⟩ := fac_worth ha hxs hn (ch_const hmb (hp.lim m (by simp))) (by simp)
      rw [← e1]
      by_cases h0 : (facR m.2 args [(m.1, [])]).2 = 0
      · obtain ⟨x1, x2⟩ := e2 h0
        rw [if_pos h0, ← x1]
        obtain ⟨X, hX⟩ : ∃ X, X = (facR m.2 args [(m.1, [])]).1 := ⟨_, rfl⟩
        rw [← hX] at x2 ⊢
        have hk2 := keysLe_puts x2.1.dom hk
        rcases puts_spec (fun m hm => x2.1.good hm) x2.1.dom hs ho with ⟨b1, b2, b3⟩ | ⟨b1, b2⟩
        · rw [if_pos b1]
          exact compGo_two ha hpt b3 b2 hk2
        · rw [if_neg (by rw [b1]; decide)]
          exact .inr b1
      · rw [if_neg h0]
        rcases e3 with h | h
        · exact absurd h h0
        · exact .inr h
    · have ev : worthV prodL prodE m.2 args [(m.1, [])] = ([], 0) := by unfold worthV; rw [hn]; rfl
      rw [ev]
      have ep : puts L [] = (L, 0) := rfl
      simp only [ep, if_true]
      exact compGo_two ha hpt hs ho hk

theorem comp_two {p : List Mn} {args : List (List Mn)} (hp : Ch p) (ha : ∀ f ∈ args, Ch f) (hv : varsN p ≤ args.length) : (compE p args = 0 ∧ Ch (compL p args)) ∨ compE p args = 2 := by
  have h1 : compE p args = (compGo args [] p).2 := by
    unfold compE
    rw [if_pos (checkAll1_iff.2 hp.2), if_pos (checkAll_zero fun x hx => (ha x hx).2), if_pos hv]
  rcases compGo_two ha hp.1 StY.nil okF_zero keysLe_nil with ⟨h2, G, g1, g2, g3⟩ | h2
  · have h0 := h1.trans h2
    have hr := g1.row g2 fun q hq => (g3 q hq).1
    refine .inl ⟨h0, ?_⟩
    unfold compL
    rw [if_pos h0]
    exact ⟨hr.1, hr.2.1⟩
  · exact .inr (h1.trans h2)

/-- What Check tells of interpretations: each symbol's is one, a polynomial of so many variables. -/
theorem inGo_all {sig : List Sy} : ∀ {l : List Ip} {f : Nat → Bool}, inGo sig f l = 0 → (l.map (·.1)).Nodup ∧ (∀ x ∈ l, f x.1.toNat = false) ∧ ∀ i, i < sig.length → f i = true ∨ (i : Int) ∈ l.map (·.1)
  | [], f, h => by
    rw [inGo] at h
    refine ⟨List.nodup_nil, fun x hx => (by cases hx), fun i hi => .inl ?_⟩
    cases hf : f i with
    | true => rfl
    | false => rw [lackB_yes hi hf] at h; cases h
  | (c, p) :: r, f, h => by
    have hok := inGo_ok h
    rw [inGo] at h
    split at h
    · cases h
    · rename_i h1
      split at h
      · cases h
      · split at h
        · cases h
        · obtain ⟨a1, a2, a3⟩ := inGo_all h
          have hc := (hok (c, p) (by simp)).1
          simp only at hc
          have hnot : ∀ x ∈ r, ¬ x.1 = c := fun x hx e => by
            have := a2 x hx
            unfold gvn at this
            rw [e] at this
            simp at this
          refine ⟨?_, ?_, fun i hi => ?_⟩
          · rw [List.map_cons, List.nodup_cons]
            refine ⟨fun hm => ?_, a1⟩
            obtain ⟨x, hx, e⟩ := List.mem_map.1 hm
            exact hnot x hx e
          · intro x hx
            rcases List.mem_cons.1 hx with rfl | hx
            · cases hf : f c.toNat with
              | true => exact absurd (Or.inr (Or.inr hf)) h1
              | false => rfl
            · have := a2 x hx
              unfold gvn at this
              split at this
              · cases this
              · exact this
          · rcases a3 i hi with h3 | h3
            · unfold gvn at h3
              split at h3
              · rename_i e
                refine .inr ?_
                rw [e, List.map_cons, Int.toNat_of_nonneg hc]
                simp
              · exact .inl h3
            · exact .inr (List.mem_cons_of_mem _ h3)

theorem spol_mem : ∀ {l : List Ip} {c : Int}, c ∈ l.map (·.1) → (c, spol l c) ∈ l
  | [], c, h => by cases h
  | x :: r, c, h => by
    rw [spol]
    by_cases e : x.1 = c
    · rw [if_pos e, ← e]
      simp
    · rw [if_neg e]
      rcases List.mem_cons.1 h with h | h
      · exact absurd h.symm e
      · exact List.mem_cons_of_mem _ (spol_mem h)

theorem spol_of : ∀ {l : List Ip} {c : Int} {p : List Mn}, (l.map (·.1)).Nodup → (c, p) ∈ l → spol l c = p
  | [], c, p, _, h => by cases h
  | x :: r, c, p, hn, h => by
    rw [List.map_cons, List.nodup_cons] at hn
    rw [spol]
    rcases List.mem_cons.1 h with h | h
    · rw [← h, if_pos rfl]
    · rw [if_neg (fun e => hn.1 (by rw [e]; exact List.mem_map.2 ⟨_, h, rfl⟩))]
      exact spol_of hn.2 h

theorem spol_rev {l : List Ip} (hn : (l.map (·.1)).Nodup) (c : Int) : spol l.reverse c = spol l c := by
  by_cases h : c ∈ l.map (·.1)
  · have h1 := spol_mem h
    have h2 : (l.reverse.map (·.1)).Nodup := by
      rw [List.map_reverse]
      exact (List.reverse_perm (l.map (·.1))).symm.nodup hn
    exact spol_of h2 (List.mem_reverse.2 h1)
  · have hno : ∀ m : List Ip, (∀ x ∈ m, ¬ x.1 = c) → spol m c = [] := by
      intro m
      induction m with
      | nil => intro _; rfl
      | cons x r ih =>
        intro hx
        rw [spol, if_neg (hx x (by simp))]
        exact ih fun y hy => hx y (List.mem_cons_of_mem _ hy)
    rw [hno l fun x hx e => h (List.mem_map.2 ⟨x, hx, e⟩), hno l.reverse fun x hx e => h (List.mem_map.2 ⟨x, List.mem_reverse.1 hx, e⟩)]

end Go.Proofs.YtlaenbdlgpepkaaGreatDoor

/- When two rules number their variables alike, plainly. -/
namespace Go.Proofs.YtlaenbdlgpepkaaGreatDoor
open Go.RowKit Go.Maps

theorem metA_neg : ∀ (a m : List Int), (∀ c ∈ m, c < 0) → ∀ c ∈ metA m a, c < 0
  | [], m, h, c, hc => h c hc
  | d :: a, m, h, c, hc => by
    unfold metA at hc
    split at hc
    · exact metA_neg a m h c hc
    · rename_i hn
      refine metA_neg a (m ++ [d]) (fun e he => ?_) c hc
      rcases List.mem_append.1 he with he | he
      · exact h e he
      · simp at he
        subst he
        omega

theorem metA_mem : ∀ (a m : List Int) (c : Int), c ∈ metA m a ↔ c ∈ m ∨ (c ∈ a ∧ c < 0)
  | [], m, c => by simp [metA]
  | d :: a, m, c => by
    unfold metA
    split
    · rename_i hd
      rw [metA_mem a m c]
      constructor
      · rintro (h | ⟨h, h0⟩)
        · exact .inl h
        · exact .inr ⟨by simp [h], h0⟩
      · rintro (h | ⟨h, h0⟩)
        · exact .inl h
        · rcases List.mem_cons.1 h with rfl | h
          · rcases hd with hd | hd
            · omega
            · exact .inl hd
          · exact .inr ⟨h, h0⟩
    · rename_i hd
      rw [metA_mem a (m ++ [d]) c]
      constructor
      · rintro (h | ⟨h, h0⟩)
        · rcases List.mem_append.1 h with h | h
          · exact .inl h
          · simp at h
            subst h
            exact .inr ⟨by simp, by omega⟩
        · exact .inr ⟨by simp [h], h0⟩
      · rintro (h | ⟨h, h0⟩)
        · exact .inl (by simp [h])
        · rcases List.mem_cons.1 h with rfl | h
          · exact .inl (by simp)
          · exact .inr ⟨h, h0⟩

theorem met_once : ∀ (t m : List Int), m.Nodup → (metA m t).Nodup
  | [], m, h => h
  | c :: t, m, h => by
    unfold metA
    split
    · exact met_once t m h
    · rename_i hn
      refine met_once t (m ++ [c]) ?_
      rw [List.nodup_append]
      refine ⟨h, by simp, ?_⟩
      intro a ha b hb e
      simp at hb
      subst hb
      subst e
      exact hn (.inr ha)

theorem idx_of {V : List Int} (h : V.Nodup) {k : Nat} {v : Int} (hk : V[k]? = some v) : V.idxOf v = k := by
  obtain ⟨h1, rfl⟩ := List.getElem?_eq_some_iff.1 hk
  exact h.idxOf_getElem k h1

theorem idx_get {V : List Int} {v : Int} (h : v ∈ V) : V[V.idxOf v]? = some v := by
  rw [List.getElem?_eq_getElem (List.idxOf_lt_length_of_mem h), List.getElem_idxOf]

end Go.Proofs.YtlaenbdlgpepkaaGreatDoor

/- The polynomial of a term, plainly: what is handed to Compose is right; what Of and Falls answer. -/
namespace Go.Proofs.YtlaenbdlgpepkaaGreatDoor

theorem arI_arN {sig : List Sy} (ha : ArOk sig) (c : Int) : arI sig c = (arN sig c : Int) := by
  unfold arI arN
  cases h : sig[c.toNat]? with
  | none => rfl
  | some s =>
    have := ha s (List.mem_of_getElem? h)
    simp only
    omega

/-- Each symbol's polynomial, where Check tells nothing. -/
theorem in_spol {sig : List Sy} {l : List Ip} (h : inE sig l = 0) (hL : ∀ x ∈ l, ∀ m ∈ x.2, Lim m.1) {c : Int} (h0 : 0 ≤ c) (h1 : c.toNat < sig.length) : (c, spol l c) ∈ l ∧ Ch (spol l c) ∧ varsN (spol l c) ≤ arN sig c := by
  obtain ⟨hs, hx⟩ := inE_ok h
  have ha := sigE_ok hs
  have hg : inGo sig (fun _ => false) l = 0 := by
    unfold inE at h
    rw [if_pos hs] at h
    exact h
  obtain ⟨_, _, h3⟩ := inGo_all hg
  have hm : c ∈ l.map (·.1) := by
    rcases h3 c.toNat h1 with h | h
    · cases h
    · rw [Int.toNat_of_nonneg h0] at h
      exact h
  have hmem := spol_mem hm
  obtain ⟨_, _, n20, n2⟩ := hx _ hmem
  simp only at n20 n2
  have hz : checkE (spol l c) (arI sig c) = 0 := by
    rcases checkE_three (spol l c) (arI sig c) (arI_ok ha c) with h | h | h
    · exact h
    · exact absurd h n2
    · exact absurd h n20
  have hbig := check_vars (b := 9223372036854775807) (arI_ok ha c) (by omega) hz
  refine ⟨hmem, ⟨Pol.of (hL _ hmem) (by omega) hbig, hbig⟩, ?_⟩
  rw [arI_arN ha] at hz
  exact (check_len hbig).1 hz

theorem in_nodup {sig : List Sy} {l : List Ip} (h : inE sig l = 0) : (l.map (·.1)).Nodup := by
  obtain ⟨hs, _⟩ := inE_ok h
  unfold inE at h
  rw [if_pos hs] at h
  exact (inGo_all h).1

theorem vpol_mon (k : Nat) : monB ([1], List.replicate k (0 : Int) ++ [1]) = true := by
  unfold monB
  have h1 : (List.replicate k (0 : Int) ++ [1]).all (fun n => decide (0 ≤ n)) = true := by
    rw [List.all_eq_true]
    intro x hx
    rcases List.mem_append.1 hx with h | h
    · rw [List.eq_of_mem_replicate h]; rfl
    · rw [List.mem_singleton.1 h]; rfl
  have h2 : (List.replicate k (0 : Int) ++ [1])[(List.replicate k (0 : Int) ++ [1]).length - 1]? = some 1 := by
    rw [List.length_append, List.length_replicate]
    simp
  rw [h1]
  simp only [h2]
  have h3 : rightB [1] = true := by decide
  rw [h3]
  simp

theorem vpol_check {k n : Nat} (hk : k < n) : checkE (vpol k) (n : Int) = if k < 512 then 0 else 2 := by
  have hp : polyB (vpol k) (n : Int) = true := by
    rw [polyB_iff]
    intro j hj
    have : j = 0 := by simpa [vpol] using hj
    subst this
    unfold okAt
    simp only [vpol, List.getElem?_cons_zero, vpol_mon, Bool.true_and, beq_self_eq_true, Bool.true_or, Bool.and_true, decide_eq_true_eq, List.length_append, List.length_replicate, List.length_cons, List.length_nil]
    omega
  unfold checkE
  rw [if_neg (by omega), if_neg (by rw [hp]; decide)]
  by_cases h : k < 512
  · have hb : boundsB (vpol k) = true := by
      unfold boundsB smallB vpol
      simp only [List.length_cons, List.length_nil, List.all_cons, List.all_nil, Bool.and_true, List.length_append, List.length_replicate, Bool.and_eq_true, decide_eq_true_eq, List.all_eq_true]
      refine ⟨by omega, by omega, fun x hx => ?_⟩
      rcases List.mem_append.1 hx with h | h
      · rw [List.eq_of_mem_replicate h]; omega
      · rw [List.mem_singleton.1 h]; omega
    rw [if_neg (by rw [hb]; decide), if_pos h]
  · have hb : boundsB (vpol k) = false := by
      unfold boundsB smallB vpol
      simp only [List.length_cons, List.length_nil, List.all_cons, List.all_nil, Bool.and_true, List.length_append, List.length_replicate]
      rw [decide_eq_false (p := k + (0 + 1) ≤ 512) (by omega)]
      simp
    rw [if_pos hb, if_neg h]

theorem vpol_ch {k : Nat} (hk : k < 512) : Ch (vpol k) := by
  have h := vpol_check (n := 512) hk
  rw [if_pos hk] at h
  have hb := check_vars (b := 9223372036854775807) (by omega) (by omega) h
  refine ⟨Pol.of (fun m hm => ?_) (by omega) hb, hb⟩
  have : m = ([1], List.replicate k 0 ++ [1]) := by simpa [vpol] using hm
  subst this
  intro x hx
  have : x = 1 := by simpa using hx
  omega

/-- What stands on the stack is right; and a code that is too big is told as such. -/
theorem ofS_ch {sig : List Sy} (ha : ArOk sig) {sp vp : Int → List Mn} (hsp : ∀ c : Int, 0 ≤ c → c.toNat < sig.length → Ch (sp c) ∧ varsN (sp c) ≤ arN sig c) : ∀ (u p : List Int), firstT sig 1 0 (p ++ u) = (((p ++ u).length : Int), 0) → (∀ c ∈ u, c < 0 → Ch (vp c)) →
    ∀ st, ofS sig sp vp u = some st → ∀ q ∈ st, Ch q
  | [], p, _, _, st, h => by
    cases h
    exact fun q hq => by cases hq
  | c :: u, p, hf, hv, st, h => by
    have ih := ofS_ch ha hsp u (p ++ [c]) (by simpa using hf) (fun d hd => hv d (List.mem_cons_of_mem _ hd))
    cases hu : ofS sig sp vp u with
    | none => rw [ofS_none hu] at h; cases h
    | some s =>
      have is := ih s hu
      by_cases hc : c < 0
      · rw [ofS_var hu hc] at h
        cases h
        intro q hq
        rcases List.mem_cons.1 hq with rfl | hq
        · exact hv c (by simp) hc
        · exact is q hq
      · obtain ⟨k1, k2⟩ := grow_code ha p c u 1 0 (by omega) (by rw [hf]; simp) hc
        rw [← ofS_len hu] at k2
        obtain ⟨c1, c2⟩ := hsp c (by omega) k1
        by_cases h0 : compE (sp c) (s.take (arN sig c)) = 0
        · rw [ofS_yes hu hc h0] at h
          cases h
          intro q hq
          rcases List.mem_cons.1 hq with rfl | hq
          · rcases comp_two c1 (fun f hf => is f (List.mem_of_mem_take hf)) (by rw [List.length_take, Nat.min_eq_left k2]; exact c2) with h | h
            · exact h.2
            · rw [h] at h0; cases h0
          · exact is q (List.mem_of_mem_drop hq)
        · rw [ofS_no hu hc h0] at h; cases h

theorem ofS_big {sig : List Sy} (ha : ArOk sig) {sp vp : Int → List Mn} (hsp : ∀ c : Int, 0 ≤ c → c.toNat < sig.length → Ch (sp c) ∧ varsN (sp c) ≤ arN sig c) {c : Int} {u p : List Int} (hf : firstT sig 1 0 (p ++ c :: u) = (((p ++ c :: u).length : Int), 0)) (hv : ∀ c ∈ u, c < 0 → Ch (vp c))
    {st : List (List Mn)} (hu : ofS sig sp vp u = some st) (hc : ¬ c < 0) : c.toNat < sig.length ∧ arN sig c ≤ st.length ∧ (compE (sp c) (st.take (arN sig c)) = 0 ∨ compE (sp c) (st.take (arN sig c)) = 2) := by
  obtain ⟨k1, k2⟩ := grow_code ha p c u 1 0 (by omega) (by rw [hf]; simp) hc
  rw [← ofS_len hu] at k2
  obtain ⟨c1, c2⟩ := hsp c (by omega) k1
  have is := ofS_ch ha hsp u (p ++ [c]) (by simpa using hf) hv st hu
  refine ⟨k1, k2, ?_⟩
  rcases comp_two c1 (fun f hf => is f (List.mem_of_mem_take hf)) (by rw [List.length_take, Nat.min_eq_left k2]; exact c2) with h | h
  · exact .inl h.1
  · exact .inr h

/-- A variable's polynomial by its place in a row of numbers. -/
def vAt (vs : List Int) (c : Int) : List Mn := vpol (vs.idxOf (-1 - c))

/-- The polynomial of a term, with the variables numbered by a row; nothing: one is too big. -/
def ofV (sig : List Sy) (l : List Ip) (vs t : List Int) : Option (List Mn) :=
  if 512 < vs.length then none else match ofS sig (spol l) (vAt vs) t with | some [p] => some p | _ => none

/-- The error and the row that are told. -/
def ovE (o : Option (List Mn)) : Int := match o with | some _ => 0 | none => 2

def ovL (o : Option (List Mn)) : List Mn := o.getD []

theorem ofV_some {sig : List Sy} {l : List Ip} {vs t : List Int} {p : List Mn} (h : vs.length ≤ 512) (ht : ofS sig (spol l) (vAt vs) t = some [p]) : ofV sig l vs t = some p := by
  unfold ofV
  rw [if_neg (by omega), ht]

theorem ofV_none {sig : List Sy} {l : List Ip} {vs t : List Int} (ht : ofS sig (spol l) (vAt vs) t = none) : ofV sig l vs t = none := by
  unfold ofV
  rw [ht]
  split <;> rfl

def ofPE (sig : List Sy) (l : List Ip) (t : List Int) : Int := if inE sig l = 0 then if termE sig t = 0 then ovE (ofV sig l (varsL t) t) else termE sig t else inE sig l

def ofPL (sig : List Sy) (l : List Ip) (t : List Int) : List Mn := if inE sig l = 0 ∧ termE sig t = 0 then ovL (ofV sig l (varsL t) t) else []

/-- Of two answers the first error. -/
def ovE2 (a b : Option (List Mn)) : Int := if ovE a = 0 then ovE b else ovE a

def fallE (sig : List Sy) (l : List Ip) (a b : List Int) : Int := if inE sig l = 0 then if termE sig a = 0 then if termE sig b = 0 then ovE2 (ofV sig l (varsL (a ++ b)) a) (ofV sig l (varsL (a ++ b)) b) else termE sig b else termE sig a else inE sig l

/-- How much greater one is. -/
def fallP (p q : List Mn) : Int := if greaterB p q = true then 2 else if atLeastB p q = true then 1 else 0

def fallN (sig : List Sy) (l : List Ip) (a b : List Int) : Int := if fallE sig l a b = 0 then fallP (ovL (ofV sig l (varsL (a ++ b)) a)) (ovL (ofV sig l (varsL (a ++ b)) b)) else 0

end Go.Proofs.YtlaenbdlgpepkaaGreatDoor

/- Binds whose rows are the call's own; a look into a map of rows. -/
namespace Go.Proofs.YtlaenbdlgpepkaaGreatDoor
open Go.RowKit Go.Maps

theorem MapV.lookOne {w : World} {b : Nat} {L : List (Int × Value)} (h : MapV w b L) {t e : TypeId} {z : Value} (ht : Tryz.prog.underlying t = some (.map 3 e)) (hz : (zeroValue e).run Tryz.prog w = .ok z w) {k : Int} (h1 : -9223372036854775808 ≤ k) (h2 : k ≤ 9223372036854775807) {u : Value} (hl : L.lookup k = some u) :
    (Instr.lookup t (.map (some b)) (.int .i64 k) false).run Tryz.prog w = .ok u w := by
  obtain ⟨D, hD, _, ha, hh⟩ := h
  obtain ⟨v, ps, hrun, hv⟩ := hD.lookup set_keyed ht hz (zd := .held z) (zp := []) rfl (key_int h1 h2)
  rw [hrun]
  have hv2 : D.atKey (.int .i64 k) (.held z) = .held v := by
    simp only [RV, Option.some.injEq, Prod.mk.injEq] at hv
    exact hv.1.symm
  rw [ha k u hl] at hv2
  rw [DataW.held.inj hv2]

end Go.Proofs.YtlaenbdlgpepkaaGreatDoor

/- Blocks of rows of monomials; rows of one's own beside them. -/
namespace Go.Proofs.YtlaenbdlgpepkaaGreatDoor
open Go.RowKit Go.Maps Go.BigFrame

/-- A block that holds the headers of rows of monomials. -/
def VB (w : World) (g : Nat) (vals : List Value) : Prop := w.heap[g]? = some (.cells vals.toArray 31 (0, 0))

theorem VB.lt {w : World} {g : Nat} {vals : List Value} (h : VB w g vals) : g < w.heap.size := (Array.getElem?_eq_some_iff.1 h).1

theorem VB.cell {w : World} {g : Nat} {vals : List Value} (h : VB w g vals) {k : Nat} {v : Value} (hk : vals[k]? = some v) : w.cell? ⟨g, k, none⟩ = some v := by
  rw [cell_of_row _ _ _ _ _ _ h]
  simpa using hk

theorem VB.frozen {w : World} {g : Nat} {vals : List Value} (h : VB w g vals) (k : Nat) : w.frozen? ⟨g, k, none⟩ = false := frozen_of_row w _ _ _ _ h

theorem VB.set {w : World} {g : Nat} {vals : List Value} (h : VB w g vals) (k : Nat) (v : Value) : VB (w.setCell ⟨g, k, none⟩ v) g (vals.set k v) := by
  unfold VB
  rw [heap_setCell_same _ _ _ _ _ _ h]
  simp

theorem VB.later {w w' : World} {g : Nat} {vals : List Value} (h : VB w g vals) (hb : Below w.heap.size w w') : VB w' g vals := (hb.block g h.lt).trans h

theorem VB.held {w w' : World} {g : Nat} {vals : List Value} {row : Option Nat} (h : VB w g vals) (hg : w.grownBy w' row) (hr : some g ≠ row) : VB w' g vals := (hg.block g h.lt hr).trans h

theorem grown_setCell (w : World) (g k : Nat) (v : Value) : w.grownBy (w.setCell ⟨g, k, none⟩ v) (some g) :=
  ⟨rfl, rfl, rfl, by simp, fun j _ hj => Below.heap_setCell w ⟨g, k, none⟩ v j (fun e => hj (by rw [e]))⟩

theorem own_notVB {w : World} {base n g : Nat} {e : TypeId} {s : Nat} {v : Value} {xs vals : List Value} (h : w.ownsRow base e s v n xs) (hg : VB w g vals) (hne : e ≠ 31) : v.ownBlock = none ∨ v.ownBlock ≠ some g := by
  rcases h.2 with ⟨rfl, _⟩ | ⟨g', cap, cur, rfl, _, hg', _⟩
  · exact .inl rfl
  · refine .inr ?_
    simp only [Value.ownBlock]
    intro e
    cases e
    unfold VB at hg
    rw [hg] at hg'
    simp only [Option.some.injEq, Obj.cells.injEq] at hg'
    exact hne hg'.2.1.symm

theorem OM.held {w w' : World} {base : Nat} {v : Value} {p : List Mn} {row : Option Nat} (h : OM w base v p) (hg : w.grownBy w' row) (hn : ∀ (e : TypeId) (s n : Nat) (u : Value) (xs : List Value), w.ownsRow base e s u n xs → e ≠ 31 → u.ownBlock = none ∨ u.ownBlock ≠ row) : OM w' base v p := by
  obtain ⟨cs, hl, hc, ho⟩ := h
  refine ⟨cs, hl, fun i c m h1 h2 => ?_, World.ownsRow.kept ho hg (hn _ _ _ _ _ ho (by decide))⟩
  obtain ⟨o1, o2⟩ := hc i c m h1 h2
  exact ⟨o1.held hg (hn _ _ _ _ _ o1.2 (by decide)), o2.kept hg (hn _ _ _ _ _ o2.2 (by decide))⟩

theorem OM.setVB {w : World} {base g k : Nat} {v u : Value} {p : List Mn} {vals : List Value} (h : OM w base v p) (hg : VB w g vals) : OM (w.setCell ⟨g, k, none⟩ u) base v p :=
  h.held (grown_setCell w g k u) fun _ _ _ _ _ ho hne => own_notVB ho hg hne

theorem OM.mapped {w w' : World} {base b : Nat} {v : Value} {p : List Mn} {es : Array MapEntry} {clock : Nat} (h : OM w base v p) (hb : w.heap[b]? = some (.map es clock)) (hg : w.grownBy w' (some b)) : OM w' base v p :=
  h.held hg fun _ _ _ _ _ ho _ => own_notMap ho hb

theorem info_monos : (Tryz.prog.info? 31).map (fun i => (i.zero, i.size, i.bytes)) = some (some (.slice none 0 0), 1, 24) := by kernel_rfl

theorem under_polys : Tryz.prog.underlying 49 = some (.slice 31) := by kernel_rfl

theorem run_make_polys (w : World) (n : Nat) (hn : n * 24 ≤ 140737488355328) : (Instr.makeSlice 49 (.int .i64 (n : Int)) (.int .i64 (n : Int))).run Tryz.prog w = .ok (.slice (some ⟨w.heap.size, 0, none⟩) n n) (w.alloc (.cells (List.replicate n (Value.slice none 0 0)).toArray 31)) := by
  obtain ⟨i0, hi, hz0, hz1, hz2⟩ := info_parts3 info_monos
  have h := run_make (P := Tryz.prog) w 49 31 i0 (.slice none 0 0) under_polys hi hz0 .i64 .i64 (n : Int) (n : Int) (by omega) (Int.le_refl _) (by rw [hz2]; omega) (by omega)
  rw [hz1, Int.toNat_natCast] at h
  have e : madeCells (Value.slice none 0 0).cells (n * 1) = (List.replicate n (Value.slice none 0 0)).toArray := by
    apply Array.ext'
    have : (Value.slice none 0 0).cells = #[Value.slice none 0 0] := rfl
    rw [this, toList_madeCells_one]
    simp
  rw [e] at h
  exact h

/-- Some rows of a block, one behind the other, as a list of polynomials. -/
theorem VB.ps {w : World} {g top n cap : Nat} {vals : List Value} {ps : List (List Mn)} (h : VB w g vals) (hn : n = ps.length) (hc : n ≤ cap) (hm : cap ≤ maxLen) (hx : ∀ (i : Nat) p, ps[i]? = some p → ∃ u, vals[top + i]? = some u ∧ Ms w u p) : Ps w (.slice (some ⟨g, top, none⟩) n cap) ps := by
  subst hn
  refine ⟨_, cap, rfl, hc, hm, fun _ => ⟨g, top, rfl, h.lt, fun k p hk => ?_⟩⟩
  obtain ⟨u, hu, hms⟩ := hx k p hk
  exact ⟨u, by rw [Nat.mul_one]; exact h.cell hu, hms⟩

end Go.Proofs.YtlaenbdlgpepkaaGreatDoor

/- Package interp's variable and newMeaning. -/
namespace Go.Proofs.YtlaenbdlgpepkaaGreatDoor
open Go.RowKit Go.Maps Go.BigFrame

/-- So many zeros. -/
def zerosA (n : Nat) : Array Value := ((List.replicate n (0 : Int)).map I64).toArray

theorem run_make_intsI (w : World) (n : Nat) (hn : n * 8 ≤ 140737488355328) : (Instr.makeSlice 30 (.int .i64 (n : Int)) (.int .i64 (n : Int))).run Tryz.prog w = .ok (.slice (some ⟨w.heap.size, 0, none⟩) n n) (w.alloc (.cells (zerosA n) 3)) := by
  obtain ⟨i0, hi, hz0, hz1, hz2⟩ := info_parts3 info_int
  have h := run_make (P := Tryz.prog) w 30 3 i0 (.int .i64 0) under_ints hi hz0 .i64 .i64 (n : Int) (n : Int) (by omega) (Int.le_refl _) (by rw [hz2]; omega) (by omega)
  rw [hz1, Int.toNat_natCast] at h
  have e : madeCells (Value.int .i64 0).cells (n * 1) = zerosA n := by
    unfold zerosA
    apply Array.ext'
    rw [made_zero64]
  rw [e] at h
  exact h

theorem owI_block {w : World} {base g : Nat} {xs : List Int} (hb : base ≤ g) (hz : ZI xs) (hm : xs.length ≤ maxLen) (h : w.heap[g]? = some (.cells (xs.map I64).toArray 3 (0, 0))) : OwI w base (.slice (some ⟨g, 0, none⟩) xs.length xs.length) xs :=
  ⟨hz, by simp, .inr ⟨g, xs.length, _, rfl, hb, h, Nat.le_refl _, hm, by simp, by simp [List.take_of_length_le]⟩⟩

theorem om_one {w : World} {base g n : Nat} {es : List Int} (hb : base ≤ w.heap.size) (hE : OwI w base (.slice (some ⟨g, 0, none⟩) n n) es) :
    OM ((w.alloc (.cells #[.int .u32 1] 38)).alloc (.cells #[.slice (some ⟨w.heap.size, 0, none⟩) 1 1, .slice (some ⟨g, 0, none⟩) n n] 37)) base (.slice (some ⟨w.heap.size + 1, 0, none⟩) 1 1) [([1], es)] := by
  have b1 := below_alloc (w := w) (.cells #[.int .u32 1] 38)
  have b2 := below_alloc (w := w.alloc (.cells #[.int .u32 1] 38)) (.cells #[.slice (some ⟨w.heap.size, 0, none⟩) 1 1, .slice (some ⟨g, 0, none⟩) n n] 37)
  have hO : Ow (w.alloc (.cells #[.int .u32 1] 38)) base (.slice (some ⟨w.heap.size, 0, none⟩) 1 1) [1] :=
    ⟨fun x hx => by simp at hx; omega, rfl, .inr ⟨w.heap.size, 1, _, rfl, hb, heap_alloc_new _ _, Nat.le_refl _, by unfold maxLen; omega, rfl, rfl⟩⟩
  refine ⟨[(.slice (some ⟨w.heap.size, 0, none⟩) 1 1, .slice (some ⟨g, 0, none⟩) n n)], rfl, fun i c m h1 h2 => ?_, rfl, .inr ⟨w.heap.size + 1, 1, #[.slice (some ⟨w.heap.size, 0, none⟩) 1 1, .slice (some ⟨g, 0, none⟩) n n], rfl, by omega, ?_, Nat.le_refl _, by unfold maxLen; omega, rfl, rfl⟩⟩
  · have hi : i = 0 := by
      have := (List.getElem?_eq_some_iff.1 h1).1
      simpa using this
    subst hi
    simp at h1 h2
    subst h1
    subst h2
    exact ⟨hO.since b2, hE.later (below_step b1 b2)⟩
  · have h := heap_alloc_new (w.alloc (.cells #[.int .u32 1] 38)) (.cells #[.slice (some ⟨w.heap.size, 0, none⟩) 1 1, .slice (some ⟨g, 0, none⟩) n n] 37)
    rw [World.size_alloc] at h
    exact h

theorem zeros_set (k : Nat) : (zerosA (k + 1)).setIfInBounds k (.int .i64 1) = ((List.replicate k (0 : Int) ++ [1]).map I64).toArray := by
  unfold zerosA
  rw [List.replicate_succ', List.map_append, List.map_append]
  apply Array.ext'
  rw [Array.toList_setIfInBounds]
  simp [I64]

theorem zi_vpol (k : Nat) : ZI (List.replicate k (0 : Int) ++ [1]) := fun i x hx => by
  rcases List.mem_append.1 (List.mem_of_getElem? hx) with h | h
  · rw [List.eq_of_mem_replicate h]; omega
  · rw [List.mem_singleton.1 h]; omega

set_option maxRecDepth 100000 in
set_option maxHeartbeats 1600000 in
theorem variable_any (k : Nat) (w : World) (hk : k < 512) :
    Calls Tryz.prog 99 #[.int .i64 (k : Int)] w fun e w' => ∃ v, e = .returned v ∧ OM w' w.heap.size v (vpol k) ∧ Below w.heap.size w w' := by
  have hmk := run_make_intsI w (k + 1) (by omega)
  rw [Int.natCast_succ] at hmk
  have HG : Hid ((w.alloc (.cells (zerosA (k + 1)) 3)).heap[w.heap.size]? = some (.cells (zerosA (k + 1)) 3 (0, 0))) := hid (heap_alloc_new _ _)
  have B1 := hid (below_alloc (w := w) (.cells (zerosA (k + 1)) 3))
  go_enter Tryz.func99, Tryz.ntmps99
  go_upto_region 2 with fail
  clear hmk
  generalize w.alloc (.cells (zerosA (k + 1)) 3) = W1 at HG B1 ⊢
  have hfr : W1.frozen? ⟨w.heap.size, k, none⟩ = false := frozen_of_row W1 _ _ _ _ HG.out
  have hcell : W1.cell? ⟨w.heap.size, k, none⟩ = some (.int .i64 0) := by
    rw [cell_of_row _ _ _ _ _ _ HG.out]
    unfold zerosA
    simp [I64]
  obtain ⟨W2, hW2⟩ : ∃ X, X = W1.setCell ⟨w.heap.size, k, none⟩ (.int .i64 1) := ⟨_, rfl⟩
  have HG2 : Hid (W2.heap[w.heap.size]? = some (.cells ((List.replicate k (0 : Int) ++ [1]).map I64).toArray 3 (0, 0))) := by
    show _ = _
    rw [hW2, heap_setCell_same _ _ _ _ _ _ HG.out, zeros_set]
  have B2 : Hid (Below w.heap.size w W2) := by rw [hW2]; exact B1.out.setCell (p := ⟨w.heap.size, k, none⟩) (Nat.le_refl _) (.int .i64 1)
  go_upto_region 3 with fail
  rw [← hW2]
  clear hW2 hfr hcell HG B1
  go_wp2
  go_ret
  have hE := owI_block (w := W2) (base := w.heap.size) (xs := List.replicate k (0 : Int) ++ [1]) (Nat.le_refl _) (zi_vpol k) (by unfold maxLen; simp; omega) HG2.out
  have hl : (List.replicate k (0 : Int) ++ [1]).length = k + 1 := by simp
  rw [hl] at hE
  exact ⟨_, rfl, om_one B2.out.size hE, below_step (below_step B2.out (below_alloc _)) (below_alloc _)⟩

/-- The map of the first k variables' polynomials. -/
def VM (w : World) (base b : Nat) (vs : List Int) (k : Nat) : Prop :=
  ∃ L, MapV w b L ∧ L.length = k ∧ (∀ c u, L.lookup c = some u → ∃ i, i < k ∧ vs[i]? = some (-1 - c) ∧ OM w base u (vpol i)) ∧ ∀ i v, i < k → vs[i]? = some v → (L.lookup (-1 - v)).isSome = true

theorem VM.later {w w' : World} {base b k : Nat} {vs : List Int} (h : VM w base b vs k) (hb : Below w.heap.size w w') : VM w' base b vs k := by
  obtain ⟨L, h1, h2, h3, h4⟩ := h
  refine ⟨L, h1.later hb, h2, fun c u hc => ?_, h4⟩
  obtain ⟨i, i1, i2, i3⟩ := h3 c u hc
  exact ⟨i, i1, i2, i3.later hb⟩

/-- What newMeaning lays: each symbol's polynomial, and each variable's. -/
structure MgM (w : World) (base gS b : Nat) (sig : List Sy) (l : List Ip) (vs : List Int) : Prop where
  sym : ∃ vals, VB w gS vals ∧ vals.length = sig.length ∧ ∀ c, c < sig.length → ∃ u, vals[c]? = some u ∧ Ms w u (spol l (c : Int))
  var : VM w base b vs vs.length

theorem MgM.later {w w' : World} {base gS b : Nat} {sig : List Sy} {l : List Ip} {vs : List Int} (h : MgM w base gS b sig l vs) (hb : Below w.heap.size w w') : MgM w' base gS b sig l vs := by
  obtain ⟨vals, h1, h2, h3⟩ := h.sym
  refine ⟨⟨vals, h1.later hb, h2, fun c hc => ?_⟩, h.var.later hb⟩
  obtain ⟨u, u1, u2⟩ := h3 c hc
  exact ⟨u, u1, u2.kp (Kp.of_below hb)⟩

theorem under_vmap : Tryz.prog.underlying 83 = some (.map 3 31) := by kernel_rfl

theorem zero_monos (w : World) : (zeroValue 31).run Tryz.prog w = .ok (.slice none 0 0) w := by kernel_rfl

theorem VM.store {w : World} {base b k : Nat} {vs : List Int} {v : Int} {u : Value} (h : VM w base b vs k) (hn : vs.Nodup) (hv : vs[k]? = some v) (h1 : 0 ≤ v) (h2 : v ≤ 1048576) (hk : k < 512) (hu : OM w base u (vpol k)) :
    ∃ w', (Instr.mapUpdate 83 (.map (some b)) (.int .i64 (-1 - v)) u).run Tryz.prog w = .ok () w' ∧ VM w' base b vs (k + 1) ∧ w.grownBy w' (some b) := by
  obtain ⟨L, m1, m2, m3, m4⟩ := h
  have hno : L.lookup (-1 - v) = none := by
    cases hc : L.lookup (-1 - v) with
    | none => rfl
    | some u' =>
      obtain ⟨i, i1, i2, _⟩ := m3 _ _ hc
      rw [show -1 - (-1 - v) = v by omega] at i2
      have e1 := idx_of hn i2
      have e2 := idx_of hn hv
      omega
  obtain ⟨w', r1, r2, r3⟩ := m1.store under_vmap (k := -1 - v) (by omega) (by omega) hno (by rw [m2]; unfold maxLen; omega) u
  obtain ⟨es, clock, hb⟩ := m1.isMap
  refine ⟨w', r1, ⟨_, r2, by rw [List.length_cons, m2], fun c u' hc => ?_, fun i x hi hx => ?_⟩, r3⟩
  · rw [List.lookup_cons] at hc
    by_cases e : c = -1 - v
    · subst e
      simp at hc
      subst hc
      exact ⟨k, by omega, by rw [show -1 - (-1 - v) = v by omega]; exact hv, hu.mapped hb r3⟩
    · rw [show (c == -1 - v) = false by simpa using e] at hc
      obtain ⟨i, i1, i2, i3⟩ := m3 c u' hc
      exact ⟨i, by omega, i2, i3.mapped hb r3⟩
  · rw [List.lookup_cons]
    by_cases e : -1 - x = -1 - v
    · rw [show (-1 - x == -1 - v) = true by simpa using e]
      rfl
    · rw [show (-1 - x == -1 - v) = false by simpa using e]
      refine m4 i x ?_ hx
      rcases Nat.lt_succ_iff_lt_or_eq.1 hi with h | h
      · exact h
      · subst h
        rw [hv] at hx
        cases hx
        exact absurd rfl e

/-- The cell of a meaning. -/
def MC (w : World) (gm : Nat) (sv : Value) (gS n b : Nat) : Prop := w.heap[gm]? = some (.cells #[sv, .slice (some ⟨gS, 0, none⟩) n n, .map (some b)] 85 (0, 0))

theorem MC.lt {w : World} {gm : Nat} {sv : Value} {gS n b : Nat} (h : MC w gm sv gS n b) : gm < w.heap.size := (Array.getElem?_eq_some_iff.1 h).1

theorem MC.cells {w : World} {gm : Nat} {sv : Value} {gS n b : Nat} (h : MC w gm sv gS n b) : w.cell? ⟨gm, 0, none⟩ = some sv ∧ w.cell? ⟨gm, 1, none⟩ = some (.slice (some ⟨gS, 0, none⟩) n n) ∧ w.cell? ⟨gm, 2, none⟩ = some (.map (some b)) :=
  ⟨by rw [cell_of_row _ _ _ _ _ _ h]; rfl, by rw [cell_of_row _ _ _ _ _ _ h]; rfl, by rw [cell_of_row _ _ _ _ _ _ h]; rfl⟩

theorem MC.later {w w' : World} {gm : Nat} {sv : Value} {gS n b : Nat} (h : MC w gm sv gS n b) (hb : Below w.heap.size w w') : MC w' gm sv gS n b := (hb.block gm h.lt).trans h

theorem MC.held {w w' : World} {gm : Nat} {sv : Value} {gS n b : Nat} {row : Option Nat} (h : MC w gm sv gS n b) (hg : w.grownBy w' row) (hr : some gm ≠ row) : MC w' gm sv gS n b := (hg.block gm h.lt hr).trans h

theorem MC.setVB {w : World} {gm : Nat} {sv u : Value} {gS n b g k : Nat} {vals : List Value} (h : MC w gm sv gS n b) (hg : VB w g vals) : MC (w.setCell ⟨g, k, none⟩ u) gm sv gS n b :=
  h.held (grown_setCell w g k u) (fun e => by
    cases e
    unfold MC at h
    unfold VB at hg
    rw [h] at hg
    simp only [Option.some.injEq, Obj.cells.injEq] at hg
    exact absurd hg.2.1 (by decide))

theorem own_notCells {w : World} {base n g : Nat} {e ty : TypeId} {s : Nat} {v : Value} {xs : List Value} {cs : Array Value} {fr : Nat × Nat} (h : w.ownsRow base e s v n xs) (hg : w.heap[g]? = some (.cells cs ty fr)) (hne : e ≠ ty) : v.ownBlock = none ∨ v.ownBlock ≠ some g := by
  rcases h.2 with ⟨rfl, _⟩ | ⟨g', cap, cur, rfl, _, hg', _⟩
  · exact .inl rfl
  · refine .inr ?_
    simp only [Value.ownBlock]
    intro e
    cases e
    rw [hg] at hg'
    simp only [Option.some.injEq, Obj.cells.injEq] at hg'
    exact hne hg'.2.1.symm

theorem OM.heldAt {w w' : World} {base g : Nat} {v : Value} {p : List Mn} {cs : Array Value} {ty : TypeId} {fr : Nat × Nat} (h : OM w base v p) (hg : w.grownBy w' (some g)) (hb : w.heap[g]? = some (.cells cs ty fr)) (h1 : 37 ≠ ty) (h2 : 38 ≠ ty) (h3 : 3 ≠ ty) : OM w' base v p := by
  obtain ⟨cs, hl, hc, ho⟩ := h
  refine ⟨cs, hl, fun i c m i1 i2 => ?_, World.ownsRow.kept ho hg (own_notCells ho hb h1)⟩
  obtain ⟨o1, o2⟩ := hc i c m i1 i2
  exact ⟨o1.held hg (own_notCells o1.2 hb h2), o2.kept hg (own_notCells o2.2 hb h3)⟩

theorem VM.heldAt {w w' : World} {base b k g : Nat} {vs : List Int} {cs : Array Value} {fr : Nat × Nat} (h : VM w base b vs k) (hg : w.grownBy w' (some g)) (hb : w.heap[g]? = some (.cells cs 85 fr)) : VM w' base b vs k := by
  obtain ⟨L, h1, h2, h3, h4⟩ := h
  refine ⟨L, h1.kept hg (fun e => ?_), h2, fun c u hc => ?_, h4⟩
  · obtain ⟨es, clock, hm⟩ := h1.isMap
    cases e
    rw [hb] at hm
    cases hm
  · obtain ⟨i, i1, i2, i3⟩ := h3 c u hc
    exact ⟨i, i1, i2, i3.heldAt hg hb (by decide) (by decide) (by decide)⟩

theorem grown_set3 (w : World) (g : Nat) (a b c : Value) : w.grownBy (((w.setCell ⟨g, 0, none⟩ a).setCell ⟨g, 1, none⟩ b).setCell ⟨g, 2, none⟩ c) (some g) :=
  ⟨rfl, rfl, rfl, by simp, fun j _ hj => by
    have hne : j ≠ g := fun e => hj (by rw [e])
    rw [Below.heap_setCell _ ⟨g, 2, none⟩ c j hne, Below.heap_setCell _ ⟨g, 1, none⟩ b j hne, Below.heap_setCell _ ⟨g, 0, none⟩ a j hne]⟩

set_option maxRecDepth 100000 in
set_option maxHeartbeats 1600000 in
theorem newMeaning_big (sv lv vv : Value) (vs : List Int) (w : World) (hv : Is w vv vs) (hbig : 512 < vs.length) :
    Calls Tryz.prog 46 #[sv, lv, vv] w fun e w' => e = .returned (.tuple #[.agg #[.slice none 0 0, .slice none 0 0, .map none], .int .i64 2]) ∧ Below w.heap.size w w' := by
  obtain ⟨vo, vc, rfl, hvo, hvc, _⟩ := Row.flat hv
  have hd : decide ((512 : Int) < (vs.length : Int)) = true := decide_eq_true (by omega)
  have hd2 : decide (512 < vs.length) = true := decide_eq_true hbig
  clear hv
  go_enter Tryz.func46, Tryz.ntmps46
  go_wp2
  refine bodyPost_ret (results_cell (t := 6) (u := 7) (ty := 85) (ad := ⟨w.heap.size, 0, none⟩) (v := .agg #[.slice none 0 0, .slice none 0 0, .map none]) rfl rfl (by go_simp)) rfl ?_
  exact ⟨rfl, below_alloc _⟩

set_option maxRecDepth 100000 in
set_option maxHeartbeats 6400000 in
theorem newMeaning_any (sv lv vv : Value) (sig : List Sy) (l : List Ip) (vs : List Int) (w : World) (hs : Sg w sv sig) (hl : Ins w lv l) (hv : Is w vv vs) (hin : inE sig l = 0) (hnd : vs.Nodup) (hr : ∀ v ∈ vs, 0 ≤ v ∧ v ≤ 1048576) (hsm : vs.length ≤ 512) (hsl : sig.length ≤ 1000) :
    Calls Tryz.prog 46 #[sv, lv, vv] w fun e w' => ∃ gS b, e = .returned (.tuple #[.agg #[sv, .slice (some ⟨gS, 0, none⟩) sig.length sig.length, .map (some b)], .int .i64 0]) ∧ MgM w' w.heap.size gS b sig l vs ∧ Below w.heap.size w w' := by
  obtain ⟨so, sc, rfl, hso, hsc, _⟩ := Row.flat hs
  obtain ⟨lo, lc, rfl, hlo, hlc, _⟩ := Row.flat hl
  obtain ⟨vo, vc, rfl, hvo, hvc, _⟩ := Row.flat hv
  unfold maxLen at hsc hlc hvc
  have HL := hid hl
  have HV := hid hv
  have HIn := hid (inE_ok hin).2
  have HNd := hid hnd
  have HR := hid hr
  have HNp := hid (in_nodup hin)
  have hd : decide ((512 : Int) < (vs.length : Int)) = false := decide_eq_false (by omega)
  have hd2 : decide (512 < vs.length) = false := decide_eq_false (by omega)
  clear hs hl hv hin hnd hr
  obtain ⟨W0, hW0⟩ : ∃ X, X = w.alloc (.cells #[.slice none 0 0, .slice none 0 0, .map none] 85) := ⟨_, rfl⟩
  have B0 : Hid (Below w.heap.size w W0) := by rw [hW0]; exact below_alloc _
  have R0 : Hid (W0.heap[w.heap.size]? = some (.cells #[.slice none 0 0, .slice none 0 0, .map none] 85 (0, 0))) := by rw [hW0]; exact hid (heap_alloc_new _ _)
  go_enter Tryz.func46, Tryz.ntmps46
  go_upto_region 3 with fail
  rw [← hW0]
  clear hW0
  have hmk := run_make_polys W0 sig.length (by omega)
  obtain ⟨W1, hW1⟩ : ∃ X, X = W0.alloc (.cells (List.replicate sig.length (Value.slice none 0 0)).toArray 31) := ⟨_, rfl⟩
  have B1 : Hid (Below W0.heap.size W0 W1) := by rw [hW1]; exact below_alloc _
  have V1 : Hid (VB W1 W0.heap.size (List.replicate sig.length (Value.slice none 0 0))) := by rw [hW1]; exact hid (heap_alloc_new _ _)
  rw [← hW1] at hmk
  clear hW1
  obtain ⟨W2, hW2⟩ : ∃ X, X = (W1.alloc (.map #[] 0)).alloc (.cells #[.slice so sig.length sc, .slice (some ⟨W0.heap.size, 0, none⟩) sig.length sig.length, .map (some W1.heap.size)] 85) := ⟨_, rfl⟩
  have B2 : Hid (Below W1.heap.size W1 W2) := by rw [hW2]; exact below_step (below_alloc _) (below_alloc _)
  have M2 : Hid (MapV W2 W1.heap.size []) := by rw [hW2]; exact hid ((MapV.made W1).later (below_alloc _))
  have C2 : Hid (MC W2 (W1.heap.size + 1) (.slice so sig.length sc) W0.heap.size sig.length W1.heap.size) := by
    have h := heap_alloc_new (W1.alloc (.map #[] 0)) (.cells #[.slice so sig.length sc, .slice (some ⟨W0.heap.size, 0, none⟩) sig.length sig.length, .map (some W1.heap.size)] 85)
    rw [World.size_alloc] at h
    rw [hW2]
    exact h
  have hmm := @run_makeMap Tryz.prog
  go_upto_region 4 with fail
  rw [← hW2]
  clear hW2 hmk hmm
  have BW : Hid (Below w.heap.size w W2) := hid (below_step (below_step B0.out B1.out) B2.out)
  have V2 := hid (V1.out.later B2.out)
  have R2 : Hid (W2.heap[w.heap.size]? = some (.cells #[.slice none 0 0, .slice none 0 0, .map none] 85 (0, 0))) := by
    have h0 : w.heap.size < W0.heap.size := (Array.getElem?_eq_some_iff.1 R0.out).1
    exact (B2.out.block _ (Nat.lt_of_lt_of_le h0 B1.out.size)).trans ((B1.out.block _ h0).trans R0.out)
  have hgS : w.heap.size ≤ W0.heap.size := B0.out.size
  have hgb : w.heap.size ≤ W1.heap.size := Nat.le_trans hgS B1.out.size
  have hne : w.heap.size ≠ W0.heap.size := Nat.ne_of_lt (Array.getElem?_eq_some_iff.1 R0.out).1
  have hne2 : w.heap.size ≠ W1.heap.size := Nat.ne_of_lt (Nat.lt_of_lt_of_le (Array.getElem?_eq_some_iff.1 R0.out).1 B1.out.size)
  generalize W0.heap.size = gS at V2 C2 hgS hne ⊢
  generalize W1.heap.size = b at M2 C2 hgb hne2 ⊢
  clear V1 R0 B0 B1 B2
  generalize hgm : b + 1 = gm at C2 ⊢
  have HGm := hid hgm
  clear hgm
  go_wp2
  go_loopw [25] (fun x wr => ∃ (k : Nat) (vals : List Value), k ≤ l.length ∧ x = .int .i64 k ∧ VB wr gS vals ∧ vals.length = sig.length ∧ (∀ c, c < sig.length → ∃ u, vals[c]? = some u ∧ Ms w u (spol (l.take k).reverse (c : Int))) ∧ MapV wr b [] ∧ MC wr gm (.slice so sig.length sc) gS sig.length b ∧ wr.heap[w.heap.size]? = some (.cells #[.slice none 0 0, .slice none 0 0, .map none] 85 (0, 0)) ∧ Below w.heap.size w wr) (fun x _ => l.length - (intOf x).toNat)
  case atStart => exact ⟨0, _, Nat.zero_le _, rfl, V2.out, by simp, fun c hc => ⟨_, by rw [List.getElem?_replicate, if_pos hc], Row.nil (Nat.zero_le _)⟩, M2.out, C2.out, R2.out, BW.out⟩
  case round =>
    clear V2 M2 C2 R2 BW
    obtain ⟨k, vals, hk, rfl, hvb, hvl, hvs, hmv, hmc, hrc, hbl⟩ := hrel
    have HVB := hid hvb
    have HVl := hid hvl
    have HVs := hid hvs
    have HMv := hid hmv
    have HMC := hid hmc
    have HRc := hid hrc
    have BL := hid hbl
    clear hvb hvl hvs hmv hmc hrc hbl
    by_cases hlt : k < l.length
    · obtain ⟨g, off, c, p, a1, c1, rfl, hm, hc0w, hc1w, hp, hcl, hcu, hp1, hp2⟩ := HL.out.at hlt
      have hmem : (c, p) ∈ l := List.mem_of_getElem? hm
      obtain ⟨ci, hci⟩ := Int.eq_ofNat_of_zero_le (HIn.out _ hmem).1
      have hlt2 := (HIn.out _ hmem).2.1
      simp only at hci hlt2
      subst hci
      have hcs : ci < sig.length := by omega
      have HM := hid hm
      have HP := hid hp
      have hc0 := (Kp.of_below BL.out).cell _ _ hc0w
      have hc1 := (Kp.of_below BL.out).cell _ _ hc1w
      have hgw : g < wr.heap.size := World.block_lt_of_cell? _ _ hc0
      obtain ⟨W, hW⟩ : ∃ X, X = wr.alloc (.cells #[.int .i64 (ci : Int), .slice a1 p.length c1] 51) := ⟨_, rfl⟩
      have BX : Hid (Below wr.heap.size wr W) := by rw [hW]; exact below_alloc _
      have y0 : W.cell? ⟨wr.heap.size, 0, none⟩ = some (.int .i64 (ci : Int)) := by rw [hW, cell_of_row _ _ _ _ _ _ (heap_alloc_new _ _)]; rfl
      have y1 : W.cell? ⟨wr.heap.size, 1, none⟩ = some (.slice a1 p.length c1) := by rw [hW, cell_of_row _ _ _ _ _ _ (heap_alloc_new _ _)]; rfl
      have BLW := hid (below_step BL.out BX.out)
      have HVW := hid (HVB.out.later BX.out)
      have HMW := hid (HMC.out.later BX.out)
      have HMvW := hid (HMv.out.later BX.out)
      have HRW : Hid (W.heap[w.heap.size]? = some (.cells #[.slice none 0 0, .slice none 0 0, .map none] 85 (0, 0))) := hid ((BX.out.block _ (Array.getElem?_eq_some_iff.1 HRc.out).1).trans HRc.out)
      clear hm hp hc0w hc1w hmem
      go_upto_region 7 with fail
      rw [← hW]
      clear hW hc0 hc1
      generalize wr.heap.size = gb at y0 y1 ⊢
      have y2 := HMW.out.cells.2.1
      obtain ⟨u0, hu0, _⟩ := HVs.out ci hcs
      have hcg := HVW.out.cell hu0
      have hfr := HVW.out.frozen ci
      obtain ⟨W3, hW3⟩ : ∃ X, X = W.setCell ⟨gS, ci, none⟩ (.slice a1 p.length c1) := ⟨_, rfl⟩
      have HV3 : Hid (VB W3 gS (vals.set ci (.slice a1 p.length c1))) := by rw [hW3]; exact hid (HVW.out.set _ _)
      have HMC3 : Hid (MC W3 gm (.slice so sig.length sc) gS sig.length b) := by rw [hW3]; exact hid (HMW.out.setVB HVW.out)
      have HMv3 : Hid (MapV W3 b []) := by
        rw [hW3]
        refine hid (HMvW.out.kept (grown_setCell W gS ci _) (fun e => ?_))
        obtain ⟨es, clock, hb⟩ := HMvW.out.isMap
        cases e
        have h9 := HVW.out
        unfold VB at h9
        rw [h9] at hb
        cases hb
      have HR3 : Hid (W3.heap[w.heap.size]? = some (.cells #[.slice none 0 0, .slice none 0 0, .map none] 85 (0, 0))) := by
        rw [hW3]
        exact hid ((Below.heap_setCell W ⟨gS, ci, none⟩ _ _ hne).trans HRW.out)
      have B3 : Hid (Below w.heap.size w W3) := by rw [hW3]; exact BLW.out.setCell (p := ⟨gS, ci, none⟩) hgS _
      have HVs3 : Hid (∀ c, c < sig.length → ∃ u, (vals.set ci (.slice a1 p.length c1))[c]? = some u ∧ Ms w u (spol (l.take (k + 1)).reverse (c : Int))) := fun c hc => by
        rw [take_get HM.out, List.reverse_append]
        show ∃ u, _ ∧ Ms w u (spol (((ci : Int), p) :: (l.take k).reverse) (c : Int))
        rw [spol]
        by_cases e : (ci : Int) = (c : Int)
        · have e2 : ci = c := by omega
          subst e2
          rw [if_pos rfl]
          refine ⟨_, ?_, HP.out⟩
          rw [List.getElem?_set_self (by rw [HVl.out]; exact hcs)]
        · rw [if_neg e, List.getElem?_set_ne (by omega)]
          exact HVs.out c hc
      have HVl3 : Hid ((vals.set ci (.slice a1 p.length c1)).length = sig.length) := by show _ = _; rw [List.length_set]; exact HVl.out
      clear HVs HVB HMC HMv HRc BL BX BLW HMW HMvW HRW HVl
      go_upto_region 8 with fail
      rw [← hW3]
      clear hW3 hcg hfr y0 y1 y2 hu0 HVW
      go_wp2
      go_roundw
      case rel => exact ⟨k + 1, _, hlt, by go_num, HV3.out, HVl3.out, HVs3.out, HMv3.out, HMC3.out, HR3.out, B3.out⟩
      case measure => simp [intOf]; omega
    · have hke : k = l.length := by omega
      have HVs2 : Hid (∀ c, c < sig.length → ∃ u, vals[c]? = some u ∧ Ms w u (spol l (c : Int))) := fun c hc => by
        obtain ⟨u, u1, u2⟩ := HVs.out c hc
        rw [hke, List.take_length, spol_rev HNp.out] at u2
        exact ⟨u, u1, u2⟩
      have HVM : Hid (VM wr w.heap.size b vs 0) := ⟨[], HMv.out, rfl, fun c u h => (by cases h), fun i v h => absurd h (by omega)⟩
      clear HVs HMv hke
      go_wp2
      obtain ⟨wk, hwk⟩ : ∃ X, X = wr := ⟨_, rfl⟩
      rw [← hwk] at HVB HMC HRc BL HVM ⊢
      clear hwk
      go_loopw [39] (fun x wr => ∃ j : Nat, j ≤ vs.length ∧ x = .int .i64 j ∧ VB wr gS vals ∧ VM wr w.heap.size b vs j ∧ MC wr gm (.slice so sig.length sc) gS sig.length b ∧ wr.heap[w.heap.size]? = some (.cells #[.slice none 0 0, .slice none 0 0, .map none] 85 (0, 0)) ∧ Below w.heap.size w wr) (fun x _ => vs.length - (intOf x).toNat)
      case atStart => exact ⟨0, Nat.zero_le _, rfl, HVB.out, HVM.out, HMC.out, HRc.out, BL.out⟩
      case round =>
        clear HVB HVM HMC HRc BL
        obtain ⟨j, hj, rfl, hvb, hvm, hmc, hrc, hbl⟩ := hrel
        have HVB := hid hvb
        have HVM := hid hvm
        have HMC := hid hmc
        have HRc := hid hrc
        have BL := hid hbl
        clear hvb hvm hmc hrc hbl
        by_cases hjl : j < vs.length
        · obtain ⟨g, off, v, rfl, hv1, hv2, hv3, hv4⟩ := HV.out.at hjl
          have hvr := HR.out v (List.mem_of_getElem? hv1)
          have HVj := hid hv1
          have hcv := (Kp.of_below BL.out).cell _ _ hv2
          have hgw : g < wr.heap.size := World.block_lt_of_cell? _ _ hcv
          have y2 := HMC.out.cells.2.2
          have HWv : Hid (IntKind.i64.wrap (-1 - v) = -1 - v) := hid (IntWalk.i64_in _ ⟨by omega, by omega⟩)
          clear hv1 hv2 hv3 hv4
          go_upto_region 12 with fail
          clear hcv
          have hS : Kp wr wr.drew := Kp.of_below (drawn_belowI wr)
          refine wp_region_held_drew (S := fun w' => Kp wr w') (by kernel_rfl) hS (fun _ => ?_)
          obtain ⟨W0, hW0⟩ : ∃ X, X = wr.drew := ⟨_, rfl⟩
          have bW0 : Below wr.heap.size wr W0 := by rw [hW0]; exact drawn_belowI wr
          rw [← hW0] at hS ⊢
          clear hW0
          refine wpAnyH_take (i := 0) (v := .pointer (some ⟨gm, 2, none⟩)) rfl (by kernel_rfl) (by kernel_rfl) (by kernel_rfl) (fun _ _ _ h => h) (Or.inl ⟨by rfl, fun w' h => by go_simp⟩) hS ?_
          simp only [Act.put, List.setIfInBounds_toArray]
          refine wpAnyH_take (i := 1) (v := .map (some b)) rfl (by kernel_rfl) (by kernel_rfl) (by kernel_rfl) (fun _ _ _ h => h) (Or.inl ⟨by rfl, fun w' h => by have hh := h.cell _ _ y2; go_simp⟩) hS ?_
          simp only [Act.put]
          refine wpAnyH_take (i := 2) (v := .int .i64 v) rfl (by kernel_rfl) (by kernel_rfl) (by kernel_rfl) (fun _ _ _ h => h) (Or.inl ⟨by rfl, fun w' h => by go_simp⟩) hS ?_
          simp only [Act.put]
          refine wpAnyH_take (i := 3) (v := .int .i64 (-1 - v)) rfl (by kernel_rfl) (by kernel_rfl) (by kernel_rfl) (fun _ _ _ h => h) (Or.inl ⟨by rfl, fun w' h => by have hh := HWv.out; go_simp⟩) hS ?_
          simp only [Act.put]
          refine wpAnyH_take (i := 4) (v := .int .i64 (j : Int)) rfl (by kernel_rfl) (by kernel_rfl) (by kernel_rfl) (fun _ _ _ h => h) (Or.inl ⟨by rfl, fun w' h => by go_simp⟩) hS ?_
          simp only [Act.put]
          refine wpAnyH_ready (rs := [5]) (by kernel_rfl) (by simp) (AllReadyH.cons rfl (fun K hK => ?_) (AllReadyH.nil))
          go_simp
          refine (variable_any j W0 (by omega)).mono ?_
          rintro e w4 ⟨uv, rfl, ho4, hb4⟩
          have b4 := below_step bW0 hb4
          obtain ⟨ao, cap, rfl⟩ := ho4.slice
          have hb0 : w.heap.size ≤ W0.heap.size := Nat.le_trans BL.out.size bW0.size
          obtain ⟨w5, hru, hvm5, hg5⟩ := (HVM.out.later b4).store HNd.out HVj.out hvr.1 hvr.2 (by omega) (ho4.mono hb0)
          obtain ⟨L9, m9, _⟩ := HVM.out.later b4
          obtain ⟨es9, ck9, hes9⟩ := m9.isMap
          have HVM5 := hid hvm5
          have HVB5 := hid ((HVB.out.later b4).held hg5 (fun e => by
            cases e
            have h9 := HVB.out.later b4
            unfold VB at h9
            rw [h9] at hes9
            cases hes9))
          have HMC5 := hid ((HMC.out.later b4).held hg5 (fun e => by
            cases e
            have h9 := HMC.out.later b4
            unfold MC at h9
            rw [h9] at hes9
            cases hes9))
          have HR5 : Hid (w5.heap[w.heap.size]? = some (.cells #[.slice none 0 0, .slice none 0 0, .map none] 85 (0, 0))) := by
            have h1 := (b4.block _ (Array.getElem?_eq_some_iff.1 HRc.out).1).trans HRc.out
            exact hid ((hg5.block _ (Array.getElem?_eq_some_iff.1 h1).1 (by simpa using hne2)).trans h1)
          have B5 := hid ((below_step BL.out b4).grown hg5 (below_step BL.out b4).size (fun i hi => by cases hi; exact hgb))
          have hS4 : Kp wr w4 := Kp.of_below b4
          have hS5 : Kp wr w5 := hS4.trans (Kp.of_map hg5 hes9)
          refine hK.out _ _ hS4 (fun _ => ?_)
          clear hK K hS
          try simp only [Act.put, List.setIfInBounds_toArray, List.set_cons_zero, List.set_cons_succ]
          refine wpAnyH_ready (rs := [6]) (by kernel_rfl) (by simp) (AllReadyH.cons rfl (fun K hK => ?_) AllReadyH.nil)
          go_simp
          refine hK.out _ _ hS5 (fun _ => ?_)
          clear hK K hru
          refine wpAnyH_done (by kernel_rfl) ?_ _
          clear hS4 hS5 HVM HVB HMC HRc BL bW0 hb4 b4 ho4 hvm5 hg5 m9 hes9 y2
          go_wp2
          go_roundw
          case rel => exact ⟨j + 1, hjl, by go_num, HVB5.out, HVM5.out, HMC5.out, HR5.out, B5.out⟩
          case measure => simp [intOf]; omega
        · have hje : j = vs.length := by omega
          have y0 := HMC.out.cells.1
          have y1 := HMC.out.cells.2.1
          have y2 := HMC.out.cells.2.2
          have z0 : wr.cell? ⟨w.heap.size, 0, none⟩ = some (.slice none 0 0) := by rw [cell_of_row _ _ _ _ _ _ HRc.out]; rfl
          have z1 : wr.cell? ⟨w.heap.size, 1, none⟩ = some (.slice none 0 0) := by rw [cell_of_row _ _ _ _ _ _ HRc.out]; rfl
          have z2 : wr.cell? ⟨w.heap.size, 2, none⟩ = some (.map none) := by rw [cell_of_row _ _ _ _ _ _ HRc.out]; rfl
          have f0 : wr.frozen? ⟨w.heap.size, 0, none⟩ = false := frozen_of_row wr _ _ _ _ HRc.out
          have f1 : wr.frozen? ⟨w.heap.size, 1, none⟩ = false := frozen_of_row wr _ _ _ _ HRc.out
          have f2 : wr.frozen? ⟨w.heap.size, 2, none⟩ = false := frozen_of_row wr _ _ _ _ HRc.out
          go_wp2
          refine bodyPost_ret (results_cell (t := 6) (u := 7) (ty := 85) (ad := ⟨w.heap.size, 0, none⟩) (v := .agg #[.slice so sig.length sc, .slice (some ⟨gS, 0, none⟩) sig.length sig.length, .map (some b)]) rfl rfl (by go_simp)) rfl ?_
          have hg := grown_set3 wr w.heap.size (.slice so sig.length sc) (.slice (some ⟨gS, 0, none⟩) sig.length sig.length) (.map (some b))
          have hBf : Below w.heap.size w (((wr.setCell ⟨w.heap.size, 0, none⟩ (.slice so sig.length sc)).setCell ⟨w.heap.size, 1, none⟩ (.slice (some ⟨gS, 0, none⟩) sig.length sig.length)).setCell ⟨w.heap.size, 2, none⟩ (.map (some b))) := BL.out.grown hg BL.out.size (fun i hi => by cases hi; exact Nat.le_refl _)
          subst hje
          exact ⟨gS, b, rfl, ⟨⟨vals, HVB.out.held hg (by simpa using Ne.symm hne), HVl.out, fun c hc => (by
            obtain ⟨u, u1, u2⟩ := HVs2.out c hc
            exact ⟨u, u1, u2.kp (Kp.of_below hBf)⟩)⟩, HVM.out.heldAt hg HRc.out⟩, hBf⟩

end Go.Proofs.YtlaenbdlgpepkaaGreatDoor
