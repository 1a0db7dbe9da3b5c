/- Texts of the proof, one behind the other. -/
import Derived.Test.YtdjmjhlbjcgoiaaGreatDoorOwn4
import Derived.Test.YtdjmjhlbjcgoiaaGreatDoorOwn6
import Derived.Test.YtdjmjhlbjcgoiaaGreatDoorOwn14
import Derived.Test.YtdjmjhlbjcgoiaaGreatDoorOwn5
import Derived.Deep.Slices
set_option maxRecDepth 1000000
set_option maxHeartbeats 6400000
namespace Go.Proofs.YtdjmjhlbjcgoiaaGreatDoor
def vpol (k : Nat) : List Mn := [([1], List.replicate k 0 ++ [1])]
def spol : List Ip → Int → List Mn
 | [], _ => []
 | x :: r, d => if x.1 = d then x.2 else spol r d
def ofS (sig : List Sy) (sp vp : Int → List Mn) : List Int → Option (List (List Mn))
 | [] => some []
 | c :: u =>
  match ofS sig sp vp u with
  | none => none
  | some st => if c < 0 then some (vp c :: st) else if compE (sp c) (st.take (arN sig c)) = 0 then some (compL (sp c) (st.take (arN sig c)) :: st.drop (arN sig c)) else none
theorem ofS_var {sig : List Sy} {sp vp : Int → List Mn} {c : Int} {u : List Int} {st : List (List Mn)} (h : ofS sig sp vp u = some st) (hc : c < 0) : ofS sig sp vp (c :: u) = some (vp c :: st) := by
 rw [ofS, h]
 simp only [if_pos hc]
theorem ofS_yes {sig : List Sy} {sp vp : Int → List Mn} {c : Int} {u : List Int} {st : List (List Mn)} (h : ofS sig sp vp u = some st) (hc : ¬ c < 0) (h0 : compE (sp c) (st.take (arN sig c)) = 0) :
  ofS sig sp vp (c :: u) = some (compL (sp c) (st.take (arN sig c)) :: st.drop (arN sig c)) := by
 rw [ofS, h]
 simp only [if_neg hc, if_pos h0]
theorem ofS_no {sig : List Sy} {sp vp : Int → List Mn} {c : Int} {u : List Int} {st : List (List Mn)} (h : ofS sig sp vp u = some st) (hc : ¬ c < 0) (h0 : ¬ compE (sp c) (st.take (arN sig c)) = 0) : ofS sig sp vp (c :: u) = none := by
 rw [ofS, h]
 simp only [if_neg hc, if_neg h0]
theorem ofS_none {sig : List Sy} {sp vp : Int → List Mn} {u : List Int} (h : ofS sig sp vp u = none) (c : Int) : ofS sig sp vp (c :: u) = none := by
 rw [ofS, h]
theorem ofS_noneL {sig : List Sy} {sp vp : Int → List Mn} {u : List Int} (h : ofS sig sp vp u = none) : ∀ p : List Int, ofS sig sp vp (p ++ u) = none
 | [] => h
 | c :: p => ofS_none (ofS_noneL h p) c
theorem ofS_len {sig : List Sy} {sp vp : Int → List Mn} : ∀ {u : List Int} {st : List (List Mn)}, ofS sig sp vp u = some st → st.length = (growR sig u).length
 | [], st, h => by cases h; rfl
 | c :: u, st, h => by
  cases hu : ofS sig sp vp u with
  | none => rw [ofS_none hu] at h; cases h
  | some s =>
   have ih := ofS_len hu
   by_cases hc : c < 0
   ·rw [ofS_var hu hc] at h
    cases h
    show _ = (growStep sig (growR sig u) c).length
    unfold growStep
    rw [if_pos hc, zF, zG, ih]
    rfl
   by_cases h0 : compE (sp c) (s.take (arN sig c)) = 0
   ·rw [ofS_yes hu hc h0] at h
    cases h
    show _ = (growStep sig (growR sig u) c).length
    unfold growStep
    rw [if_neg hc, zF, zG, zI, zH, ih]
    simp only [zG, List.length_nil]
    omega
   rw [ofS_no hu hc h0] at h; cases h
theorem ofS_one {sig : List Sy} (ha : ArOk sig) {sp vp : Int → List Mn} {t : List Int} (h : rowE sig t = 0) : ofS sig sp vp t = none ∨ ∃ p, ofS sig sp vp t = some [p] := by
 cases ht : ofS sig sp vp t with
 | none => exact .inl rfl
 | some st =>
  obtain ⟨T, hT, _⟩ := xFJ ha h
  have hl := ofS_len ht
  rw [hT] at hl
  match st, hl with
  | [p], _ => exact .inr ⟨p, rfl⟩
theorem compGo_two {args : List (List Mn)} (ha : ∀ f ∈ args, Ch f) : ∀ {p : List Mn} {L : LkY} {F : List Nat → Nat}, Pol p → StY L F → OkF F → KeysLe L →
  ((compGo args L p).2 = 0 ∧ ∃ G, StY (compGo args L p).1 G ∧ OkF G ∧ KeysLe (compGo args L p).1) ∨ (compGo args L p).2 = 2
 | [], L, F, _, hs, ho, hk => by
  unfold compGo
  exact .inl ⟨rfl, F, hs, ho, hk⟩
 | m :: p, L, F, hp, hs, ho, hk => by
  have hpt : Pol p := hp.tail
  have hmb := hp.mon m (by simp)
  have hmg := hp.good (m := m) (by simp)
  have hxs : ∀ x ∈ m.2, 0 ≤ x ∧ x ≤ 64 := hmg.2.2.2
  unfold compGo
  cases hn : noughtB m.2 args
  ·have ev : worthV prodL prodE m.2 args [(m.1, [])] = worthGo prodL prodE m.2 args [(m.1, [])] := by unfold worthV; rw [hn]; rfl
   rw [ev]
   obtain ⟨e1, e2, e3⟩ := fac_worth ha hxs hn (ch_const hmb (hp.lim m (by simp))) (by simp)
   rw [← e1]
   by_cases h0 : (facR m.2 args [(m.1, [])]).2 = 0
   ·obtain ⟨x1, x2⟩ := e2 h0
    rw [if_pos h0, ← x1]
    obtain ⟨X, hX⟩ : ∃ X, X = (facR m.2 args [(m.1, [])]).1 := ⟨_, rfl⟩
    rw [← hX] at x2 ⊢
    have hk2 := keysLe_puts x2.1.dom hk
    rcases puts_spec (fun m hm => x2.1.good hm) x2.1.dom hs ho with ⟨b1, b2, b3⟩ | ⟨b1, b2⟩
    ·rw [if_pos b1]
     exact compGo_two ha hpt b3 b2 hk2
    rw [if_neg (by rw [b1]; decide)]
    exact .inr b1
   rw [if_neg h0]
   rcases e3 with h | h
   ·exact absurd h h0
   exact .inr h
  have ev : worthV prodL prodE m.2 args [(m.1, [])] = ([], 0) := by unfold worthV; rw [hn]; rfl
  rw [ev]
  have ep : puts L [] = (L, 0) := rfl
  simp only [ep, if_true]
  exact compGo_two ha hpt hs ho hk
theorem comp_two {p : List Mn} {args : List (List Mn)} (hp : Ch p) (ha : ∀ f ∈ args, Ch f) (hv : varsN p ≤ args.length) : (compE p args = 0 ∧ Ch (compL p args)) ∨ compE p args = 2 := by
 have h1 : compE p args = (compGo args [] p).2 := by
  unfold compE
  rw [if_pos (xCY.2 hp.2), if_pos (checkAll_zero fun x hx => (ha x hx).2), if_pos hv]
 rcases compGo_two ha hp.1 StY.nil okF_zero keysLe_nil with ⟨h2, G, g1, g2, g3⟩ | h2
 ·have h0 := h1.trans h2
  have hr := g1.row g2 fun q hq => (g3 q hq).1
  refine .inl ⟨h0, ?_⟩
  unfold compL
  rw [if_pos h0]
  exact ⟨hr.1, hr.2.1⟩
 exact .inr (h1.trans h2)
theorem inGo_all {sig : List Sy} : ∀ {l : List Ip} {f : Nat → Bool}, inGo sig f l = 0 → (l.map (·.1)).Nodup ∧ (∀ x ∈ l, f x.1.toNat = false) ∧ ∀ i, i < sig.length → f i = true ∨ (i : Int) ∈ l.map (·.1)
 | [], f, h => by
  rw [inGo] at h
  refine ⟨List.nodup_nil, fun x hx => (by cases hx), fun i hi => .inl ?_⟩
  cases hf : f i with
  | true => rfl
  | false => rw [lackB_yes hi hf] at h; cases h
 | (c, p) :: r, f, h => by
  have hok := inGo_ok h
  rw [inGo] at h
  split at h
  ·cases h
  rename_i h1
  split at h
  ·cases h
  split at h
  ·cases h
  obtain ⟨a1, a2, a3⟩ := inGo_all h
  have hc := (hok (c, p) (by simp)).1
  simp only at hc
  have hnot : ∀ x ∈ r, ¬ x.1 = c := fun x hx e => by
   have := a2 x hx
   unfold gvn at this
   rw [e] at this
   simp at this
  refine ⟨?_, ?_, fun i hi => ?_⟩
  ·rw [yW, List.nodup_cons]
   refine ⟨fun hm => ?_, a1⟩
   obtain ⟨x, hx, e⟩ := yL.1 hm
   exact hnot x hx e
  ·intro x hx
   rcases yB.1 hx with rfl | hx
   ·cases hf : f c.toNat with
    | true => exact absurd (Or.inr (Or.inr hf)) h1
    | false => rfl
   have := a2 x hx
   unfold gvn at this
   split at this
   ·cases this
   exact this
  rcases a3 i hi with h3 | h3
  ·unfold gvn at h3
   split at h3
   ·rename_i e
    refine .inr ?_
    rw [e, yW, Int.toNat_of_nonneg hc]
    simp
   exact .inl h3
  exact .inr (zT _ h3)
theorem spol_mem : ∀ {l : List Ip} {c : Int}, c ∈ l.map (·.1) → (c, spol l c) ∈ l
 | [], c, h => by cases h
 | x :: r, c, h => by
  rw [spol]
  by_cases e : x.1 = c
  ·rw [if_pos e, ← e]
   simp
  rw [if_neg e]
  rcases yB.1 h with h | h
  ·exact absurd h.symm e
  exact zT _ (spol_mem h)
theorem spol_of : ∀ {l : List Ip} {c : Int} {p : List Mn}, (l.map (·.1)).Nodup → (c, p) ∈ l → spol l c = p
 | [], c, p, _, h => by cases h
 | x :: r, c, p, hn, h => by
  rw [yW, List.nodup_cons] at hn
  rw [spol]
  rcases yB.1 h with h | h
  ·rw [← h, if_pos rfl]
  rw [if_neg (fun e => hn.1 (by rw [e]; exact yL.2 ⟨_, h, rfl⟩))]
  exact spol_of hn.2 h
theorem spol_rev {l : List Ip} (hn : (l.map (·.1)).Nodup) (c : Int) : spol l.reverse c = spol l c := by
 by_cases h : c ∈ l.map (·.1)
 ·have h1 := spol_mem h
  have h2 : (l.reverse.map (·.1)).Nodup := by
   rw [List.map_reverse]
   exact (List.reverse_perm (l.map (·.1))).symm.nodup hn
  exact spol_of h2 (yZ.2 h1)
 have hno : ∀ m : List Ip, (∀ x ∈ m, ¬ x.1 = c) → spol m c = [] := by
  intro m
  induction m with
  | nil => intro _; rfl
  | cons x r ih =>
   intro hx
   rw [spol, if_neg (hx x (by simp))]
   exact ih fun y hy => hx y (zT _ hy)
 rw [hno l fun x hx e => h (yL.2 ⟨x, hx, e⟩), hno l.reverse fun x hx e => h (yL.2 ⟨x, yZ.1 hx, e⟩)]
end Go.Proofs.YtdjmjhlbjcgoiaaGreatDoor
namespace Go.Proofs.YtdjmjhlbjcgoiaaGreatDoor
open Go.RowKit Go.Maps
theorem metA_neg : ∀ (a m : List Int), (∀ c ∈ m, c < 0) → ∀ c ∈ metA m a, c < 0
 | [], m, h, c, hc => h c hc
 | d :: a, m, h, c, hc => by
  unfold metA at hc
  split at hc
  ·exact metA_neg a m h c hc
  rename_i hn
  refine metA_neg a (m ++ [d]) (fun e he => ?_) c hc
  rcases yE.1 he with he | he
  ·exact h e he
  simp at he
  subst he
  omega
theorem metA_mem : ∀ (a m : List Int) (c : Int), c ∈ metA m a ↔ c ∈ m ∨ (c ∈ a ∧ c < 0)
 | [], m, c => by simp [metA]
 | d :: a, m, c => by
  unfold metA
  split
  ·rename_i hd
   rw [metA_mem a m c]
   constructor
   ·rintro (h | ⟨h, h0⟩)
    ·exact .inl h
    exact .inr ⟨by simp [h], h0⟩
   rintro (h | ⟨h, h0⟩)
   ·exact .inl h
   rcases yB.1 h with rfl | h
   ·rcases hd with hd | hd
    ·omega
    exact .inl hd
   exact .inr ⟨h, h0⟩
  rename_i hd
  rw [metA_mem a (m ++ [d]) c]
  constructor
  ·rintro (h | ⟨h, h0⟩)
   ·rcases yE.1 h with h | h
    ·exact .inl h
    simp at h
    subst h
    exact .inr ⟨by simp, by omega⟩
   exact .inr ⟨by simp [h], h0⟩
  rintro (h | ⟨h, h0⟩)
  ·exact .inl (by simp [h])
  rcases yB.1 h with rfl | h
  ·exact .inl (by simp)
  exact .inr ⟨h, h0⟩
theorem met_once : ∀ (t m : List Int), m.Nodup → (metA m t).Nodup
 | [], m, h => h
 | c :: t, m, h => by
  unfold metA
  split
  ·exact met_once t m h
  rename_i hn
  refine met_once t (m ++ [c]) ?_
  rw [List.nodup_append]
  refine ⟨h, by simp, ?_⟩
  intro a ha b hb e
  simp at hb
  subst hb
  subst e
  exact hn (.inr ha)
theorem idx_of {V : List Int} (h : V.Nodup) {k : Nat} {v : Int} (hk : V[k]? = some v) : V.idxOf v = k := by
 obtain ⟨h1, rfl⟩ := zB.1 hk
 exact h.idxOf_getElem k h1
theorem idx_get {V : List Int} {v : Int} (h : v ∈ V) : V[V.idxOf v]? = some v := by
 rw [zC (List.idxOf_lt_length_of_mem h), List.getElem_idxOf]
theorem arI_arN {sig : List Sy} (ha : ArOk sig) (c : Int) : arI sig c = (arN sig c : Int) := by
 unfold arI arN
 cases h : sig[c.toNat]? with
 | none => rfl
 | some s =>
  have := ha s (zD h)
  simp only
  omega
theorem in_spol {sig : List Sy} {l : List Ip} (h : inE sig l = 0) (hL : ∀ x ∈ l, ∀ m ∈ x.2, Lim m.1) {c : Int} (h0 : 0 ≤ c) (h1 : c.toNat < sig.length) : (c, spol l c) ∈ l ∧ Ch (spol l c) ∧ varsN (spol l c) ≤ arN sig c := by
 obtain ⟨hs, hx⟩ := inE_ok h
 have ha := sigE_ok hs
 have hg : inGo sig (fun _ => false) l = 0 := by
  unfold inE at h
  rw [if_pos hs] at h
  exact h
 obtain ⟨_, _, h3⟩ := inGo_all hg
 have hm : c ∈ l.map (·.1) := by
  rcases h3 c.toNat h1 with h | h
  ·cases h
  rw [Int.toNat_of_nonneg h0] at h
  exact h
 have hmem := spol_mem hm
 obtain ⟨_, _, n20, n2⟩ := hx _ hmem
 simp only at n20 n2
 have hz : checkE (spol l c) (arI sig c) = 0 := by
  rcases checkE_three (spol l c) (arI sig c) (arI_ok ha c) with h | h | h
  ·exact h
  ·exact absurd h n2
  exact absurd h n20
 have hbig := check_vars (b := 9223372036854775807) (arI_ok ha c) (by omega) hz
 refine ⟨hmem, ⟨Pol.of (hL _ hmem) (by omega) hbig, hbig⟩, ?_⟩
 rw [arI_arN ha] at hz
 exact (check_len hbig).1 hz
theorem in_nodup {sig : List Sy} {l : List Ip} (h : inE sig l = 0) : (l.map (·.1)).Nodup := by
 obtain ⟨hs, _⟩ := inE_ok h
 unfold inE at h
 rw [if_pos hs] at h
 exact (inGo_all h).1
theorem vpol_mon (k : Nat) : monB ([1], List.replicate k (0 : Int) ++ [1]) = true := by
 unfold monB
 have h1 : (List.replicate k (0 : Int) ++ [1]).all (fun n => decide (0 ≤ n)) = true := by
  rw [List.all_eq_true]
  intro x hx
  rcases yE.1 hx with h | h
  ·rw [List.eq_of_mem_replicate h]; rfl
  rw [yR.1 h]; rfl
 have h2 : (List.replicate k (0 : Int) ++ [1])[(List.replicate k (0 : Int) ++ [1]).length - 1]? = some 1 := by
  rw [zF, yM]
  simp
 rw [h1]
 simp only [h2]
 have h3 : rightB [1] = true := by decide
 rw [h3]
 simp
theorem vpol_check {k n : Nat} (hk : k < n) : checkE (vpol k) (n : Int) = if k < 512 then 0 else 2 := by
 have hp : polyB (vpol k) (n : Int) = true := by
  rw [xBD]
  intro j hj
  have : j = 0 := by simpa [vpol] using hj
  subst this
  unfold okAt
  simp only [vpol, yQ, vpol_mon, Bool.true_and, beq_self_eq_true, Bool.true_or, Bool.and_true, yY, zF, yM, zG, List.length_nil]
  omega
 unfold checkE
 rw [if_neg (by omega), if_neg (by rw [hp]; decide)]
 by_cases h : k < 512
 ·have hb : boundsB (vpol k) = true := by
   unfold boundsB smallB vpol
   simp only [zG, List.length_nil, List.all_cons, List.all_nil, Bool.and_true, zF, yM, Bool.and_eq_true, yY, List.all_eq_true]
   refine ⟨by omega, by omega, fun x hx => ?_⟩
   rcases yE.1 hx with h | h
   ·rw [List.eq_of_mem_replicate h]; omega
   rw [yR.1 h]; omega
  rw [if_neg (by rw [hb]; decide), if_pos h]
 have hb : boundsB (vpol k) = false := by
  unfold boundsB smallB vpol
  simp only [zG, List.length_nil, List.all_cons, List.all_nil, Bool.and_true, zF, yM]
  rw [decide_eq_false (p := k + (0 + 1) ≤ 512) (by omega)]
  simp
 rw [if_pos hb, if_neg h]
theorem vpol_ch {k : Nat} (hk : k < 512) : Ch (vpol k) := by
 have h := vpol_check (n := 512) hk
 rw [if_pos hk] at h
 have hb := check_vars (b := 9223372036854775807) (by omega) (by omega) h
 refine ⟨Pol.of (fun m hm => ?_) (by omega) hb, hb⟩
 have : m = ([1], List.replicate k 0 ++ [1]) := by simpa [vpol] using hm
 subst this
 intro x hx
 have : x = 1 := by simpa using hx
 omega
theorem ofS_ch {sig : List Sy} (ha : ArOk sig) {sp vp : Int → List Mn} (hsp : ∀ c : Int, 0 ≤ c → c.toNat < sig.length → Ch (sp c) ∧ varsN (sp c) ≤ arN sig c) : ∀ (u p : List Int), firstT sig 1 0 (p ++ u) = (((p ++ u).length : Int), 0) → (∀ c ∈ u, c < 0 → Ch (vp c)) →
  ∀ st, ofS sig sp vp u = some st → ∀ q ∈ st, Ch q
 | [], p, _, _, st, h => by
  cases h
  exact fun q hq => by cases hq
 | c :: u, p, hf, hv, st, h => by
  have ih := ofS_ch ha hsp u (p ++ [c]) (by simpa using hf) (fun d hd => hv d (zT _ hd))
  cases hu : ofS sig sp vp u with
  | none => rw [ofS_none hu] at h; cases h
  | some s =>
   have is := ih s hu
   by_cases hc : c < 0
   ·rw [ofS_var hu hc] at h
    cases h
    intro q hq
    rcases yB.1 hq with rfl | hq
    ·exact hv c (by simp) hc
    exact is q hq
   obtain ⟨k1, k2⟩ := xDZ ha p c u 1 0 (by omega) (by rw [hf]; simp) hc
   rw [← ofS_len hu] at k2
   obtain ⟨c1, c2⟩ := hsp c (by omega) k1
   by_cases h0 : compE (sp c) (s.take (arN sig c)) = 0
   ·rw [ofS_yes hu hc h0] at h
    cases h
    intro q hq
    rcases yB.1 hq with rfl | hq
    ·rcases comp_two c1 (fun f hf => is f (List.mem_of_mem_take hf)) (by rw [zH, Nat.min_eq_left k2]; exact c2) with h | h
     ·exact h.2
     rw [h] at h0; cases h0
    exact is q (List.mem_of_mem_drop hq)
   rw [ofS_no hu hc h0] at h; cases h
theorem ofS_big {sig : List Sy} (ha : ArOk sig) {sp vp : Int → List Mn} (hsp : ∀ c : Int, 0 ≤ c → c.toNat < sig.length → Ch (sp c) ∧ varsN (sp c) ≤ arN sig c) {c : Int} {u p : List Int} (hf : firstT sig 1 0 (p ++ c :: u) = (((p ++ c :: u).length : Int), 0)) (hv : ∀ c ∈ u, c < 0 → Ch (vp c))
  {st : List (List Mn)} (hu : ofS sig sp vp u = some st) (hc : ¬ c < 0) : c.toNat < sig.length ∧ arN sig c ≤ st.length ∧ (compE (sp c) (st.take (arN sig c)) = 0 ∨ compE (sp c) (st.take (arN sig c)) = 2) := by
 obtain ⟨k1, k2⟩ := xDZ ha p c u 1 0 (by omega) (by rw [hf]; simp) hc
 rw [← ofS_len hu] at k2
 obtain ⟨c1, c2⟩ := hsp c (by omega) k1
 have is := ofS_ch ha hsp u (p ++ [c]) (by simpa using hf) hv st hu
 refine ⟨k1, k2, ?_⟩
 rcases comp_two c1 (fun f hf => is f (List.mem_of_mem_take hf)) (by rw [zH, Nat.min_eq_left k2]; exact c2) with h | h
 ·exact .inl h.1
 exact .inr h
def vAt (vs : List Int) (c : Int) : List Mn := vpol (vs.idxOf (-1 - c))
def ofV (sig : List Sy) (l : List Ip) (vs t : List Int) : Option (List Mn) :=
 if 512 < vs.length then none else match ofS sig (spol l) (vAt vs) t with | some [p] => some p | _ => none
def ovE (o : Option (List Mn)) : Int := match o with | some _ => 0 | none => 2
def ovL (o : Option (List Mn)) : List Mn := o.getD []
theorem ofV_some {sig : List Sy} {l : List Ip} {vs t : List Int} {p : List Mn} (h : vs.length ≤ 512) (ht : ofS sig (spol l) (vAt vs) t = some [p]) : ofV sig l vs t = some p := by
 unfold ofV
 rw [if_neg (by omega), ht]
theorem ofV_none {sig : List Sy} {l : List Ip} {vs t : List Int} (ht : ofS sig (spol l) (vAt vs) t = none) : ofV sig l vs t = none := by
 unfold ofV
 rw [ht]
 split <;> rfl
def ofPE (sig : List Sy) (l : List Ip) (t : List Int) : Int := if inE sig l = 0 then if termE sig t = 0 then ovE (ofV sig l (varsL t) t) else termE sig t else inE sig l
def ofPL (sig : List Sy) (l : List Ip) (t : List Int) : List Mn := if inE sig l = 0 ∧ termE sig t = 0 then ovL (ofV sig l (varsL t) t) else []
def ovE2 (a b : Option (List Mn)) : Int := if ovE a = 0 then ovE b else ovE a
def fallE (sig : List Sy) (l : List Ip) (a b : List Int) : Int := if inE sig l = 0 then if termE sig a = 0 then if termE sig b = 0 then ovE2 (ofV sig l (varsL (a ++ b)) a) (ofV sig l (varsL (a ++ b)) b) else termE sig b else termE sig a else inE sig l
def fallP (p q : List Mn) : Int := if greaterB p q = true then 2 else if atLeastB p q = true then 1 else 0
def fallN (sig : List Sy) (l : List Ip) (a b : List Int) : Int := if fallE sig l a b = 0 then fallP (ovL (ofV sig l (varsL (a ++ b)) a)) (ovL (ofV sig l (varsL (a ++ b)) b)) else 0
theorem info_bind : (Tryz.prog.info? 229).map (fun i => (i.zero, i.size, i.bytes)) = some (some (.agg #[.int .i64 0, .slice none 0 0]), 2, 32) := by kernel_rfl
theorem under_binds : Tryz.prog.underlying 124 = some (.slice 229) := by kernel_rfl
def flatB (s : List Bd) (us : List Value) : List Value := (s.zip us).flatMap fun p => [.int .i64 p.1.1, p.2]
theorem flatB_get : ∀ {s : List Bd} {us : List Value} {i : Nat} {b : Bd} {u : Value}, s[i]? = some b → us[i]? = some u → (flatB s us)[i * 2]? = some (.int .i64 b.1) ∧ (flatB s us)[i * 2 + 1]? = some u
 | [], _, i, _, _, h, _ => by simp at h
 | _ :: _, [], i, _, _, _, h => by simp at h
 | a :: s, v :: us, 0, b, u, h, k => by
  simp at h k
  subst h
  subst k
  exact ⟨by simp [flatB], by simp [flatB]⟩
 | a :: s, v :: us, i + 1, b, u, h, k => by
  rw [yP] at h k
  obtain ⟨h1, h2⟩ := flatB_get h k
  have e : flatB (a :: s) (v :: us) = .int .i64 a.1 :: v :: flatB s us := rfl
  rw [e]
  refine ⟨?_, ?_⟩
  ·rw [show (i + 1) * 2 = i * 2 + 1 + 1 by omega]; simpa using h1
  rw [show (i + 1) * 2 + 1 = i * 2 + 1 + 1 + 1 by omega]; simpa using h2
theorem flatB_append : ∀ {s r : List Bd} {us vs : List Value}, us.length = s.length → flatB (s ++ r) (us ++ vs) = flatB s us ++ flatB r vs := by
 intro s r us vs h
 unfold flatB
 rw [List.zip_append h.symm, List.flatMap_append]
theorem info_treeM : (Tryz.prog.info? 187).map (fun i => (i.zero, i.size, i.bytes)) = some (some .nilIface, 1, 16) := by kernel_rfl
theorem xCQ : Tryz.prog.underlying 223 = some (.slice 187) := by kernel_rfl
theorem cloneM_any (v : Value) (vals : List Value) (w : World) (h : RdV w v vals) (h1 : ∀ u ∈ vals, u.oneCell' = true) (hl : vals.length * 16 ≤ 140737488355328) :
  Calls Tryz.prog 167 #[v] w fun e w' => ∃ v', e = .returned v' ∧ w'.ownsRow w.heap.size 187 1 v' vals.length vals ∧ Below w.heap.size w w' := by
 obtain ⟨i0, hi, hz0, hz1, hz2⟩ := info_parts info_treeM
 have hq : ∀ (W : World) (a : Option Addr) (n c n' c' : Nat), (binOp .eql 223 (.slice a n c) (.slice none n' c')).run Tryz.prog W = .ok (.bool a.isNone) W := fun W a n c n' c' => Lib.run_eql_slice_nil W _ _ a n c n' c' xCQ
 rcases h with ⟨rfl, rfl⟩ | ⟨g, off, cap, rfl, hc⟩
 ·go_enter Tryz.func167, Tryz.ntmps167
  go_wp2
  go_ret
  exact ⟨_, rfl, World.ownsRow_nil _ _ _ _, Below.refl _ _⟩
 obtain ⟨v', w', hr, ho, hb⟩ : ∃ v' w', (Builtin.append_ #[223, 223] 223 #[.slice (some ⟨w.heap.size, 0, none⟩) 0 0, .slice (some ⟨g, off, none⟩) vals.length cap]).run Tryz.prog (w.alloc (.cells #[] 187)) = .ok v' w' ∧ w'.ownsRow w.heap.size 187 1 v' vals.length vals ∧ Below w.heap.size w w' := by
  by_cases h0 : vals.length = 0
  ·obtain rfl : vals = [] := zE h0
   exact ⟨_, _, run_append_nothing _ 223 223 223 187 i0 xCQ hi _ 0 0 (Nat.le_refl _) _ (Src.ofSlice _ xCQ _ 0 _ [] (by simp) (fun j u hj => (by simp at hj)) (fun u hu => (by simp at hu))), empty_row _ (Nat.le_refl _), zA _⟩
  obtain ⟨v', w', hr, h2, h3, _, _⟩ := run_append_own_at (P := Tryz.prog) (w.alloc (.cells #[] 187)) w.heap.size 223 223 187 i0 _ 1 16 xCQ hi hz0 hz1 hz2 rfl (by decide) _ 0 [] (empty_row _ (Nat.le_refl _)) ⟨g, off, none⟩ vals.length cap vals (by simp)
   (fun j u hj => by rw [Addr.add_lit]; exact (zK (zA _)).cell _ _ (hc j u hj)) h1 (by unfold maxLen; omega) (by omega) (zA _).size
  rw [Nat.zero_add, yH] at h2
  exact ⟨v', w', hr, h2, xDH (zA _) h3 (Nat.le_refl _)⟩
 have HR := hid hr
 have HO := hid ho
 have HB := hid hb
 clear hr ho hb hc
 go_enter Tryz.func167, Tryz.ntmps167
 go_wp2_with (first
  | (at_builtin; refine xGM rfl _ _ _ rfl _ _ rfl rfl HR.out ?_))
 go_ret
 exact ⟨_, rfl, HO.out, HB.out⟩
theorem xEU (v : Value) (vals : List Value) (base : Nat) (w : World) (h : w.ownsRow base 187 1 v vals.length vals) (hif : ∀ u ∈ vals, IfV u) :
  Calls Tryz.prog 168 #[v] w fun e w' => e = .returned (.tuple #[]) ∧ w'.ownsRow base 187 1 v vals.length vals.reverse ∧ w.grownBy w' v.ownBlock := by
 have hsh : ∃ ao cap, v = .slice ao vals.length cap ∧ vals.length ≤ cap ∧ cap ≤ maxLen := by
  rcases h.2 with ⟨rfl, hn⟩ | ⟨g, cap, cur, rfl, hb, hg, hc, hm, hs, ht⟩
  ·exact ⟨none, 0, by rw [hn], by omega, by simp [maxLen]⟩
  exact ⟨_, cap, rfl, hc, hm⟩
 obtain ⟨ao, cap, rfl, hc1, hc2⟩ := hsh
 unfold maxLen at hc2
 have HV := hid h
 have HIf := hid hif
 clear h hif
 have mixed : Tryz.prog.follows .mixedOrders = true := by kernel_rfl
 go_enter Tryz.func168, Tryz.ntmps168
 go_wp2
 go_loopg [2, 3] vals.length (fun k s2 s3 wr => ∃ (i jn : Nat) (jz : Int) (dk : Array Value), s2 = .int .i64 i ∧ s3 = .int .i64 jz ∧ ((i : Int) < jz → jz = jn ∧ jn < vals.length) ∧ (¬ (i : Int) < jz → ¬ i < jn) ∧ jn - i ≤ k ∧
  dk.size = vals.length ∧ (∀ u ∈ dk.toList, IfV u) ∧ wr.ownsRow base 187 1 (.slice ao vals.length cap) vals.length dk.toList ∧ w.grownBy wr (Value.slice ao vals.length cap).ownBlock ∧ Sort.reverseLoop i jn dk = Sort.reverseLoop 0 (vals.length - 1) vals.toArray)
 case atStart => exact ⟨0, vals.length - 1, (vals.length : Int) - 1, vals.toArray, rfl, rfl, fun h => ⟨by omega, by omega⟩, fun h => by omega, by omega, by simp, HIf.out, HV.out, World.grownBy.refl _ _, rfl⟩
 case round =>
  obtain ⟨i, jn, jz, dk, rfl, rfl, h1, h2, hk, hds, hifd, how, hgr, heq⟩ := hrel
  by_cases hlt : (i : Int) < jz
  ·obtain ⟨rfl, hjn⟩ := h1 hlt
   have hij : i < jn := by omega
   obtain ⟨g, cp, hv⟩ := own_form (v := .slice ao vals.length cap) how (by omega)
   simp only [zZ] at hv
   obtain ⟨rfl, _, rfl⟩ := hv
   have ci : wr.cell? ⟨g, i, none⟩ = some dk[i]! := by
    rw [World.ownsRow.cellAt how i (by omega)]
    simp [getElem!_pos, show i < dk.size by omega]
   have cj : wr.cell? ⟨g, jn, none⟩ = some dk[jn]! := by
    rw [World.ownsRow.cellAt how jn (by omega)]
    simp [getElem!_pos, show jn < dk.size by omega]
   have fi := World.ownsRow.frozenAt how i
   have fj := World.ownsRow.frozenAt how jn
   have HOw := hid how
   have HGr := hid hgr
   have HEq := hid heq
   have hil : i < vals.length := by omega
   obtain ⟨xi, hxi⟩ : ∃ x, x = dk[i]! := ⟨_, rfl⟩
   obtain ⟨xj, hxj⟩ : ∃ x, x = dk[jn]! := ⟨_, rfl⟩
   rw [← hxi] at ci
   rw [← hxj] at cj
   obtain ⟨ti, yi, hyi⟩ : IfV xi := by rw [hxi, getElem!_pos dk i (by omega)]; exact hifd _ (Array.getElem_mem_toList (by omega))
   obtain ⟨tj, yj, hyj⟩ : IfV xj := by rw [hxj, getElem!_pos dk jn (by omega)]; exact hifd _ (Array.getElem_mem_toList (by omega))
   subst hyi
   subst hyj
   have HXi := hid hxi
   have HXj := hid hxj
   have HIf2 : Hid (∀ u ∈ (Sort.swp dk i jn).toList, IfV u) := fun u hu => hifd u (swp_mem (by omega) (by omega) hu)
   clear hifd
   clear how hgr heq hxi hxj h1 h2
   have hst := (World.ownsRow.stored HOw.out i (.iface tj yj)).1
   have hst2 := (World.ownsRow.stored hst jn (.iface ti yi)).1
   have HS2 : Hid (((wr.setCell ⟨g, i, none⟩ (.iface tj yj)).setCell ⟨g, jn, none⟩ (.iface ti yi)).drew.ownsRow base 187 1 (.slice (some ⟨g, 0, none⟩) vals.length cap) vals.length (Sort.swp dk i jn).toList) := by
    rw [swp_list (by omega) (by omega), ← HXi.out, ← HXj.out]
    exact xAC hst2 (xAF _)
   have HG2 : Hid (w.grownBy ((wr.setCell ⟨g, i, none⟩ (.iface tj yj)).setCell ⟨g, jn, none⟩ (.iface ti yi)).drew (some g)) :=
    xBG HGr.out (xBG (set_grownT wr g i (.iface tj yj)) (xBG (set_grownT _ g jn (.iface ti yi)) (xAA (xAF _) _)))
   clear hst hst2
   go_wp2_with fail
   go_region_o
   go_wp2
   go_roundg (jn - 1 - (i + 1))
   case measure => omega
   case rel =>
    have h9 := HEq.out
    rw [Sort.reverseLoop, if_pos hij] at h9
    exact ⟨i + 1, jn - 1, (jn : Int) - 1, Sort.swp dk i jn, by simp, rfl, fun h => ⟨by omega, by omega⟩, fun h => by omega, Nat.le_refl _, by rw [Sort.size_swp]; exact hds, HIf2.out, HS2.out, HG2.out, h9⟩
  have hnot := h2 hlt
  have HR : Hid (dk.toList = vals.reverse) := by
   show _ = _
   rw [Sort.reverseLoop, if_neg hnot] at heq
   have h9 := Lib.reverseLoop_reverse vals.toArray
   rw [show vals.toArray.size = vals.length by simp] at h9
   rw [heq, h9]
   simp
  have HOw := hid how
  have HGr := hid hgr
  clear how hgr heq
  go_wp2
  go_end0
  exact ⟨rfl, by rw [← HR.out]; exact HOw.out, HGr.out⟩
mutual
def TP (w : World) (A : Nat → Prop) (S : Nat → Nat → Value) : Value → Tr → Nat → Prop
 | v, .var, p => v = .iface 216 (.agg #[S p 1])
 | v, .app ts, p => ∃ b a cap, v = .iface 222 (.pointer (some ⟨b, 0, none⟩)) ∧ A b ∧ w.cell? ⟨b, 0, none⟩ = some (S p (1 + sizes ts)) ∧ w.cell? ⟨b, 1, none⟩ = some (.slice a ts.length cap) ∧ ts.length ≤ cap ∧ cap ≤ maxLen ∧ (ts = [] ∨ ∃ g off, a = some ⟨g, off, none⟩ ∧ A g ∧ TPs w A S g off ts (p + 1))
def TPs (w : World) (A : Nat → Prop) (S : Nat → Nat → Value) (g : Nat) : Nat → List Tr → Nat → Prop
 | _, [], _ => True
 | o, t :: ts, p => (∃ v, w.cell? ⟨g, o, none⟩ = some v ∧ TP w A S v t p) ∧ TPs w A S g (o + 1) ts (p + t.size)
end
mutual
theorem TP.keep {w w' : World} {A A' : Nat → Prop} {S : Nat → Nat → Value} (hc : ∀ b o x, A b → w.cell? ⟨b, o, none⟩ = some x → w'.cell? ⟨b, o, none⟩ = some x) (hA : ∀ b, A b → A' b) : ∀ {v : Value} {t : Tr} {p : Nat}, TP w A S v t p → TP w' A' S v t p
 | v, .var, p, h => by unfold TP at h ⊢; exact h
 | v, .app ts, p, h => by
  unfold TP at h ⊢
  obtain ⟨b, a, cap, h1, h2, h3, h4, h5, h6, h7⟩ := h
  refine ⟨b, a, cap, h1, hA b h2, hc b 0 _ h2 h3, hc b 1 _ h2 h4, h5, h6, ?_⟩
  rcases h7 with h7 | ⟨g, off, k1, k2, k3⟩
  ·exact .inl h7
  exact .inr ⟨g, off, k1, hA g k2, TPs.keep hc hA k2 k3⟩
theorem TPs.keep {w w' : World} {A A' : Nat → Prop} {S : Nat → Nat → Value} (hc : ∀ b o x, A b → w.cell? ⟨b, o, none⟩ = some x → w'.cell? ⟨b, o, none⟩ = some x) (hA : ∀ b, A b → A' b) : ∀ {g o : Nat} {ts : List Tr} {p : Nat}, A g → TPs w A S g o ts p → TPs w' A' S g o ts p
 | g, o, [], p, _, _ => by unfold TPs; trivial
 | g, o, t :: ts, p, hg, h => by
  unfold TPs at h ⊢
  obtain ⟨⟨v, h1, h2⟩, h3⟩ := h
  exact ⟨⟨v, hc g o _ hg h1, TP.keep hc hA h2⟩, TPs.keep hc hA hg h3⟩
end
def TPl (w : World) (A : Nat → Prop) (S : Nat → Nat → Value) : List Value → List Tr → Nat → Prop
 | [], [], _ => True
 | v :: vs, t :: ts, p => TP w A S v t p ∧ TPl w A S vs ts (p + t.size)
 | _, _, _ => False
theorem TPl.keep {w w' : World} {A A' : Nat → Prop} {S : Nat → Nat → Value} (hc : ∀ b o x, A b → w.cell? ⟨b, o, none⟩ = some x → w'.cell? ⟨b, o, none⟩ = some x) (hA : ∀ b, A b → A' b) : ∀ {vs : List Value} {ts : List Tr} {p : Nat}, TPl w A S vs ts p → TPl w' A' S vs ts p
 | [], [], _, _ => trivial
 | _ :: _, _ :: _, _, ⟨h1, h2⟩ => ⟨h1.keep hc hA, TPl.keep hc hA h2⟩
 | [], _ :: _, _, h => h.elim
 | _ :: _, [], _, h => h.elim
theorem TPl.len {w : World} {A : Nat → Prop} {S : Nat → Nat → Value} : ∀ {vs : List Value} {ts : List Tr} {p : Nat}, TPl w A S vs ts p → vs.length = ts.length
 | [], [], _, _ => rfl
 | _ :: _, _ :: _, _, ⟨_, h2⟩ => congrArg (· + 1) (TPl.len h2)
 | [], _ :: _, _, h => h.elim
 | _ :: _, [], _, h => h.elim
theorem TPl.get {w : World} {A : Nat → Prop} {S : Nat → Nat → Value} : ∀ {vs : List Value} {ts : List Tr} {p k : Nat} {v : Value} {t : Tr}, TPl w A S vs ts p → vs[k]? = some v → ts[k]? = some t → TP w A S v t (p + sizes (ts.take k))
 | [], [], _, _, _, _, _, h, _ => by simp at h
 | v :: vs, t :: ts, p, 0, _, _, ⟨h1, _⟩, hv, ht => by simp at hv ht; subst hv; subst ht; simpa [sizes] using h1
 | v :: vs, t :: ts, p, k + 1, _, _, ⟨_, h2⟩, hv, ht => by
  have := TPl.get h2 (k := k) (by simpa using hv) (by simpa using ht)
  rw [List.take_succ_cons]
  simp only [sizes]
  rw [← Nat.add_assoc]
  exact this
 | [], _ :: _, _, _, _, _, h, _, _ => h.elim
 | _ :: _, [], _, _, _, _, h, _, _ => h.elim
theorem TPl.take {w : World} {A : Nat → Prop} {S : Nat → Nat → Value} : ∀ {vs : List Value} {ts : List Tr} {p : Nat} (k : Nat), TPl w A S vs ts p → TPl w A S (vs.take k) (ts.take k) p ∧ TPl w A S (vs.drop k) (ts.drop k) (p + sizes (ts.take k))
 | [], [], p, k, _ => by simp [TPl]
 | _ :: _, _ :: _, p, 0, h => ⟨trivial, by simpa [sizes] using h⟩
 | _ :: _, t :: ts, p, k + 1, ⟨h1, h2⟩ => by
  obtain ⟨h3, h4⟩ := TPl.take k h2
  refine ⟨⟨h1, h3⟩, ?_⟩
  rw [List.take_succ_cons, List.drop_succ_cons, List.drop_succ_cons]
  simp only [sizes]
  rw [← Nat.add_assoc]
  exact h4
 | [], _ :: _, _, _, h => h.elim
 | _ :: _, [], _, _, h => h.elim
theorem TP.ifv {w : World} {A : Nat → Prop} {S : Nat → Nat → Value} {v : Value} {t : Tr} {p : Nat} (h : TP w A S v t p) : IfV v := by
 cases t with
 | var => unfold TP at h; exact ⟨_, _, h⟩
 | app ts => unfold TP at h; obtain ⟨b, a, cap, h1, _⟩ := h; exact ⟨_, _, h1⟩
theorem TPl.ifv {w : World} {A : Nat → Prop} {S : Nat → Nat → Value} : ∀ {vs : List Value} {ts : List Tr} {p : Nat}, TPl w A S vs ts p → ∀ u ∈ vs, IfV u
 | [], [], _, _, u, hu => by cases hu
 | v :: vs, t :: ts, _, ⟨h1, h2⟩, u, hu => by
  cases hu with
  | head => exact h1.ifv
  | tail _ hu => exact TPl.ifv h2 u hu
 | [], _ :: _, _, h, _, _ => h.elim
 | _ :: _, [], _, h, _, _ => h.elim
theorem TPs_of_TPl {w : World} {A : Nat → Prop} {S : Nat → Nat → Value} {g : Nat} : ∀ {vs : List Value} {ts : List Tr} {o p : Nat}, TPl w A S vs ts p → (∀ (j : Nat) (u : Value), vs[j]? = some u → w.cell? ⟨g, o + j, none⟩ = some u) → TPs w A S g o ts p
 | [], [], o, p, _, _ => by unfold TPs; trivial
 | v :: vs, t :: ts, o, p, ⟨h1, h2⟩, hc => by
  unfold TPs
  refine ⟨⟨v, hc 0 v rfl, h1⟩, TPs_of_TPl h2 fun j u hj => ?_⟩
  have := hc (j + 1) u (by simpa using hj)
  rw [show o + 1 + j = o + (j + 1) by omega]
  exact this
 | [], _ :: _, _, _, h, _ => h.elim
 | _ :: _, [], _, _, h, _ => h.elim
theorem TPs.get {w : World} {A : Nat → Prop} {S : Nat → Nat → Value} {g : Nat} : ∀ {o : Nat} {ts : List Tr} {p k : Nat} {t : Tr}, TPs w A S g o ts p → ts[k]? = some t → ∃ v, w.cell? ⟨g, o + k, none⟩ = some v ∧ TP w A S v t (p + sizes (ts.take k))
 | o, [], p, k, t, _, hk => by simp at hk
 | o, x :: ts, p, 0, t, h, hk => by
  unfold TPs at h
  simp only [yQ, zX] at hk
  subst hk
  simpa [sizes] using h.1
 | o, x :: ts, p, k + 1, t, h, hk => by
  unfold TPs at h
  rw [yP] at hk
  obtain ⟨v, h1, h2⟩ := TPs.get h.2 hk
  refine ⟨v, by rw [show o + (k + 1) = o + 1 + k by omega]; exact h1, ?_⟩
  rw [List.take_succ_cons]
  simp only [sizes]
  rw [← Nat.add_assoc]
  exact h2
def cdS (b o c : Nat) (p n : Nat) : Value := .slice (some ⟨b, o + p, none⟩) n (c - p)
theorem varRow_any (s : Value) (w : World) : Calls Tryz.prog 239 #[.agg #[s]] w fun e w' => e = .returned s ∧ Below w.heap.size w w' := by
 go_enter Tryz.func239, Tryz.ntmps239
 go_wp2
 go_ret
 exact ⟨rfl, zA _⟩
theorem appRow_any (b : Nat) (s : Value) (w : World) (h : w.cell? ⟨b, 0, none⟩ = some s) : Calls Tryz.prog 240 #[.pointer (some ⟨b, 0, none⟩)] w fun e w' => e = .returned s ∧ w' = w := by
 go_enter Tryz.func240, Tryz.ntmps240
 go_wp2
 go_ret
 exact ⟨rfl, rfl⟩
theorem applyM_any (b0 o0 c0 p n : Nat) (v : Value) (vals : List Value) (ts : List Tr) (A : Nat → Prop) (q : Nat) (w : World) (hr : RdV w v vals) (ht : TPl w A (cdS b0 o0 c0) vals ts q) (hA : ∀ b, A b → b < w.heap.size) (hs : 1 + sizes ts ≤ n) (hn : n ≤ c0 - p) (hc : c0 ≤ 9223372036854775807) :
  Calls Tryz.prog 169 #[cdS b0 o0 c0 p n, v] w fun e w' => ∃ b, e = .returned (.iface 222 (.pointer (some ⟨b, 0, none⟩))) ∧ w.heap.size ≤ b ∧ w'.cell? ⟨b, 0, none⟩ = some (cdS b0 o0 c0 p (1 + sizes ts)) ∧ w'.cell? ⟨b, 1, none⟩ = some v ∧ Below w.heap.size w w' := by
 have hlen := ht.len
 have hsh : ∃ ao cap, v = .slice ao ts.length cap := by
  rcases hr with ⟨rfl, rfl⟩ | ⟨g, off, cap, rfl, _⟩
  ·exact ⟨none, 0, by rw [← hlen]; rfl⟩
  exact ⟨_, cap, by rw [hlen]⟩
 obtain ⟨ao, cap, rfl⟩ := hsh
 have HR := hid hr
 have HT := hid ht
 have HA := hid hA
 have hbig := len_sizes ts
 clear hr ht hA
 unfold cdS
 go_enter Tryz.func169, Tryz.ntmps169
 go_wp2
 go_loopw [5, 10] (fun sv iv wr => ∃ k : Nat, k ≤ ts.length ∧ iv = .int .i64 k ∧ sv = .int .i64 ((1 + sizes (ts.take k) : Nat) : Int) ∧ Below w.heap.size w wr) (fun _ iv _ => ts.length - (intOf iv).toNat)
 case atStart => exact ⟨0, Nat.zero_le _, rfl, by simp [sizes], Below.refl _ _⟩
 case round =>
  obtain ⟨k, hk, rfl, rfl, hbl⟩ := hrel
  have HBl := hid hbl
  by_cases hlt : k < ts.length
  ·obtain ⟨u, hu⟩ : ∃ u, vals[k]? = some u := ⟨_, zC (by omega)⟩
   obtain ⟨t, htk⟩ : ∃ t, ts[k]? = some t := ⟨_, zC hlt⟩
   obtain ⟨g, off, rfl, hcl⟩ := (HR.out.kp (zK hbl)).at hu
   have htv := HT.out.get hu htk
   have hst := sizes_take ts (k + 1)
   have hsn : sizes (ts.take (k + 1)) = sizes (ts.take k) + t.size := by rw [xAM htk, xBJ]; simp [sizes]
   have HSn := hid hsn
   obtain ⟨S, hS⟩ : ∃ S, S = sizes (ts.take k) := ⟨_, rfl⟩
   rw [← hS] at hsn HSn htv ⊢
   clear hS hu htk hbl
   cases t with
   | var =>
    unfold TP cdS at htv
    subst htv
    simp only [Tr.size] at hsn HSn
    go_wp2_with fail
    refine (varRow_any _ wr).mono ?_
    rintro e w2 ⟨rfl, hb2⟩
    have HB2 := hid (zS HBl.out hb2)
    have hwr : IntKind.i64.wrap (((1 + S : Nat) : Int) + 1) = ((1 + (S + 1) : Nat) : Int) := by rw [yA _ ⟨by omega, by omega⟩]; omega
    clear hb2
    go_wp2
    go_roundw
    case rel => exact ⟨k + 1, by omega, by go_num, by rw [HSn.out]; exact congrArg (Value.int .i64) (by omega), HB2.out⟩
    case measure => simp [intOf]; omega
   | app rs =>
    unfold TP cdS at htv
    obtain ⟨b, a, cp, rfl, hb, h3, h4, h5, h6, h7⟩ := htv
    have h3r := (HBl.out.cell (p := ⟨b, 0, none⟩) (HA.out b hb)).trans h3
    simp only [Tr.size] at hsn HSn
    obtain ⟨Z, hZ⟩ : ∃ Z, Z = 1 + sizes rs := ⟨_, rfl⟩
    rw [← hZ] at hsn HSn h3r
    have hwr : IntKind.i64.wrap (((1 + S : Nat) : Int) + (Z : Int)) = ((1 + (S + Z) : Nat) : Int) := by rw [yA _ ⟨by omega, by omega⟩]; omega
    clear h3 h7 hZ
    go_wp2_with fail
    refine (appRow_any b _ wr h3r).mono ?_
    rintro e w2 ⟨rfl, hw2⟩
    have hw8 := hw2.symm
    subst hw8
    clear hw2
    go_wp2
    go_roundw
    case rel => exact ⟨k + 1, by omega, by go_num, by rw [HSn.out]; exact congrArg (Value.int .i64) (by omega), HBl.out⟩
    case measure => simp [intOf]; omega
  have hke : k = ts.length := by omega
  subst hke
  rw [List.take_length]
  obtain ⟨Z, hZ⟩ : ∃ Z, Z = sizes ts := ⟨_, rfl⟩
  rw [← hZ] at hs ⊢
  have HZ := hid hZ
  have hzc : 1 + Z ≤ c0 - p := by omega
  have hz0 : (0 : Int) ≤ 1 + (Z : Int) := by omega
  clear hZ hbig
  go_wp2
  go_ret
  exact ⟨_, rfl, hbl.size, by rw [← HZ.out]; simp, by simp, zS hbl (zA _)⟩
end Go.Proofs.YtdjmjhlbjcgoiaaGreatDoor
namespace Go.Proofs.YtdjmjhlbjcgoiaaGreatDoor
open Go.RowKit Go.Maps Go.Shelf
attribute [local go_sem] Oper.semAt_some
structure GM (w W : World) (S : Nat → Nat → Value) (sv v gv : Value) (vals : List Value) (st : List Tr) (p : Nat) : Prop where
 box : W.cell? ⟨w.heap.size + 2, 0, none⟩ = some gv
 frz : W.frozen? ⟨w.heap.size + 2, 0, none⟩ = false
 sigb : W.cell? ⟨w.heap.size, 0, none⟩ = some sv
 rowb : W.cell? ⟨w.heap.size + 1, 0, none⟩ = some v
 bck : W.cell? ⟨w.heap.size + 3, 0, none⟩ = some v
 own : W.ownsRow (w.heap.size + 4) 187 1 gv vals.length vals
 tv : TPl W (fun b => w.heap.size + 4 ≤ b ∧ b < W.heap.size ∧ gv.ownBlock ≠ some b) S vals.reverse st.reverse p
 bel : Below w.heap.size w W
 sz : w.heap.size + 4 ≤ W.heap.size
theorem GM.put {w W : World} {S : Nat → Nat → Value} {sv v gv : Value} {vals : List Value} {st : List Tr} {p : Nat} (h : GM w W S sv v gv vals st p) {l : Nat} {o o' : Obj} (hl : w.heap.size + 4 ≤ l) (ho : W.heap[l]? = some o) (hc : o.isCells = false) : GM w (W.putObj l o') S sv v gv vals st p := by
 have hsz : (W.putObj l o').heap.size = W.heap.size := by simp [World.putObj]
 refine ⟨xDK ho hc h.box, ?_, xDK ho hc h.sigb, xDK ho hc h.rowb, xDK ho hc h.bck, ownsRow_putObj h.own _ ho hc, h.tv.keep (fun b o x _ hx => xDK ho hc hx) (fun b hb => ⟨hb.1, by rw [hsz]; exact hb.2.1, hb.2.2⟩), ?_, by rw [hsz]; exact h.sz⟩
 ·rw [xEK (World.putObj_heap_other (by simp only; omega))]
  exact h.frz
 exact ⟨h.bel.os, h.bel.tape, h.bel.output, by rw [hsz]; exact h.bel.size, fun k hk => (World.putObj_heap_other (by omega)).trans (h.bel.block k hk)⟩
theorem GM.later {w W W' : World} {S : Nat → Nat → Value} {sv v gv : Value} {vals : List Value} {st : List Tr} {p : Nat} (h : GM w W S sv v gv vals st p) (hb : Below W.heap.size W W') : GM w W' S sv v gv vals st p := by
 have hk := zK hb
 exact ⟨hk.cell _ _ h.box, by rw [xEK (hb.block _ (by have := h.sz; simp only; omega))]; exact h.frz, hk.cell _ _ h.sigb, hk.cell _ _ h.rowb, hk.cell _ _ h.bck, xAC h.own hb,
  h.tv.keep (fun b o x _ hx => hk.cell _ _ hx) (fun b hb2 => ⟨hb2.1, Nat.lt_of_lt_of_le hb2.2.1 hb.size, hb2.2.2⟩), zS h.bel hb, Nat.le_trans h.sz hb.size⟩
theorem GM.push (ty : TypeId) {w W W1 : World} {S : Nat → Nat → Value} {sv v gv u : Value} {vals : List Value} {st : List Tr} {k p p' : Nat} {T : Tr} {ao : Option Addr} {cap : Nat} (h : GM w W S sv v gv vals st p) (hgv : gv = .slice ao vals.length cap) (hk : k ≤ vals.length) (hb : Below W.heap.size W W1)
  (hT : TP W1 (fun b => w.heap.size + 4 ≤ b ∧ b < W1.heap.size ∧ gv.ownBlock ≠ some b) S u T p') (hp : p' + T.size = p + sizes (st.drop k)) (hl : (k + 1) * 16 ≤ 140737488355328) :
  ∃ g cp W2, (Builtin.append_ #[223, 223] ty #[.slice ao k cap, .slice (some ⟨W1.heap.size, 0, none⟩) 1 1]).run Tryz.prog (W1.alloc (.cells #[u] 187)) = .ok (.slice (some ⟨g, 0, none⟩) (k + 1) cp) W2 ∧
   W2.cell? ⟨w.heap.size + 2, 0, none⟩ = some gv ∧ W2.frozen? ⟨w.heap.size + 2, 0, none⟩ = false ∧
   GM w (W2.setCell ⟨w.heap.size + 2, 0, none⟩ (.slice (some ⟨g, 0, none⟩) (k + 1) cp)) S sv v (.slice (some ⟨g, 0, none⟩) (k + 1) cp) (vals.take k ++ [u]) (st.take k ++ [T]) p' ∧ KeepsFrom (w.heap.size + 4) W (W2.setCell ⟨w.heap.size + 2, 0, none⟩ (.slice (some ⟨g, 0, none⟩) (k + 1) cp)) := by
 obtain ⟨i0, hi, hz0, hz1, hz2⟩ := info_parts info_treeM
 have ha := zA (w := W1) (.cells #[u] 187)
 have hba := zS hb ha
 have hown := h.own
 rw [hgv] at hown
 have hcut := own_cut (xAC hown hba) hk
 have hsz := h.sz
 obtain ⟨v', W2, hr, h2, h3, _, h5⟩ := run_append_own_at (P := Tryz.prog) (W1.alloc (.cells #[u] 187)) (w.heap.size + 4) 223 ty 187 i0 _ 1 16 xCQ hi hz0 hz1 hz2 rfl (by decide) (.slice ao k cap) k (vals.take k) hcut ⟨W1.heap.size, 0, none⟩ 1 1 [u] rfl
  (fun j y hj => by
   rw [Addr.add_lit, Nat.zero_add]
   cases j with
   | zero =>
    simp at hj
    subst hj
    rw [cell_of_row _ _ _ _ _ _ (yU _ _)]
    rfl
   | succ j => simp at hj) (fun y hy => by simp at hy; subst hy; exact hT.ifv.one) (by unfold maxLen; omega) (by omega) (Nat.le_trans hsz hba.size)
 obtain ⟨g, cp, rfl⟩ := own_form h2 (by omega)
 have hge := own_ge h2
 -- the block of the slice, before
 have hob : (Value.slice ao k cap).ownBlock = gv.ownBlock := by rw [hgv]; cases ao <;> rfl
 rw [hob] at h3 h5
 have hgb : ∀ j, gv.ownBlock = some j → w.heap.size + 4 ≤ j := fun j hj => own_blk h.own hj
 have hold : ∀ b, b < w.heap.size + 4 → W2.heap[b]? = W.heap[b]? := fun b hb2 => by
  rw [h3.block b (Nat.lt_of_lt_of_le (Nat.lt_of_lt_of_le hb2 hsz) hba.size) (fun e => by have := hgb b e.symm; omega)]
  exact hba.block b (Nat.lt_of_lt_of_le hb2 hsz)
 have hbox : W2.cell? ⟨w.heap.size + 2, 0, none⟩ = some gv := by
  rw [World.cell?_of_block (hold _ (by simp only; omega))]
  exact h.box
 have hfrz : W2.frozen? ⟨w.heap.size + 2, 0, none⟩ = false := by
  rw [xEK (hold _ (by simp only; omega))]
  exact h.frz
 -- cells away from the slice's block stay
 have hfar : ∀ (b o : Nat) (x : Value), w.heap.size + 4 ≤ b → b < (W1.alloc (.cells #[u] 187)).heap.size → gv.ownBlock ≠ some b → (W1.alloc (.cells #[u] 187)).cell? ⟨b, o, none⟩ = some x → (W2.setCell ⟨w.heap.size + 2, 0, none⟩ (.slice (some ⟨g, 0, none⟩) (k + 1) cp)).cell? ⟨b, o, none⟩ = some x := fun b o x hb1 hb2 hb3 hx => by
  rw [World.cell?_setCell_far _ _ _ _ (by simp only; omega), World.cell?_of_block (h3.block b hb2 (fun e => hb3 e.symm))]
  exact hx
 have hne : ∀ b, b < (W1.alloc (.cells #[u] 187)).heap.size → gv.ownBlock ≠ some b → g ≠ b := fun b hb1 hb2 e => by
  subst e
  rcases h5 with h5 | h5
  ·exact hb2 (by rw [← h5]; rfl)
  simp only [Value.ownBlock, zX] at h5
  omega
 have hs2 : (W2.setCell ⟨w.heap.size + 2, 0, none⟩ (.slice (some ⟨g, 0, none⟩) (k + 1) cp)).heap.size = W2.heap.size := by simp [World.setCell]
 have hsw : W.heap.size ≤ (W1.alloc (.cells #[u] 187)).heap.size := hba.size
 have hvl : (vals.take k ++ [u]).length = k + 1 := by rw [zF, zH, Nat.min_eq_left hk]; rfl
 refine ⟨g, cp, W2, hr, hbox, hfrz, ⟨World.cell?_setCell_same' _ _ _ (by rw [hbox]; rfl), by rw [World.frozen?_setCell]; exact hfrz, ?_, ?_, ?_, ?_, ?_, ?_, ?_⟩, ?_⟩
 ·rw [World.cell?_setCell_far _ _ _ _ (by simp only; omega), World.cell?_of_block (hold _ (by simp only; omega))]
  exact h.sigb
 ·rw [World.cell?_setCell_far _ _ _ _ (by simp only; omega), World.cell?_of_block (hold _ (by simp only; omega))]
  exact h.rowb
 ·rw [World.cell?_setCell_far _ _ _ _ (by simp only; omega), World.cell?_of_block (hold _ (by simp only; omega))]
  exact h.bck
 ·rw [hvl]
  exact h2.kept (set_grownT W2 (w.heap.size + 2) 0 _) (.inr (by simp only [Value.ownBlock, ne_eq, zX]; omega))
 ·rw [List.reverse_append, List.reverse_append, List.reverse_singleton, List.reverse_singleton]
  have hlk : vals.length = st.length := by have := h.tv.len; rw [yX, yX] at this; exact this
  have hd1 : (vals.take k).reverse = vals.reverse.drop (vals.length - k) := by
   have e1 : vals.reverse = (vals.drop k).reverse ++ (vals.take k).reverse := by rw [← List.reverse_append, zQ]
   rw [e1, show vals.length - k = (vals.drop k).reverse.length by rw [yX, zI], List.drop_left]
  have hd2 : (st.take k).reverse = st.reverse.drop (vals.length - k) := by
   have e1 : st.reverse = (st.drop k).reverse ++ (st.take k).reverse := by rw [← List.reverse_append, zQ]
   rw [e1, hlk, show st.length - k = (st.drop k).reverse.length by rw [yX, zI], List.drop_left]
  have hd3 : sizes (st.reverse.take (vals.length - k)) = sizes (st.drop k) := by
   have e1 : st.reverse = (st.drop k).reverse ++ (st.take k).reverse := by rw [← List.reverse_append, zQ]
   rw [e1, hlk, show st.length - k = (st.drop k).reverse.length by rw [yX, zI], List.take_left, xBO]
  have htk := (h.tv.take (vals.length - k)).2
  rw [hd3, ← hp] at htk
  rw [← hd1, ← hd2] at htk
  refine ⟨?_, ?_⟩
  rotate_left
  ·refine htk.keep (fun b o x hA hx => hfar b o x hA.1 (Nat.lt_of_lt_of_le hA.2.1 hsw) hA.2.2 ((zK hba).cell _ _ hx)) (fun b hA => ⟨hA.1, ?_, ?_⟩)
   ·rw [hs2]; exact Nat.lt_of_lt_of_le (Nat.lt_of_lt_of_le hA.2.1 hsw) h3.size
   simp only [Value.ownBlock, ne_eq, zX]; exact hne b (Nat.lt_of_lt_of_le hA.2.1 hsw) hA.2.2
  refine hT.keep (fun b o x hA hx => hfar b o x hA.1 (Nat.lt_of_lt_of_le hA.2.1 ha.size) hA.2.2 ((zK ha).cell _ _ hx)) (fun b hA => ⟨hA.1, ?_, ?_⟩)
  ·rw [hs2]; exact Nat.lt_of_lt_of_le (Nat.lt_of_lt_of_le hA.2.1 ha.size) h3.size
  simp only [Value.ownBlock, ne_eq, zX]; exact hne b (Nat.lt_of_lt_of_le hA.2.1 ha.size) hA.2.2
 ·exact ((zS h.bel hba).grown h3 (zS h.bel hba).size (fun j hj => by have := hgb j hj; omega)).setCell (p := ⟨w.heap.size + 2, 0, none⟩) (by simp only; omega) _
 ·rw [hs2]
  exact Nat.le_trans hsz (Nat.le_trans hsw h3.size)
 refine ⟨by rw [hs2]; exact Nat.le_trans hsw h3.size, fun j o hj ho hoc => ?_⟩
 have hjl := (zL.1 ho).1
 rw [heap_setCell_other _ _ _ _ (show j ≠ w.heap.size + 2 by omega), h3.block j (Nat.lt_of_lt_of_le hjl hsw) (fun e => ?_), hba.block j hjl]
 ·exact ho
 rcases h.own.2 with ⟨h8, _⟩ | ⟨g8, c8, cur8, h8, _, hg8, _⟩
 ·rw [h8] at e; cases e
 rw [h8] at e
 simp only [Value.ownBlock, zX] at e
 subst e
 rw [hg8] at ho
 cases ho
 simp [Obj.isCells] at hoc
end Go.Proofs.YtdjmjhlbjcgoiaaGreatDoor
