/- Texts of the proof, one behind the other. -/
import Derived.Test.YtelacmijkbgliaaDoorOwn3
import Derived.Test.YtelacmijkbgliaaDoorOwn2
import Derived.Deep.LoopGhost
/- Unification, plainly: two classes made one; what classes become. -/
namespace Go.Proofs.YtelacmijkbgliaaDoor
open Go.RowKit Go.Maps Go.BigFrame

theorem faceN_app {L : List Nd} {a b : Nat} {k : Int} {xs : List Nat} (hc : clash L a b = false) (hal : a < L.length) (h : L[a]? = some (Nd.app k xs) ∨ L[b]? = some (Nd.app k xs)) : ∃ xs', L[faceN L a b]? = some (Nd.app k xs') := by
  unfold faceN
  unfold clash at hc
  rcases h with h | h
  · rw [h]
    exact ⟨xs, h⟩
  · rw [h] at hc ⊢
    cases ha : L[a]? with
    | none => rw [List.getElem?_eq_none_iff] at ha; omega
    | some x =>
      cases x with
      | var n => exact ⟨xs, h⟩
      | app c ys =>
        rw [ha] at hc
        simp at hc
        subst hc
        exact ⟨ys, ha⟩

theorem faceN_var {L : List Nd} {a b : Nat} (ha : a < L.length) (hb : b < L.length) {m : Int} (h : L[faceN L a b]? = some (Nd.var m)) : ∃ n n', L[a]? = some (Nd.var n) ∧ L[b]? = some (Nd.var n') ∧ m ≤ n ∧ m ≤ n' := by
  have ea : L[a]? = some L[a] := List.getElem?_eq_getElem ha
  have eb : L[b]? = some L[b] := List.getElem?_eq_getElem hb
  unfold faceN at h
  rw [ea, eb] at h
  cases hxa : L[a] with
  | var n =>
    cases hxb : L[b] with
    | var n' =>
      rw [hxa, hxb] at h
      simp only at h
      split at h
      · rw [ea, hxa] at h
        cases h
        exact ⟨m, n', by rw [ea, hxa], by rw [eb, hxb], Int.le_refl _, by omega⟩
      · rw [eb, hxb] at h
        cases h
        exact ⟨n, m, by rw [ea, hxa], by rw [eb, hxb], by omega, Int.le_refl _⟩
    | app c ys =>
      rw [hxa, hxb] at h
      simp only at h
      rw [eb, hxb] at h
      cases h
  | app c ys =>
    rw [hxa] at h
    simp only at h
    rw [ea, hxa] at h
    cases h

/-- A pair of two classes that do not clash: they become one. -/
theorem uni_step {sig : List Sy} {L : List Nd} (hL : NdOk sig L) {root face : Nat → Nat} (hc : ClOk L root face) {P P' : List (Nat × Nat)} {ra rb x y c d f : Nat}
    (hj : Jn sig L ra rb root (P ++ [(x, y)])) (hw : ClWait L root face (P ++ [(x, y)])) (hx : x < L.length) (hy : y < L.length)
    (hxy : (root x = c ∧ root y = d) ∨ (root x = d ∧ root y = c)) (hne : c ≠ d) (hcl : clash L (face (root x)) (face (root y)) = false)
    (hf : f = face c ∨ f = face d) (hfa : ∀ k xs, (L[face c]? = some (Nd.app k xs) ∨ L[face d]? = some (Nd.app k xs)) → ∃ xs', L[f]? = some (Nd.app k xs'))
    (hfl : ∀ m, L[f]? = some (Nd.var m) → ∃ n n', L[face c]? = some (Nd.var n) ∧ L[face d]? = some (Nd.var n') ∧ m ≤ n ∧ m ≤ n')
    (hP : P' = P ++ argP L (face (root x)) (face (root y))) :
    ClOk L (uniR root c d) (uniF face c f) ∧ ClWait L (uniR root c d) (uniF face c f) P' ∧ Jn sig L ra rb (uniR root c d) P' := by
  have hcx : root (root x) = root x := hc.idem x hx
  have hcy : root (root y) = root y := hc.idem y hy
  have hlx := hc.lt x hx
  have hly := hc.lt y hy
  have hrc : root c = c := by rcases hxy with ⟨rfl, rfl⟩ | ⟨rfl, rfl⟩ <;> assumption
  have hrd : root d = d := by rcases hxy with ⟨rfl, rfl⟩ | ⟨rfl, rfl⟩ <;> assumption
  have hcl2 : c < L.length := by rcases hxy with ⟨rfl, rfl⟩ | ⟨rfl, rfl⟩ <;> assumption
  have hdl2 : d < L.length := by rcases hxy with ⟨rfl, rfl⟩ | ⟨rfl, rfl⟩ <;> assumption
  have hok := cl_uni hc hcl2 hdl2 hrc hrd hne hf hfa hfl
  have hsame : ∀ a b, root a = root b → uniR root c d a = uniR root c d b := fun a b h => by unfold uniR; rw [h]
  have hux : uniR root c d x = uniR root c d y := by
    unfold uniR
    rcases hxy with ⟨h1, h2⟩ | ⟨h1, h2⟩
    · rw [h1, h2, if_neg hne, if_pos rfl]
    · rw [h1, h2, if_neg hne, if_pos rfl]
  have hmono : ∀ {a b}, Conn root (P ++ [(x, y)]) a b → Conn (uniR root c d) P' a b := fun {a b} h => h.mono (fun _ _ h => .same (hsame _ _ h)) (fun a b hab => by
    rcases List.mem_append.1 hab with hab | hab
    · exact .wait (by rw [hP]; exact List.mem_append_left _ hab)
    · rw [List.mem_singleton] at hab
      cases hab
      exact .same hux)
  have hargs : ∀ (k : Int) (xs ys : List Nat), L[face (root x)]? = some (Nd.app k xs) → L[face (root y)]? = some (Nd.app k ys) → ∀ (i a b : Nat), xs[i]? = some a → ys[i]? = some b → Conn (uniR root c d) P' a b := fun k xs ys h1 h2 i a b h3 h4 => by
    refine .wait ?_
    rw [hP]
    refine List.mem_append_right _ ?_
    unfold argP
    rw [h1, h2]
    simp only
    exact List.mem_of_getElem? (i := i) (by rw [List.getElem?_zip_eq_some]; exact ⟨h3, h4⟩)
  have hargs2 : ∀ (k : Int) (xs ys : List Nat), L[face c]? = some (Nd.app k xs) → L[face d]? = some (Nd.app k ys) → ∀ (i a b : Nat), xs[i]? = some a → ys[i]? = some b → Conn (uniR root c d) P' a b := fun k xs ys h1 h2 i a b h3 h4 => by
    rcases hxy with ⟨e1, e2⟩ | ⟨e1, e2⟩
    · exact hargs k xs ys (by rw [e1]; exact h1) (by rw [e2]; exact h2) i a b h3 h4
    · exact .turn (hargs k ys xs (by rw [e1]; exact h2) (by rw [e2]; exact h1) i b a h4 h3)
  refine ⟨hok, fun i k xs xs' h1 h2 n a b h3 h4 => ?_, fun V hV he => ?_, hmono hj.2⟩
  · have hil := (List.getElem?_eq_some_iff.1 h1).1
    obtain ⟨zs, hz⟩ := hc.app i k xs h1
    have hzl : n < zs.length := by
      have e1 := (hL.sym i k xs h1).2.2
      have e2 := (hL.sym _ k zs hz).2.2
      have e3 := (List.getElem?_eq_some_iff.1 h3).1
      omega
    have hzn : zs[n]? = some zs[n] := List.getElem?_eq_getElem hzl
    refine .next (hmono (hw i k xs zs h1 hz n a _ h3 hzn)) ?_
    by_cases hm : root i = c ∨ root i = d
    · have hu : uniR root c d i = c := by
        unfold uniR
        rcases hm with hm | hm
        · rw [hm, if_neg hne]
        · rw [hm, if_pos rfl]
      rw [hu] at h2
      unfold uniF at h2
      rw [if_pos rfl] at h2
      have hself : ∀ (a b : Nat), zs[n]? = some a → zs[n]? = some b → Conn (uniR root c d) P' a b := fun a b e1 e2 => by rw [e1] at e2; cases e2; exact .same rfl
      rcases hm with hm | hm
      · rw [hm] at hz
        rcases hf with rfl | rfl
        · rw [hz] at h2
          cases h2
          exact hself _ _ hzn h4
        · exact hargs2 k zs xs' hz h2 n _ _ hzn h4
      · rw [hm] at hz
        rcases hf with rfl | rfl
        · exact .turn (hargs2 k xs' zs h2 hz n _ _ h4 hzn)
        · rw [hz] at h2
          cases h2
          exact hself _ _ hzn h4
    · have hu : uniR root c d i = root i := by
        unfold uniR
        rw [if_neg (fun h => hm (.inr h))]
      rw [hu] at h2
      unfold uniF at h2
      rw [if_neg (fun h => hm (.inl h)), hz] at h2
      cases h2
      rw [hzn] at h4
      cases h4
      exact .same rfl
  · obtain ⟨s1, s2⟩ := hj.1 V hV he
    have hvxy := s2 (x, y) (by simp)
    simp only at hvxy
    have hvcd : V c = V d := by
      rcases hxy with ⟨e1, e2⟩ | ⟨e1, e2⟩
      · rw [← e1, ← e2, ← s1 x hx, ← s1 y hy]; exact hvxy
      · rw [← e1, ← e2, ← s1 x hx, ← s1 y hy]; exact hvxy.symm
    refine ⟨fun i hi => ?_, fun p hp => ?_⟩
    · unfold uniR
      by_cases h1 : root i = d
      · rw [if_pos h1, hvcd, ← h1]
        exact s1 i hi
      · rw [if_neg h1]
        exact s1 i hi
    · rw [hP] at hp
      rcases List.mem_append.1 hp with hp | hp
      · exact s2 p (List.mem_append_left _ hp)
      · have e1 : V (face (root x)) = V x := by rw [s1 _ (hc.face_lt x hx), hc.face_in x hx, ← s1 x hx]
        have e2 : V (face (root y)) = V y := by rw [s1 _ (hc.face_lt y hy), hc.face_in y hy, ← s1 y hy]
        unfold argP at hp
        unfold clash at hcl
        split at hp
        · rename_i k xs k' ys g1 g2
          rw [g1, g2] at hcl
          simp at hcl
          subst hcl
          have hsm := args_same hL hV g1 g2 (by rw [e1, e2, hvxy])
          obtain ⟨i, hi⟩ := List.getElem?_of_mem hp
          rw [List.getElem?_zip_eq_some] at hi
          have q1 : (xs.map V)[i]? = some (V p.1) := by rw [List.getElem?_map, hi.1]; rfl
          have q2 : (ys.map V)[i]? = some (V p.2) := by rw [List.getElem?_map, hi.2]; rfl
          rw [hsm, q2] at q1
          exact (Option.some.inj q1).symm
        · cases hp

/-- What a class becomes. -/
inductive TmC (L : List Nd) (root face : Nat → Nat) : Nat → List Int → Prop
  | var {c : Nat} {n : Int} (h : L[face c]? = some (Nd.var n)) : TmC L root face c [-1 - n]
  | app {c : Nat} {s : Int} {xs : List Nat} {ts : List (List Int)} (h : L[face c]? = some (Nd.app s xs)) (hl : ts.length = xs.length) (ht : ∀ (k x : Nat) (t : List Int), xs[k]? = some x → ts[k]? = some t → TmC L root face (root x) t) : TmC L root face c (s :: ts.flatten)

theorem tmC_one {L : List Nd} {root face : Nat → Nat} {c : Nat} {t : List Int} (h : TmC L root face c t) : ∀ t', TmC L root face c t' → t = t' := by
  induction h with
  | var h =>
    intro t' h'
    cases h' with
    | var h' => rw [h] at h'; cases h'; rfl
    | app h' _ _ => rw [h] at h'; cases h'
  | app h hl ht ih =>
    intro t' h'
    cases h' with
    | var h' => rw [h] at h'; cases h'
    | app h' hl' ht' =>
      rw [h] at h'
      cases h'
      rename_i xs ts ts'
      have e : ts = ts' := by
        apply List.ext_getElem (by omega)
        intro k h1 h2
        have hx : xs[k]? = some xs[k] := List.getElem?_eq_getElem (by omega)
        exact ih k _ _ hx (List.getElem?_eq_getElem h1) _ (ht' k _ _ hx (List.getElem?_eq_getElem h2))
      rw [e]

theorem tmC_right {sig : List Sy} (ha : ArOk sig) {L : List Nd} (hL : NdOk sig L) {root face : Nat → Nat} {c : Nat} {t : List Int} (h : TmC L root face c t) : rowE sig t = 0 := by
  induction h with
  | var h =>
    have := hL.num _ _ h
    exact row_var (by omega) (by omega)
  | app h hl ht ih =>
    obtain ⟨h0, h1, h2⟩ := hL.sym _ _ _ h
    refine row_parts ha h0 h1 (by omega) (fun u hu => ?_)
    obtain ⟨k, hk⟩ := List.getElem?_of_mem hu
    have hkl := (List.getElem?_eq_some_iff.1 hk).1
    exact ih k _ u (List.getElem?_eq_getElem (by omega)) hk

/-- A node below another one. -/
inductive Bel (L : List Nd) : Nat → Nat → Prop
  | here (r : Nat) : Bel L r r
  | arg {r x : Nat} {s : Int} {xs : List Nat} {y : Nat} (h : Bel L r x) (hx : L[x]? = some (Nd.app s xs)) (hy : y ∈ xs) : Bel L r y

/-- All that is joined: applications of one class have one symbol, and their arguments are in one class. -/
def Closed (L : List Nd) (root face : Nat → Nat) : Prop := ∀ (i : Nat) (c : Int) (xs xs' : List Nat), L[i]? = some (Nd.app c xs) → L[face (root i)]? = some (Nd.app c xs') → ∀ (k x x' : Nat), xs[k]? = some x → xs'[k]? = some x' → root x = root x'

theorem closed_of {L : List Nd} {root face : Nat → Nat} (h : ClWait L root face []) : Closed L root face := fun i c xs xs' h1 h2 k x x' h3 h4 => (h i c xs xs' h1 h2 k x x' h3 h4).none

/-- Whatever stands below a node whose class becomes a term is in such a class. -/
theorem bel_tm {sig : List Sy} {L : List Nd} (hL : NdOk sig L) {root face : Nat → Nat} (hc : ClOk L root face) (hcl : Closed L root face) {r x : Nat} (h : Bel L r x) (ht : ∃ t, TmC L root face (root r) t) : ∃ t, TmC L root face (root x) t := by
  induction h with
  | here => exact ht
  | arg h hx hy ih =>
    rename_i x s xs y
    obtain ⟨t, ht⟩ := ih
    obtain ⟨xs', hx'⟩ := hc.app x s xs hx
    cases ht with
    | var h9 => rw [hx'] at h9; cases h9
    | app h9 hl ht9 =>
      rename_i s' zs ts
      rw [hx'] at h9
      cases h9
      obtain ⟨k, hk⟩ := List.getElem?_of_mem hy
      have e1 := (hL.sym x s xs hx).2.2
      have e2 := (hL.sym _ s xs' hx').2.2
      have hkl := (List.getElem?_eq_some_iff.1 hk).1
      have hk' : xs'[k]? = some xs'[k] := List.getElem?_eq_getElem (by omega)
      have h7 := hcl x s xs xs' hx hx' k y _ hk hk'
      rw [h7]
      exact ⟨_, ht9 k _ _ hk' (List.getElem?_eq_getElem (by omega))⟩

/-- What nodes become by their classes. -/
noncomputable def vC (L : List Nd) (root face : Nat → Nat) (i : Nat) : List Int := @dite _ (∃ t, TmC L root face (root i) t) (Classical.propDecidable _) (fun h => Classical.choose h) (fun _ => [])

theorem vC_eq {L : List Nd} {root face : Nat → Nat} {i : Nat} {t : List Int} (h : TmC L root face (root i) t) : vC L root face i = t := by
  have h9 : ∃ t, TmC L root face (root i) t := ⟨t, h⟩
  unfold vC
  rw [dif_pos h9]
  exact tmC_one (Classical.choose_spec h9) t h

theorem map_of {α β : Type} {f : α → β} {xs : List α} {ys : List β} (hl : ys.length = xs.length) (h : ∀ (k : Nat) (x : α) (y : β), xs[k]? = some x → ys[k]? = some y → f x = y) : xs.map f = ys := by
  apply List.ext_getElem (by rw [List.length_map]; omega)
  intro k h1 h2
  rw [List.length_map] at h1
  rw [List.getElem_map]
  exact h k _ _ (List.getElem?_eq_getElem h1) (List.getElem?_eq_getElem h2)

/-- That is a valuation. -/
theorem vC_val {sig : List Sy} (ha : ArOk sig) {L : List Nd} (hL : NdOk sig L) {root face : Nat → Nat} (hc : ClOk L root face) (hcl : Closed L root face) (hT : ∀ i, i < L.length → ∃ t, TmC L root face (root i) t) : Val sig L (vC L root face) := fun i hi => by
  obtain ⟨t, ht⟩ := hT i hi
  rw [vC_eq ht]
  refine ⟨tmC_right ha hL ht, fun s xs hx => ?_⟩
  obtain ⟨xs', hx'⟩ := hc.app i s xs hx
  cases ht with
  | var h9 => rw [hx'] at h9; cases h9
  | app h9 hl ht9 =>
    rename_i s' zs ts
    rw [hx'] at h9
    cases h9
    congr 1
    have e1 := (hL.sym i s xs hx).2.2
    have e2 := (hL.sym _ s xs' hx').2.2
    have e : xs.map (vC L root face) = ts := map_of (by omega) (fun k x y h1 h2 => by
      have hkl := (List.getElem?_eq_some_iff.1 h1).1
      have hk' : xs'[k]? = some xs'[k] := List.getElem?_eq_getElem (by omega)
      have h7 := hcl i s xs xs' hx hx' k x _ h1 hk'
      exact vC_eq (by rw [h7]; exact ht9 k _ _ hk' h2))
    rw [e]

theorem vC_slv {L : List Nd} {root face : Nat → Nat} (hc : ClOk L root face) : Slv L.length root (vC L root face) := fun i hi => by
  unfold vC
  rw [hc.idem i hi]

/-- What a valuation makes of variables. -/
noncomputable def gV (L : List Nd) (V : Nat → List Int) (n : Int) : Option (List Int) := @dite _ (∃ i, L[i]? = some (Nd.var n)) (Classical.propDecidable _) (fun h => some (V (Classical.choose h))) (fun _ => none)

theorem gV_eq {sig : List Sy} {L : List Nd} (hL : NdOk sig L) {V : Nat → List Int} {i : Nat} {n : Int} (h : L[i]? = some (Nd.var n)) : gV L V n = some (V i) := by
  have h9 : ∃ i, L[i]? = some (Nd.var n) := ⟨i, h⟩
  unfold gV
  rw [dif_pos h9, hL.once _ i n (Classical.choose_spec h9) h]

theorem laid_flat (g : Int → Option (List Int)) : ∀ ts : List (List Int), laidL g ts.flatten = (ts.map (laidL g)).flatten
  | [] => rfl
  | t :: ts => by rw [List.flatten_cons, laidL_app, laid_flat g ts, List.map_cons, List.flatten_cons]

/-- Whatever solves is made of what the classes become. -/
theorem slv_laid {sig : List Sy} {L : List Nd} (hL : NdOk sig L) {root face : Nat → Nat} (hc : ClOk L root face) {V : Nat → List Int} (hV : Val sig L V) (hs : Slv L.length root V) {c : Nat} {t : List Int} (h : TmC L root face c t) (hcl : c < L.length) (hrc : root c = c) : V c = laidL (gV L V) t := by
  have key : ∀ c, c < L.length → root c = c → V c = V (face c) := fun c h1 h2 => by
    have h3 := hc.face_lt c h1
    have h4 := hc.face_in c h1
    rw [h2] at h3 h4
    rw [hs (face c) h3, h4]
  induction h with
  | var h =>
    rw [key _ hcl hrc, laidL_cons]
    unfold piece
    have := hL.num _ _ h
    rw [if_pos (by omega), show -1 - (-1 - _) = _ from Int.sub_sub_self _ _, gV_eq hL h]
    simp [laidL]
  | app h hl ht ih =>
    rename_i c s xs ts
    obtain ⟨h0, h1, h2⟩ := hL.sym _ _ _ h
    have hfl := (List.getElem?_eq_some_iff.1 h).1
    rw [key _ hcl hrc, (hV _ hfl).2 s xs h, laidL_cons, laid_flat]
    unfold piece
    rw [if_neg h0]
    have e : xs.map V = ts.map (laidL (gV L V)) := map_of (by rw [List.length_map]; omega) (fun k x y h3 h4 => by
      rw [List.getElem?_map] at h4
      cases h5 : ts[k]? with
      | none => rw [h5] at h4; cases h4
      | some u =>
        rw [h5] at h4
        cases h4
        have hxl := Nat.lt_trans (hL.ahead _ _ _ h x (List.mem_of_getElem? h3)) hfl
        rw [hs x hxl]
        exact ih k x u h3 h5 (hc.lt x hxl) (hc.idem x hxl))
    rw [e]
    rfl

/-- A class and one of its face's arguments. -/
def Pt (L : List Nd) (root face : Nat → Nat) (c d : Nat) : Prop := ∃ (s : Int) (xs : List Nat) (x : Nat), L[face c]? = some (Nd.app s xs) ∧ x ∈ xs ∧ root x = d

/-- What solves makes parts shorter. -/
theorem pt_short {sig : List Sy} {L : List Nd} (hL : NdOk sig L) {root face : Nat → Nat} (hc : ClOk L root face) {V : Nat → List Int} (hV : Val sig L V) (hs : Slv L.length root V) {c d : Nat} (h : Pt L root face c d) (hcl : c < L.length) (hrc : root c = c) : (V d).length < (V c).length ∧ d < L.length ∧ root d = d := by
  obtain ⟨s, xs, x, h1, h2, rfl⟩ := h
  have hfl := (List.getElem?_eq_some_iff.1 h1).1
  have hxl := Nat.lt_trans (hL.ahead _ _ _ h1 x h2) hfl
  have h3 := hc.face_lt c hcl
  have h4 := hc.face_in c hcl
  rw [hrc] at h3 h4
  have e1 : V c = V (face c) := by rw [hs (face c) h3, h4]
  rw [e1, (hV _ hfl).2 s xs h1, ← hs x hxl, List.length_cons]
  have h5 : (V x).length ≤ ((xs.map V).flatten).length := by
    obtain ⟨p, q, rfl⟩ := List.append_of_mem h2
    rw [List.map_append, List.map_cons, List.flatten_append, List.flatten_cons, List.length_append, List.length_append]
    omega
  exact ⟨by omega, hc.lt x hxl, hc.idem x hxl⟩

/-- Reached by parts. -/
inductive Rch (L : List Nd) (root face : Nat → Nat) : Nat → Nat → Prop
  | one {c d : Nat} (h : Pt L root face c d) : Rch L root face c d
  | more {c d e : Nat} (h : Rch L root face c d) (h' : Pt L root face d e) : Rch L root face c e

theorem rch_short {sig : List Sy} {L : List Nd} (hL : NdOk sig L) {root face : Nat → Nat} (hc : ClOk L root face) {V : Nat → List Int} (hV : Val sig L V) (hs : Slv L.length root V) {c d : Nat} (h : Rch L root face c d) (hcl : c < L.length) (hrc : root c = c) : (V d).length < (V c).length ∧ d < L.length ∧ root d = d := by
  induction h with
  | one h => exact pt_short hL hc hV hs h hcl hrc
  | more h h' ih =>
    obtain ⟨i1, i2, i3⟩ := ih
    obtain ⟨j1, j2, j3⟩ := pt_short hL hc hV hs h' i2 i3
    exact ⟨by omega, j2, j3⟩

/-- A class that is reached from itself: nothing solves. -/
theorem circle_none {sig : List Sy} {L : List Nd} (hL : NdOk sig L) {root face : Nat → Nat} (hc : ClOk L root face) {c : Nat} (h : Rch L root face c c) (hcl : c < L.length) (hrc : root c = c) {V : Nat → List Int} (hV : Val sig L V) : ¬ Slv L.length root V := fun hs => by
  have := (rch_short hL hc hV hs h hcl hrc).1
  omega

end Go.Proofs.YtelacmijkbgliaaDoor

/- The nodes and classes of package unify in memory. -/
namespace Go.Proofs.YtelacmijkbgliaaDoor
open Go.RowKit Go.Maps Go.BigFrame

theorem cell_block6 {w w' : World} {g : Nat} (h : w'.heap[g]? = w.heap[g]?) (k : Nat) : w'.cell? ⟨g, k, none⟩ = w.cell? ⟨g, k, none⟩ := by
  simp only [World.cell?, h]

/-- A node in memory: its block, and its class's. -/
structure Nm where
  blk : Nat
  cls : Nat
  nd : Nd

def ndV (m : Nm) : Value := match m.nd with
  | .var _ => .iface 74 (.pointer (some ⟨m.blk, 0, none⟩))
  | .app _ _ => .iface 94 (.pointer (some ⟨m.blk, 0, none⟩))

def ndI (M : List Nm) (i : Nat) : Value := ((M[i]?).map ndV).getD .nilIface

def clA (M : List Nm) (i : Nat) : Option Addr := (M[i]?).map fun m => ⟨m.cls, 0, none⟩

def clV (M : List Nm) (i : Nat) : Value := .pointer (clA M i)

def inV (M : List Nm) (o : Option Nat) : Value := .pointer (o.bind (clA M))

/-- A node's own cells. -/
def NdAt (w : World) (T : Nat) (M : List Nm) (m : Nm) : Prop := match m.nd with
  | .var n => w.heap[m.blk]? = some (.cells #[.int .i64 n, .pointer (some ⟨m.cls, 0, none⟩)] 106)
  | .app c xs => ∃ ao cap, w.heap[m.blk]? = some (.cells #[.int .i64 c, .slice ao xs.length cap, .pointer (some ⟨m.cls, 0, none⟩)] 109) ∧ xs.length ≤ cap ∧ cap ≤ maxLen ∧ (xs = [] ∨ ∃ g off, ao = some ⟨g, off, none⟩ ∧ g < T ∧ (∀ m' ∈ M, m'.cls ≠ g) ∧ ∀ (k x : Nat), xs[k]? = some x → w.cell? ⟨g, off + k, none⟩ = some (ndI M x))

/-- A class's own cells. -/
def ClAt (w : World) (M : List Nm) (b : Nat) (o : Option Nat) (f : Nat) (n : Int) : Prop := ∃ k : Int, w.heap[b]? = some (.cells #[inV M o, .int .i64 k, ndI M f, .int .i64 n] 76)

/-- The nodes and their classes. -/
structure Bd6 (w : World) (B T : Nat) (M : List Nm) (into : Nat → Option Nat) (face : Nat → Nat) (cnt : Nat → Int) : Prop where
  inj : ∀ (i j : Nat) (m m' : Nm), M[i]? = some m → M[j]? = some m' → m.cls = m'.cls → i = j
  low : ∀ m ∈ M, (B ≤ m.cls ∧ m.cls < T) ∧ B ≤ m.blk ∧ m.blk < T
  apart : ∀ m ∈ M, ∀ m' ∈ M, m'.cls ≠ m.blk
  nds : ∀ m ∈ M, NdAt w T M m
  cls : ∀ (i : Nat) (m : Nm), M[i]? = some m → ClAt w M m.cls (into i) (face i) (cnt i)

/-- All but the classes' blocks is as it was. -/
structure Ch6 (M : List Nm) (w w' : World) : Prop where
  os : w'.os = w.os
  tape : w'.tape = w.tape
  output : w'.output = w.output
  size : w.heap.size ≤ w'.heap.size
  block : ∀ b, b < w.heap.size → (∀ m ∈ M, m.cls ≠ b) → w'.heap[b]? = w.heap[b]?

theorem Ch6.refl (M : List Nm) (w : World) : Ch6 M w w := ⟨rfl, rfl, rfl, Nat.le_refl _, fun _ _ _ => rfl⟩

theorem Ch6.trans {M : List Nm} {a b c : World} (h : Ch6 M a b) (k : Ch6 M b c) : Ch6 M a c :=
  ⟨k.os.trans h.os, k.tape.trans h.tape, k.output.trans h.output, Nat.le_trans h.size k.size, fun i hi hm => (k.block i (Nat.lt_of_lt_of_le hi h.size) hm).trans (h.block i hi hm)⟩

theorem Ch6.of_below {M : List Nm} {w w' : World} (h : Below w.heap.size w w') : Ch6 M w w' := ⟨h.os, h.tape, h.output, h.size, fun b hb _ => h.block b hb⟩

theorem Ch6.cell {M : List Nm} {w w' : World} (h : Ch6 M w w') {g o : Nat} {v : Value} (hg : ∀ m ∈ M, m.cls ≠ g) (hc : w.cell? ⟨g, o, none⟩ = some v) : w'.cell? ⟨g, o, none⟩ = some v :=
  (cell_block6 (h.block g (World.block_lt_of_cell? _ _ hc) hg) o).trans hc

theorem Ch6.below {M : List Nm} {w w' w0 : World} {B : Nat} (h : Ch6 M w w') (hl : ∀ m ∈ M, B ≤ m.cls) (hB : B ≤ w.heap.size) (hb : Below B w0 w) : Below B w0 w' :=
  ⟨h.os.trans hb.os, h.tape.trans hb.tape, h.output.trans hb.output, Nat.le_trans hb.size h.size, fun k hk => (h.block k (by omega) (fun m hm e => by have := hl m hm; omega)).trans (hb.block k hk)⟩

theorem NdAt.ch {w w' : World} {T : Nat} {M : List Nm} {m : Nm} (h : NdAt w T M m) (hc : Ch6 M w w') (ha : ∀ m' ∈ M, m'.cls ≠ m.blk) : NdAt w' T M m := by
  unfold NdAt at h ⊢
  split
  · rename_i n hn
    rw [hn] at h
    simp only at h
    exact (hc.block _ (Array.getElem?_eq_some_iff.1 h).1 ha).trans h
  · rename_i c xs hn
    rw [hn] at h
    simp only at h
    obtain ⟨ao, cap, h1, h2, h3, h4⟩ := h
    refine ⟨ao, cap, (hc.block _ (Array.getElem?_eq_some_iff.1 h1).1 ha).trans h1, h2, h3, ?_⟩
    rcases h4 with h4 | ⟨g, off, e, hgT, hg, hx⟩
    · exact .inl h4
    · exact .inr ⟨g, off, e, hgT, hg, fun k x hk => hc.cell hg (hx k x hk)⟩

theorem Bd6.ch {w w' : World} {B T : Nat} {M : List Nm} {into into' : Nat → Option Nat} {face face' : Nat → Nat} {cnt cnt' : Nat → Int} (h : Bd6 w B T M into face cnt) (hc : Ch6 M w w') (hcl : ∀ (i : Nat) (m : Nm), M[i]? = some m → ClAt w' M m.cls (into' i) (face' i) (cnt' i)) : Bd6 w' B T M into' face' cnt' :=
  ⟨h.inj, h.low, h.apart, fun m hm => (h.nds m hm).ch hc (fun m' hm' => h.apart m hm m' hm'), hcl⟩

theorem Bd6.later {w w' : World} {B T : Nat} {M : List Nm} {into : Nat → Option Nat} {face : Nat → Nat} {cnt : Nat → Int} (h : Bd6 w B T M into face cnt) (hb : Below w.heap.size w w') : Bd6 w' B T M into face cnt :=
  h.ch (.of_below hb) fun i m hm => by
    obtain ⟨k, hk⟩ := h.cls i m hm
    exact ⟨k, (hb.block _ (Array.getElem?_eq_some_iff.1 hk).1).trans hk⟩

/-- What stands above the board may change. -/
theorem Bd6.keep {w w' : World} {B T : Nat} {M : List Nm} {into : Nat → Option Nat} {face : Nat → Nat} {cnt : Nat → Int} (h : Bd6 w B T M into face cnt) (hb : ∀ b, b < T → w'.heap[b]? = w.heap[b]?) : Bd6 w' B T M into face cnt := by
  refine ⟨h.inj, h.low, h.apart, fun m hm => ?_, fun i m hm => ?_⟩
  · have h1 := h.nds m hm
    have h2 := (h.low m hm).2.2
    unfold NdAt at h1 ⊢
    split
    · rename_i n hn
      rw [hn] at h1
      simp only at h1
      exact (hb _ h2).trans h1
    · rename_i c xs hn
      rw [hn] at h1
      simp only at h1
      obtain ⟨ao, cap, g1, g2, g3, g4⟩ := h1
      refine ⟨ao, cap, (hb _ h2).trans g1, g2, g3, ?_⟩
      rcases g4 with g4 | ⟨g, off, e, hgT, hg, hx⟩
      · exact .inl g4
      · exact .inr ⟨g, off, e, hgT, hg, fun k x hk => (cell_block6 (hb g hgT) _).trans (hx k x hk)⟩
  · obtain ⟨k, hk⟩ := h.cls i m hm
    exact ⟨k, (hb _ (h.low m (List.mem_of_getElem? hm)).1.2).trans hk⟩

/-- One class's block written. -/
theorem Bd6.put {w w' : World} {B T : Nat} {M : List Nm} {into : Nat → Option Nat} {face : Nat → Nat} {cnt : Nat → Int} (h : Bd6 w B T M into face cnt) {j : Nat} {mj : Nm} (hj : M[j]? = some mj) {o : Option Nat} {f : Nat} {n : Int} (hg : w.grownBy w' (some mj.cls)) (hn : ClAt w' M mj.cls o f n) :
    Bd6 w' B T M (fun i => if i = j then o else into i) (fun i => if i = j then f else face i) (fun i => if i = j then n else cnt i) ∧ Ch6 M w w' := by
  have hch : Ch6 M w w' := ⟨hg.os, hg.tape, hg.output, hg.size, fun b hb hm => hg.block b hb (fun e => hm mj (List.mem_of_getElem? hj) (by cases e; rfl))⟩
  refine ⟨h.ch hch fun i m hm => ?_, hch⟩
  by_cases e : i = j
  · subst e
    rw [hm] at hj
    cases hj
    simp only [if_true]
    exact hn
  · simp only [if_neg e]
    obtain ⟨k, hk⟩ := h.cls i m hm
    exact ⟨k, (hg.block _ (Array.getElem?_eq_some_iff.1 hk).1 (fun e9 => e (h.inj i j m mj hm hj (Option.some.inj e9)))).trans hk⟩

/-- The ways to the classes' roots: each step goes to a greater rank. -/
def Fr6 (n : Nat) (into : Nat → Option Nat) (root rk : Nat → Nat) : Prop := ∀ i, i < n → (into i = none → root i = i) ∧ ∀ j, into i = some j → j < n ∧ rk i < rk j ∧ root j = root i

theorem rk_most (rk : Nat → Nat) : ∀ n i, i < n → rk i ≤ ((List.range n).map rk).sum
  | 0, i, h => by omega
  | n + 1, i, h => by
    rw [List.range_succ, List.map_append, List.sum_append]
    by_cases e : i = n
    · subst e
      simp
    · have := rk_most rk n i (by omega)
      omega

theorem Fr6.halve {n : Nat} {into : Nat → Option Nat} {root rk : Nat → Nat} (h : Fr6 n into root rk) {j k l : Nat} (hj : j < n) (h1 : into j = some k) (h2 : into k = some l) : Fr6 n (fun i => if i = j then some l else into i) root rk := fun i hi => by
  by_cases e : i = j
  · subst e
    simp only [if_true]
    obtain ⟨a1, a2, a3⟩ := (h i hi).2 k h1
    obtain ⟨b1, b2, b3⟩ := (h k a1).2 l h2
    exact ⟨fun h9 => (by cases h9), fun x hx => (by cases hx; exact ⟨b1, by omega, by rw [b3, a3]⟩)⟩
  · simp only [if_neg e]
    exact h i hi

theorem clA_eq {M : List Nm} {i : Nat} {m : Nm} (h : M[i]? = some m) : clA M i = some ⟨m.cls, 0, none⟩ := by unfold clA; rw [h]; rfl

theorem clV_eq {M : List Nm} {i : Nat} {m : Nm} (h : M[i]? = some m) : clV M i = .pointer (some ⟨m.cls, 0, none⟩) := by unfold clV; rw [clA_eq h]

theorem inV_some {M : List Nm} {i : Nat} {m : Nm} (h : M[i]? = some m) : inV M (some i) = .pointer (some ⟨m.cls, 0, none⟩) := by unfold inV; rw [show (some i).bind (clA M) = clA M i from rfl, clA_eq h]

theorem inV_none (M : List Nm) : inV M none = .pointer none := rfl

theorem if_self6 {α : Type} {f : Nat → α} {j : Nat} : (fun i => if i = j then f j else f i) = f := by
  funext i
  by_cases e : i = j
  · rw [if_pos e, e]
  · rw [if_neg e]

set_option maxRecDepth 100000 in
set_option maxHeartbeats 1600000 in
/-- The whole class. -/
theorem whole_any {w : World} {B T : Nat} {M : List Nm} {into : Nat → Option Nat} {face : Nat → Nat} {cnt : Nat → Int} {root rk : Nat → Nat} (hb : Bd6 w B T M into face cnt) (hf : Fr6 M.length into root rk) {i : Nat} (hi : i < M.length) :
    Calls Tryd.prog 69 #[clV M i] w fun e w' => ∃ into', e = .returned (clV M (root i)) ∧ root i < M.length ∧ Bd6 w' B T M into' face cnt ∧ Fr6 M.length into' root rk ∧ Ch6 M w w' := by
  obtain ⟨mi, hmi⟩ : ∃ m, M[i]? = some m := ⟨_, List.getElem?_eq_getElem hi⟩
  rw [clV_eq hmi]
  have HB := hid hb
  have HF := hid hf
  have HMi := hid hmi
  clear hb hf hmi
  go_enter Tryd.func69, Tryd.ntmps69
  go_wp2
  go_loopg [0] (((List.range M.length).map rk).sum) (fun g v wr => ∃ (j : Nat) (mj : Nm) (into' : Nat → Option Nat), v = .pointer (some ⟨mj.cls, 0, none⟩) ∧ M[j]? = some mj ∧ root j = root i ∧ ((List.range M.length).map rk).sum - rk j ≤ g ∧ Bd6 wr B T M into' face cnt ∧ Fr6 M.length into' root rk ∧ Ch6 M w wr)
  case atStart => exact ⟨i, mi, into, rfl, HMi.out, rfl, by omega, HB.out, HF.out, Ch6.refl _ _⟩
  case round =>
    obtain ⟨j, mj, into', rfl, hmj, hrj, hg, hb', hf', hch⟩ := hrel
    have hjl := (List.getElem?_eq_some_iff.1 hmj).1
    have HMj := hid hmj
    have HRj := hid hrj
    have HG := hid hg
    have HB' := hid hb'
    have HF' := hid hf'
    have HC := hid hch
    obtain ⟨kj, hkj⟩ := hb'.cls j mj hmj
    have hmost := rk_most rk M.length
    have HMo := hid hmost
    cases hin : into' j with
    | none =>
      rw [hin, inV_none] at hkj
      have x0 := cell_of_row _ _ 0 _ _ _ hkj
      simp only [List.getElem?_toArray, List.getElem?_cons_zero] at x0
      have HE : Hid (root i = j) := by
        show _ = _
        rw [← hrj]
        exact (hf' j hjl).1 hin
      clear hmj hrj hg hb' hf' hch hkj hmost hin
      go_wp2
      go_ret
      refine ⟨into', ?_, by rw [HE.out]; exact hjl, HB'.out, HF'.out, HC.out⟩
      rw [HE.out, clV_eq HMj.out]
      rfl
    | some k =>
      obtain ⟨f1, f2, f3⟩ := (hf' j hjl).2 k hin
      obtain ⟨mk, hmk⟩ : ∃ m, M[k]? = some m := ⟨_, List.getElem?_eq_getElem f1⟩
      obtain ⟨kk, hkk⟩ := hb'.cls k mk hmk
      rw [hin, inV_some hmk] at hkj
      have HKj := hid hkj
      have x0 := cell_of_row _ _ 0 _ _ _ hkj
      have z0 : wr.frozen? ⟨mj.cls, 0, none⟩ = false := frozen_of_row _ _ _ _ _ hkj
      simp only [List.getElem?_toArray, List.getElem?_cons_zero] at x0
      have HMk := hid hmk
      cases hin2 : into' k with
      | none =>
        rw [hin2, inV_none] at hkk
        have y0 := cell_of_row _ _ 0 _ _ _ hkk
        simp only [List.getElem?_toArray, List.getElem?_cons_zero] at y0
        have HR2 : Hid (root k = root i ∧ rk j < rk k) := ⟨f3.trans hrj, f2⟩
        clear hmj hrj hg hb' hf' hch hkj hkk hmost hin hin2 hmk f2 f3 z0
        go_wp2
        go_roundg (((List.range M.length).map rk).sum - rk k)
        case measure => have := HR2.out.2; have := HMo.out k f1; have := HG.out; omega
        case rel => exact ⟨k, mk, into', rfl, HMk.out, HR2.out.1, Nat.le_refl _, HB'.out, HF'.out, HC.out⟩
      | some l =>
        obtain ⟨g1, g2, g3⟩ := (hf' k f1).2 l hin2
        obtain ⟨ml, hml⟩ : ∃ m, M[l]? = some m := ⟨_, List.getElem?_eq_getElem g1⟩
        rw [hin2, inV_some hml] at hkk
        have y0 := cell_of_row _ _ 0 _ _ _ hkk
        simp only [List.getElem?_toArray, List.getElem?_cons_zero] at y0
        have HR2 : Hid (root l = root i ∧ rk j < rk l) := ⟨(g3.trans f3).trans hrj, by show _ < _; omega⟩
        obtain ⟨W, hW⟩ : ∃ X, X = wr.setCell ⟨mj.cls, 0, none⟩ (.pointer (some ⟨ml.cls, 0, none⟩)) := ⟨_, rfl⟩
        have hblk : W.heap[mj.cls]? = some (.cells #[.pointer (some ⟨ml.cls, 0, none⟩), .int .i64 kj, ndI M (face j), .int .i64 (cnt j)] 76) := by
          rw [hW]
          exact heap_setCell_same _ _ _ _ _ _ hkj
        obtain ⟨hbn, hcn⟩ := hb'.put hmj (o := some l) (f := face j) (n := cnt j) (w' := W) (by rw [hW]; exact set_grown _ _ _ _) ⟨kj, by rw [inV_some hml]; exact hblk⟩
        rw [if_self6, if_self6] at hbn
        have HBn := hid hbn
        have HCn := hid (hch.trans hcn)
        have HFn := hid (hf'.halve hjl hin hin2)
        have HMl := hid hml
        have q0 := cell_of_row _ _ 0 _ _ _ hblk
        simp only [List.getElem?_toArray, List.getElem?_cons_zero] at q0
        clear hmj hrj hg hb' hf' hch hkj hkk hmost hin hin2 hmk f2 f3 g2 g3 hml hbn hcn hblk
        go_upto_region 4 with fail
        rw [← hW]
        clear hW x0 y0 z0
        go_wp2
        go_roundg (((List.range M.length).map rk).sum - rk l)
        case measure => have := HR2.out.2; have := HMo.out l g1; have := HG.out; omega
        case rel => exact ⟨l, ml, _, rfl, HMl.out, HR2.out.1, Nat.le_refl _, HBn.out, HFn.out, HCn.out⟩

end Go.Proofs.YtelacmijkbgliaaDoor

/- Small functions of package unify walked. -/
namespace Go.Proofs.YtelacmijkbgliaaDoor
open Go.RowKit Go.Maps Go.BigFrame

theorem under_uvar : Tryd.prog.underlying 74 = some (.pointer 106) := by kernel_rfl

theorem under_uapp : Tryd.prog.underlying 94 = some (.pointer 109) := by kernel_rfl

theorem zero_uvar : (Tryd.prog.info? 74).map (·.zero) = some (some (.pointer none)) := by kernel_rfl

theorem as_uvar (v : Value) (xT : TypeId) (w : World) : (Instr.typeAssert (.iface 74 v) xT 74 true).run Tryd.prog w = .ok (.tuple #[v, .bool true]) w := by
  simp [Instr.typeAssert, run_underlying under_uvar, go_sem, Result.andThen]

theorem as_uapp (v : Value) (xT : TypeId) (w : World) : (Instr.typeAssert (.iface 94 v) xT 94 false).run Tryd.prog w = .ok v w := by
  simp [Instr.typeAssert, run_underlying under_uapp, go_sem, Result.andThen]

theorem as_unot (v : Value) (xT : TypeId) (w : World) : (Instr.typeAssert (.iface 94 v) xT 74 true).run Tryd.prog w = .ok (.tuple #[.pointer none, .bool false]) w := by
  obtain ⟨i, hi, hz⟩ : ∃ i, Tryd.prog.info? 74 = some i ∧ i.zero = some (.pointer none) := by
    have h := zero_uvar
    cases hi : Tryd.prog.info? 74 with
    | none => rw [hi] at h; cases h
    | some i => rw [hi] at h; exact ⟨i, rfl, by simpa using h⟩
  simp [Instr.typeAssert, run_underlying under_uvar, go_sem, Result.andThen, zeroValue, typeInfo, hi, hz]

theorem ndI_eq {M : List Nm} {i : Nat} {m : Nm} (h : M[i]? = some m) : ndI M i = ndV m := by unfold ndI; rw [h]; rfl

theorem ndI_var {M : List Nm} {i : Nat} {m : Nm} {n : Int} (h : M[i]? = some m) (hn : m.nd = .var n) : ndI M i = .iface 74 (.pointer (some ⟨m.blk, 0, none⟩)) := by
  rw [ndI_eq h]
  unfold ndV
  rw [hn]

theorem ndI_app {M : List Nm} {i : Nat} {m : Nm} {c : Int} {xs : List Nat} (h : M[i]? = some m) (hn : m.nd = .app c xs) : ndI M i = .iface 94 (.pointer (some ⟨m.blk, 0, none⟩)) := by
  rw [ndI_eq h]
  unfold ndV
  rw [hn]

theorem Bd6.var {w : World} {B T : Nat} {M : List Nm} {into : Nat → Option Nat} {face : Nat → Nat} {cnt : Nat → Int} (h : Bd6 w B T M into face cnt) {i : Nat} {m : Nm} {n : Int} (hm : M[i]? = some m) (hn : m.nd = .var n) : w.cell? ⟨m.blk, 0, none⟩ = some (.int .i64 n) ∧ w.cell? ⟨m.blk, 1, none⟩ = some (.pointer (some ⟨m.cls, 0, none⟩)) := by
  have h1 := h.nds m (List.mem_of_getElem? hm)
  unfold NdAt at h1
  rw [hn] at h1
  exact ⟨cell_of_row _ _ _ _ _ _ h1, cell_of_row _ _ _ _ _ _ h1⟩

theorem Bd6.app {w : World} {B T : Nat} {M : List Nm} {into : Nat → Option Nat} {face : Nat → Nat} {cnt : Nat → Int} (h : Bd6 w B T M into face cnt) {i : Nat} {m : Nm} {c : Int} {xs : List Nat} (hm : M[i]? = some m) (hn : m.nd = .app c xs) : ∃ ao cap, (w.cell? ⟨m.blk, 0, none⟩ = some (.int .i64 c) ∧ w.cell? ⟨m.blk, 1, none⟩ = some (.slice ao xs.length cap) ∧ w.cell? ⟨m.blk, 2, none⟩ = some (.pointer (some ⟨m.cls, 0, none⟩))) ∧ xs.length ≤ cap ∧ cap ≤ maxLen ∧ (xs = [] ∨ ∃ g off, ao = some ⟨g, off, none⟩ ∧ g < T ∧ (∀ m' ∈ M, m'.cls ≠ g) ∧ ∀ (k x : Nat), xs[k]? = some x → w.cell? ⟨g, off + k, none⟩ = some (ndI M x)) := by
  have h1 := h.nds m (List.mem_of_getElem? hm)
  unfold NdAt at h1
  rw [hn] at h1
  obtain ⟨ao, cap, h2, h3⟩ := h1
  exact ⟨ao, cap, ⟨cell_of_row _ _ _ _ _ _ h2, cell_of_row _ _ _ _ _ _ h2, cell_of_row _ _ _ _ _ _ h2⟩, h3⟩

theorem Bd6.clc {w : World} {B T : Nat} {M : List Nm} {into : Nat → Option Nat} {face : Nat → Nat} {cnt : Nat → Int} (h : Bd6 w B T M into face cnt) {i : Nat} {m : Nm} (hm : M[i]? = some m) : ∃ k : Int, w.heap[m.cls]? = some (.cells #[inV M (into i), .int .i64 k, ndI M (face i), .int .i64 (cnt i)] 76) ∧ w.cell? ⟨m.cls, 0, none⟩ = some (inV M (into i)) ∧ w.cell? ⟨m.cls, 1, none⟩ = some (.int .i64 k) ∧ w.cell? ⟨m.cls, 2, none⟩ = some (ndI M (face i)) ∧ w.cell? ⟨m.cls, 3, none⟩ = some (.int .i64 (cnt i)) := by
  obtain ⟨k, hk⟩ := h.cls i m hm
  exact ⟨k, hk, cell_of_row _ _ _ _ _ _ hk, cell_of_row _ _ _ _ _ _ hk, cell_of_row _ _ _ _ _ _ hk, cell_of_row _ _ _ _ _ _ hk⟩

/-- Whether a node is a variable. -/
def isVarN (M : List Nm) (i : Nat) : Bool := match (M[i]?).map Nm.nd with | some (.var _) => true | _ => false

set_option maxRecDepth 100000 in
theorem uIsVar_any (w : World) {M : List Nm} {i : Nat} (hi : i < M.length) :
    Calls Tryd.prog 80 #[ndI M i] w fun e w' => e = .returned (.bool (isVarN M i)) ∧ w' = w := by
  obtain ⟨m, hm⟩ : ∃ m, M[i]? = some m := ⟨_, List.getElem?_eq_getElem hi⟩
  cases hn : m.nd with
  | var n =>
    have hv : isVarN M i = true := by unfold isVarN; rw [hm]; simp [hn]
    rw [ndI_var hm hn, hv]
    have ha := as_uvar (.pointer (some ⟨m.blk, 0, none⟩))
    clear hm hn hv hi
    go_enter Tryd.func80, Tryd.ntmps80
    go_wp2
    go_ret
    exact ⟨rfl, rfl⟩
  | app c xs =>
    have hv : isVarN M i = false := by unfold isVarN; rw [hm]; simp [hn]
    rw [ndI_app hm hn, hv]
    have ha := as_unot (.pointer (some ⟨m.blk, 0, none⟩))
    clear hm hn hv hi
    go_enter Tryd.func80, Tryd.ntmps80
    go_wp2
    go_ret
    exact ⟨rfl, rfl⟩

set_option maxRecDepth 100000 in
theorem varClass_any {w : World} {B T : Nat} {M : List Nm} {into : Nat → Option Nat} {face : Nat → Nat} {cnt : Nat → Int} {root rk : Nat → Nat} (hb : Bd6 w B T M into face cnt) (hf : Fr6 M.length into root rk) {i : Nat} {m : Nm} {n : Int} (hm : M[i]? = some m) (hn : m.nd = .var n) :
    Calls Tryd.prog 42 #[.pointer (some ⟨m.blk, 0, none⟩)] w fun e w' => ∃ into', e = .returned (clV M (root i)) ∧ root i < M.length ∧ Bd6 w' B T M into' face cnt ∧ Fr6 M.length into' root rk ∧ Ch6 M w w' := by
  obtain ⟨x0, x1⟩ := hb.var hm hn
  have HW := hid (whole_any hb hf (List.getElem?_eq_some_iff.1 hm).1)
  rw [clV_eq hm] at HW
  clear hb hf hm hn x0
  go_enter Tryd.func42, Tryd.ntmps42
  go_wp2_with fail
  refine HW.out.mono ?_
  rintro e w1 ⟨into', rfl, h1, h2, h3, h4⟩
  have H := hid (And.intro h1 (And.intro h2 (And.intro h3 h4)))
  clear h1 h2 h3 h4 x1
  go_wp2
  go_ret
  exact ⟨into', rfl, H.out⟩

set_option maxRecDepth 100000 in
theorem appClass_any {w : World} {B T : Nat} {M : List Nm} {into : Nat → Option Nat} {face : Nat → Nat} {cnt : Nat → Int} {root rk : Nat → Nat} (hb : Bd6 w B T M into face cnt) (hf : Fr6 M.length into root rk) {i : Nat} {m : Nm} {c : Int} {xs : List Nat} (hm : M[i]? = some m) (hn : m.nd = .app c xs) :
    Calls Tryd.prog 129 #[.pointer (some ⟨m.blk, 0, none⟩)] w fun e w' => ∃ into', e = .returned (clV M (root i)) ∧ root i < M.length ∧ Bd6 w' B T M into' face cnt ∧ Fr6 M.length into' root rk ∧ Ch6 M w w' := by
  obtain ⟨ao, cap, ⟨_, _, x2⟩, _⟩ := hb.app hm hn
  have HW := hid (whole_any hb hf (List.getElem?_eq_some_iff.1 hm).1)
  rw [clV_eq hm] at HW
  clear hb hf hm hn
  go_enter Tryd.func129, Tryd.ntmps129
  go_wp2_with fail
  refine HW.out.mono ?_
  rintro e w1 ⟨into', rfl, h1, h2, h3, h4⟩
  have H := hid (And.intro h1 (And.intro h2 (And.intro h3 h4)))
  clear h1 h2 h3 h4 x2
  go_wp2
  go_ret
  exact ⟨into', rfl, H.out⟩

set_option maxRecDepth 100000 in
set_option maxHeartbeats 800000 in
theorem is_any {w : World} {B T : Nat} {M : List Nm} {into : Nat → Option Nat} {face : Nat → Nat} {cnt : Nat → Int} (hb : Bd6 w B T M into face cnt) {i : Nat} {m : Nm} (hm : M[i]? = some m) (hf : face i < M.length) (n : Int) :
    Calls Tryd.prog 43 #[.pointer (some ⟨m.cls, 0, none⟩), .int .i64 n] w fun e w' => e = .returned (.bool (match (M[face i]?).map Nm.nd with | some (.var k) => decide (k = n) | _ => false)) ∧ w' = w := by
  obtain ⟨k9, _, _, _, x2, _⟩ := hb.clc hm
  obtain ⟨mf, hmf⟩ : ∃ m, M[face i]? = some m := ⟨_, List.getElem?_eq_getElem hf⟩
  rw [hmf]
  simp only [Option.map_some]
  cases hn : mf.nd with
  | var k =>
    obtain ⟨y0, _⟩ := hb.var hmf hn
    rw [ndI_var hmf hn] at x2
    have ha := as_uvar (.pointer (some ⟨mf.blk, 0, none⟩))
    obtain ⟨D, hD⟩ : ∃ D, D = decide (k = n) := ⟨_, rfl⟩
    have hD2 : (k == n) = D := by rw [hD]; rfl
    simp only
    rw [← hD]
    clear hb hm hf hmf hn hD
    go_enter Tryd.func43, Tryd.ntmps43
    go_wp2
    go_ret
    exact ⟨rfl, rfl⟩
  | app c xs =>
    rw [ndI_app hmf hn] at x2
    have ha := as_unot (.pointer (some ⟨mf.blk, 0, none⟩))
    clear hb hm hf hmf hn
    go_enter Tryd.func43, Tryd.ntmps43
    go_wp2
    go_ret
    exact ⟨rfl, rfl⟩

set_option maxRecDepth 100000 in
set_option maxHeartbeats 1600000 in
theorem faceOf_any {w : World} {B T : Nat} {M : List Nm} {into : Nat → Option Nat} {face : Nat → Nat} {cnt : Nat → Int} (hb : Bd6 w B T M into face cnt) {a b : Nat} (ha : a < M.length) (hbl : b < M.length) :
    Calls Tryd.prog 81 #[ndI M a, ndI M b] w fun e w' => e = .returned (ndI M (faceN (M.map Nm.nd) a b)) ∧ ∃ n, w' = w.drewN n := by
  obtain ⟨ma, hma⟩ : ∃ m, M[a]? = some m := ⟨_, List.getElem?_eq_getElem ha⟩
  obtain ⟨mb, hmb⟩ : ∃ m, M[b]? = some m := ⟨_, List.getElem?_eq_getElem hbl⟩
  have eA : (M.map Nm.nd)[a]? = some ma.nd := by rw [List.getElem?_map, hma]; rfl
  have eB : (M.map Nm.nd)[b]? = some mb.nd := by rw [List.getElem?_map, hmb]; rfl
  obtain ⟨F, hF⟩ : ∃ F, F = faceN (M.map Nm.nd) a b := ⟨_, rfl⟩
  rw [← hF]
  unfold faceN at hF
  rw [eA, eB] at hF
  cases hna : ma.nd with
  | app c xs =>
    rw [hna] at hF
    simp only at hF
    subst hF
    have h1 := as_unot (.pointer (some ⟨ma.blk, 0, none⟩))
    rw [ndI_app hma hna]
    obtain ⟨vb, hvb⟩ : ∃ v, v = ndI M b := ⟨_, rfl⟩
    rw [← hvb]
    clear hb ha hbl hma hmb eA eB hna hvb
    go_enter Tryd.func81, Tryd.ntmps81
    go_wp2
    go_ret
    exact ⟨rfl, 0, rfl⟩
  | var n =>
    have h1 := as_uvar (.pointer (some ⟨ma.blk, 0, none⟩))
    obtain ⟨y0, _⟩ := hb.var hma hna
    cases hnb : mb.nd with
    | app c xs =>
      rw [hna, hnb] at hF
      simp only at hF
      subst hF
      have h2 := as_unot (.pointer (some ⟨mb.blk, 0, none⟩))
      rw [ndI_var hma hna, ndI_app hmb hnb]
      clear hb ha hbl hma hmb eA eB hna hnb
      go_enter Tryd.func81, Tryd.ntmps81
      go_wp2
      go_quiet (fail)
      go_wp2
      go_ret
      exact ⟨rfl, _, rfl⟩
    | var k =>
      rw [hna, hnb] at hF
      simp only at hF
      have h2 := as_uvar (.pointer (some ⟨mb.blk, 0, none⟩))
      obtain ⟨q0, _⟩ := hb.var hmb hnb
      by_cases hlt : n < k
      · rw [if_pos hlt] at hF
        subst hF
        have hd : decide (n < k) = true := decide_eq_true hlt
        rw [ndI_var hma hna, ndI_var hmb hnb]
        clear hb ha hbl hma hmb eA eB hna hnb
        go_enter Tryd.func81, Tryd.ntmps81
        go_wp2
        go_quiet (fail)
        go_wp2
        go_ret
        exact ⟨rfl, _, rfl⟩
      · rw [if_neg hlt] at hF
        subst hF
        have hd : decide (n < k) = false := decide_eq_false hlt
        rw [ndI_var hma hna, ndI_var hmb hnb]
        clear hb ha hbl hma hmb eA eB hna hnb
        go_enter Tryd.func81, Tryd.ntmps81
        go_wp2
        go_quiet (fail)
        go_wp2
        go_ret
        exact ⟨rfl, _, rfl⟩

end Go.Proofs.YtelacmijkbgliaaDoor

/- Rows of pairs and rows of classes of package unify. -/
namespace Go.Proofs.YtelacmijkbgliaaDoor
open Go.RowKit Go.Maps Go.BigFrame

theorem info_pair6 : (Tryd.prog.info? 97).map (fun i => (i.zero, i.size, i.bytes)) = some (some (.agg #[.nilIface, .nilIface]), 2, 32) := by kernel_rfl
theorem under_pairs6 : Tryd.prog.underlying 98 = some (.slice 97) := by kernel_rfl

/-- A row of pairs of one's own. -/
def OwP6 (w : World) (base : Nat) (v : Value) (xs : List (Value × Value)) : Prop := w.ownsRow base 97 2 v xs.length (prC xs)

/-- Pairs joined to a row of pairs. -/
theorem join_pairs6 (ty : TypeId) {w : World} {base : Nat} {x : Value} {xs ys : List (Value × Value)} {ao : Option Addr} {cap : Nat} (ho : OwP6 w base x xs) (hr : ys = [] ∨ ∃ g off, ao = some ⟨g, off, none⟩ ∧ ∀ (j : Nat) (u : Value), (prC ys)[j]? = some u → w.cell? ⟨g, off + j, none⟩ = some u)
    (h1 : ∀ u ∈ prC ys, u.oneCell' = true) (hb : base ≤ w.heap.size) (hl : (xs.length + ys.length) * 32 ≤ 140737488355328) :
    ∃ v' w', (Builtin.append_ #[98, 98] ty #[x, .slice ao ys.length cap]).run Tryd.prog w = .ok v' w' ∧ OwP6 w' base v' (xs ++ ys) ∧ w.grownBy w' x.ownBlock ∧ (v'.ownBlock = x.ownBlock ∨ v'.ownBlock = some w.heap.size) := by
  obtain ⟨i0, hi, hz0, hz1, hz2⟩ := info_parts info_pair6
  have hshape : ∃ bo bc, x = .slice bo xs.length bc ∧ xs.length ≤ bc := by
    rcases ho.2 with ⟨h8, h9⟩ | ⟨g8, c8, cur8, h8, _, _, h9, _⟩
    · exact ⟨none, 0, by rw [h8, h9], by omega⟩
    · exact ⟨_, c8, h8, h9⟩
  by_cases h0 : ys = []
  · subst h0
    obtain ⟨bo, bc, rfl, hbc⟩ := hshape
    refine ⟨_, w, run_append_nothing w 98 98 ty 97 i0 under_pairs6 hi _ xs.length bc hbc _ ?_, by rw [List.append_nil]; exact ho, World.grownBy.refl _ _, .inl rfl⟩
    cases ao with
    | none => exact Src.ofNil w under_pairs6 _
    | some a => exact Src.ofSlice w under_pairs6 a 0 _ [] (by simp) (fun j u hj => (by simp at hj)) (fun u hu => (by simp at hu))
  · obtain ⟨g, off, rfl, hc⟩ : ∃ g off, ao = some ⟨g, off, none⟩ ∧ ∀ (j : Nat) (u : Value), (prC ys)[j]? = some u → w.cell? ⟨g, off + j, none⟩ = some u := by
      rcases hr with hr | hr
      · exact absurd hr h0
      · exact hr
    obtain ⟨v', w', hr, g2, g3, _, g5⟩ := run_append_own_at (P := Tryd.prog) w base 98 ty 97 i0 _ 2 32 under_pairs6 hi hz0 hz1 hz2 rfl (by decide) x xs.length (prC xs) ho ⟨g, off, none⟩ ys.length cap (prC ys) (prC_len ys)
      (fun j u hj => by rw [Addr.add_lit]; exact hc j u hj) h1 (by unfold maxLen; omega) (by omega) hb
    refine ⟨v', w', hr, ?_, g3, g5⟩
    unfold OwP6
    rw [List.length_append, prC_app]
    exact g2

theorem own_cutP6 {w : World} {base : Nat} {ao : Option Addr} {cap k : Nat} {xs : List (Value × Value)} (h : OwP6 w base (.slice ao xs.length cap) xs) (hk : k ≤ xs.length) : OwP6 w base (.slice ao k cap) (xs.take k) := by
  have h1 := h.1
  have hl : (xs.take k).length = k := by rw [List.length_take]; omega
  unfold OwP6
  rw [hl]
  refine ⟨by rw [prC_len, hl], ?_⟩
  rcases h.2 with ⟨hv, hn⟩ | ⟨g, cp, cur, hv, hb, hg, hc, hm, hs, ht⟩
  · simp only [Value.slice.injEq] at hv
    obtain ⟨rfl, _, rfl⟩ := hv
    obtain rfl : k = 0 := by omega
    exact .inl ⟨rfl, rfl⟩
  · simp only [Value.slice.injEq] at hv
    obtain ⟨rfl, _, rfl⟩ := hv
    refine .inr ⟨g, cap, cur, rfl, hb, hg, by omega, hm, hs, ?_⟩
    have e1 : prC (xs.take k) = (prC xs).take (k * 2) := by
      have e2 : prC xs = prC (xs.take k) ++ prC (xs.drop k) := by rw [← prC_app, List.take_append_drop]
      have e3 : (prC (xs.take k)).length = k * 2 := by rw [prC_len, hl]
      rw [e2, ← e3, List.take_left]
    rw [e1, ← ht, List.take_take, Nat.min_eq_left (by omega)]

/-- The last one of a row of pairs. -/
theorem own_lastP6 {w : World} {base : Nat} {v : Value} {xs : List (Value × Value)} {k : Nat} {p : Value × Value} (h : OwP6 w base v xs) (hk : xs[k]? = some p) : ∃ g cap, v = .slice (some ⟨g, 0, none⟩) xs.length cap ∧ base ≤ g ∧ xs.length ≤ cap ∧ cap ≤ 9223372036854775807 ∧ w.cell? ⟨g, k * 2, none⟩ = some p.1 ∧ w.cell? ⟨g, k * 2 + 1, none⟩ = some p.2 := by
  have hkl := (List.getElem?_eq_some_iff.1 hk).1
  obtain ⟨c1, c2⟩ := prC_at xs k p hk
  have hlen := prC_len xs
  rcases h.2 with ⟨_, hn⟩ | ⟨g, cp, cur, hv, hb, hg, hc, hm, hs, ht⟩
  · omega
  · subst hv
    unfold maxLen at hm
    refine ⟨g, cp, rfl, hb, hc, by omega, ?_, ?_⟩
    · rw [World.ownsRow.cellAt h (k * 2) (by omega)]
      exact c1
    · rw [World.ownsRow.cellAt h (k * 2 + 1) (by omega)]
      exact c2

theorem info_clp : (Tryd.prog.info? 68).map (fun i => (i.zero, i.size, i.bytes)) = some (some (.pointer none), 1, 8) := by kernel_rfl
theorem under_clps : Tryd.prog.underlying 102 = some (.slice 68) := by kernel_rfl

/-- A row of classes of one's own. -/
def OwC6 (w : World) (base : Nat) (M : List Nm) (v : Value) (xs : List Nat) : Prop := w.ownsRow base 68 1 v xs.length (xs.map (clV M))

/-- Classes joined to a row of classes. -/
theorem join_cls6 (ty : TypeId) {w : World} {base : Nat} {M : List Nm} {x : Value} {xs ys : List Nat} {ao : Option Addr} {cap : Nat} (ho : OwC6 w base M x xs) (hr : ys = [] ∨ ∃ g off, ao = some ⟨g, off, none⟩ ∧ ∀ (j y : Nat), ys[j]? = some y → w.cell? ⟨g, off + j, none⟩ = some (clV M y))
    (hb : base ≤ w.heap.size) (hl : (xs.length + ys.length) * 8 ≤ 140737488355328) :
    ∃ v' w', (Builtin.append_ #[102, 102] ty #[x, .slice ao ys.length cap]).run Tryd.prog w = .ok v' w' ∧ OwC6 w' base M v' (xs ++ ys) ∧ w.grownBy w' x.ownBlock ∧ (v'.ownBlock = x.ownBlock ∨ v'.ownBlock = some w.heap.size) := by
  obtain ⟨i0, hi, hz0, hz1, hz2⟩ := info_parts info_clp
  have hshape : ∃ bo bc, x = .slice bo xs.length bc ∧ xs.length ≤ bc := by
    rcases ho.2 with ⟨h8, h9⟩ | ⟨g8, c8, cur8, h8, _, _, h9, _⟩
    · exact ⟨none, 0, by rw [h8, h9], by omega⟩
    · exact ⟨_, c8, h8, h9⟩
  by_cases h0 : ys = []
  · subst h0
    obtain ⟨bo, bc, rfl, hbc⟩ := hshape
    refine ⟨_, w, run_append_nothing w 102 102 ty 68 i0 under_clps hi _ xs.length bc hbc _ ?_, by rw [List.append_nil]; exact ho, World.grownBy.refl _ _, .inl rfl⟩
    cases ao with
    | none => exact Src.ofNil w under_clps _
    | some a => exact Src.ofSlice w under_clps a 0 _ [] (by simp) (fun j u hj => (by simp at hj)) (fun u hu => (by simp at hu))
  · obtain ⟨g, off, rfl, hc⟩ : ∃ g off, ao = some ⟨g, off, none⟩ ∧ ∀ (j y : Nat), ys[j]? = some y → w.cell? ⟨g, off + j, none⟩ = some (clV M y) := by
      rcases hr with hr | hr
      · exact absurd hr h0
      · exact hr
    obtain ⟨v', w', hr, g2, g3, _, g5⟩ := run_append_own_at (P := Tryd.prog) w base 102 ty 68 i0 _ 1 8 under_clps hi hz0 hz1 hz2 rfl (by decide) x xs.length (xs.map (clV M)) ho ⟨g, off, none⟩ ys.length cap (ys.map (clV M)) (by rw [List.length_map, Nat.mul_one])
      (fun j u hj => by
        rw [Addr.add_lit]
        rw [List.getElem?_map] at hj
        cases hy : ys[j]? with
        | none => rw [hy] at hj; cases hj
        | some y =>
          rw [hy] at hj
          cases hj
          exact hc j y hy) (fun u hu => by obtain ⟨y, _, rfl⟩ := List.mem_map.1 hu; rfl) (by unfold maxLen; omega) (by omega) hb
    refine ⟨v', w', hr, ?_, g3, g5⟩
    unfold OwC6
    rw [List.length_append, List.map_append]
    exact g2

theorem OwC6.shape {w : World} {base : Nat} {M : List Nm} {v : Value} {xs : List Nat} (h : OwC6 w base M v xs) : ∃ ao cap, v = .slice ao xs.length cap ∧ xs.length ≤ cap ∧ cap ≤ maxLen := by
  rcases h.2 with ⟨rfl, hn⟩ | ⟨g, cap, cur, rfl, hb, hg, hc, hm, hs, ht⟩
  · exact ⟨none, 0, by rw [hn], by omega, by simp [maxLen]⟩
  · exact ⟨_, cap, rfl, hc, hm⟩

theorem own_cut6 {w : World} {base : Nat} {M : List Nm} {ao : Option Addr} {cap k : Nat} {xs : List Nat} (h : OwC6 w base M (.slice ao xs.length cap) xs) (hk : k ≤ xs.length) : OwC6 w base M (.slice ao k cap) (xs.take k) := by
  have h1 := h.1
  have hl : (xs.take k).length = k := by rw [List.length_take]; omega
  unfold OwC6
  rw [hl]
  refine ⟨by rw [List.length_map, hl, Nat.mul_one], ?_⟩
  rcases h.2 with ⟨hv, hn⟩ | ⟨g, cp, cur, hv, hb, hg, hc, hm, hs, ht⟩
  · simp only [Value.slice.injEq] at hv
    obtain ⟨rfl, _, rfl⟩ := hv
    obtain rfl : k = 0 := by omega
    exact .inl ⟨rfl, rfl⟩
  · simp only [Value.slice.injEq] at hv
    obtain ⟨rfl, _, rfl⟩ := hv
    refine .inr ⟨g, cap, cur, rfl, hb, hg, by omega, hm, hs, ?_⟩
    rw [List.map_take, ← ht, List.take_take, Nat.mul_one, Nat.mul_one, Nat.min_eq_left hk]

theorem own_last6 {w : World} {base : Nat} {M : List Nm} {v : Value} {xs : List Nat} {k x : Nat} (h : OwC6 w base M v xs) (hk : xs[k]? = some x) : ∃ g cap, v = .slice (some ⟨g, 0, none⟩) xs.length cap ∧ base ≤ g ∧ xs.length ≤ cap ∧ cap ≤ 9223372036854775807 ∧ w.cell? ⟨g, k, none⟩ = some (clV M x) := by
  have hkl := (List.getElem?_eq_some_iff.1 hk).1
  rcases h.2 with ⟨_, hn⟩ | ⟨g, cp, cur, hv, hb, hg, hc, hm, hs, ht⟩
  · omega
  · subst hv
    unfold maxLen at hm
    refine ⟨g, cp, rfl, hb, hc, by omega, ?_⟩
    rw [World.ownsRow.cellAt h k (by rw [Nat.mul_one]; exact hkl), List.getElem?_map, hk]
    rfl

/-- A row of one's own is kept where classes alone are written. -/
theorem own_ch6 {w w' : World} {base : Nat} {e : TypeId} {s n : Nat} {v : Value} {xs : List Value} {M : List Nm} (h : w.ownsRow base e s v n xs) (hc : Ch6 M w w') (hm : ∀ m ∈ M, m.cls < base) : w'.ownsRow base e s v n xs := by
  refine ⟨h.1, ?_⟩
  rcases h.2 with h | ⟨g, cap, cur, hv, hb, hg, r⟩
  · exact .inl h
  · exact .inr ⟨g, cap, cur, hv, hb, (hc.block g (Array.getElem?_eq_some_iff.1 hg).1 (fun m hm' e => by have := hm m hm'; omega)).trans hg, r⟩

theorem own_grown6 {w w' : World} {base : Nat} {e : TypeId} {s n : Nat} {v : Value} {xs : List Value} {row : Option Nat} (h : w.ownsRow base e s v n xs) (hg : w.grownBy w' row) (hr : v.ownBlock = none ∨ v.ownBlock ≠ row) : w'.ownsRow base e s v n xs := by
  refine ⟨h.1, ?_⟩
  rcases h.2 with h | ⟨g, cap, cur, rfl, hb, hgg, r⟩
  · exact .inl h
  · refine .inr ⟨g, cap, cur, rfl, hb, (hg.block g (Array.getElem?_eq_some_iff.1 hgg).1 ?_).trans hgg, r⟩
    rcases hr with hr | hr
    · cases hr
    · exact hr

end Go.Proofs.YtelacmijkbgliaaDoor
