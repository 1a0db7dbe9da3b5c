/- Texts of the proof, one behind the other. -/
import Derived.Test.YthjghdpiokpnfaaDoorOwn2
import Derived.Test.YthjghdpiokpnfaaDoorOwn4
import Derived.Sort.QuietTacIn
import Derived.Sort.CutIn
/- Trees of right rows: plain. -/
namespace Go.Proofs.YthjghdpiokpnfaaDoor

/-- Each symbol has its arguments. -/
inductive WfT (sig : List Sy) : Te → Prop
  | v {c : Int} : c < 0 → WfT sig (.v c)
  | a {c : Int} {ts : List Te} : ¬ c < 0 → ts.length = arN sig c → (∀ t ∈ ts, WfT sig t) → WfT sig (.a c ts)

def growStepE (sig : List Sy) (st : List Te) (c : Int) : List Te := if c < 0 then st ++ [.v c] else st.take (st.length - arN sig c) ++ [.a c (st.drop (st.length - arN sig c)).reverse]

/-- The trees that a row is made of; what begins first is the last one. -/
def growE (sig : List Sy) : List Int → List Te
  | [] => []
  | c :: u => growStepE sig (growE sig u) c

mutual
def Te.shape : Te → Tr
  | .v _ => .var
  | .a _ ts => .app (shapeL ts)
def shapeL : List Te → List Tr
  | [] => []
  | t :: ts => t.shape :: shapeL ts
end

theorem shapeL_map : ∀ ts : List Te, shapeL ts = ts.map Te.shape
  | [] => rfl
  | t :: ts => by simp only [shapeL, List.map_cons, shapeL_map ts]

theorem growE_shape (sig : List Sy) : ∀ u : List Int, (growE sig u).map Te.shape = growR sig u
  | [] => rfl
  | c :: u => by
    show (growStepE sig (growE sig u) c).map Te.shape = growStep sig (growR sig u) c
    have ih := growE_shape sig u
    have hl : (growR sig u).length = (growE sig u).length := by rw [← ih, List.length_map]
    unfold growStepE growStep
    split
    · rw [List.map_append, ih]
      rfl
    · rw [List.map_append, List.map_take, ih, hl]
      simp only [List.map_cons, List.map_nil, Te.shape, shapeL_map, List.map_reverse, List.map_drop, ih]

theorem rowL_app : ∀ (a b : List Te), rowL (a ++ b) = rowL a ++ rowL b
  | [], b => rfl
  | t :: a, b => by simp only [List.cons_append, rowL, rowL_app a b, List.append_assoc]

theorem growE_row (sig : List Sy) : ∀ u : List Int, rowL (growE sig u).reverse = u
  | [] => rfl
  | c :: u => by
    show rowL (growStepE sig (growE sig u) c).reverse = c :: u
    have ih := growE_row sig u
    unfold growStepE
    split
    · rw [List.reverse_append, List.reverse_singleton, rowL_app, ih]
      simp [rowL, Te.row]
    · rw [List.reverse_append, List.reverse_singleton, rowL_app]
      simp only [rowL, Te.row, List.append_nil, List.cons_append, List.cons.injEq, true_and]
      rw [← rowL_app, ← List.reverse_append, List.take_append_drop, ih]

mutual
theorem size_row : ∀ x : Te, x.row.length = x.size
  | .v _ => rfl
  | .a _ ts => by simp only [Te.row, Te.size, List.length_cons, size_rowL ts]; omega
theorem size_rowL : ∀ ts : List Te, (rowL ts).length = sizeL ts
  | [] => rfl
  | t :: ts => by simp only [rowL, sizeL, List.length_append, size_row t, size_rowL ts]
end

theorem growE_wf {sig : List Sy} (ha : ArOk sig) : ∀ (u : List Int) (m : Int) (i : Nat), 1 ≤ m → firstT sig m i u = ((i : Int) + u.length, 0) → ∀ x ∈ growE sig u, WfT sig x
  | [], m, i, hm, h => by simp [firstT] at h
  | c :: u, m, i, hm, h => by
    rw [firstT_cons] at h
    cases hc : codeD sig c with
    | none => rw [hc] at h; simp at h
    | some e =>
      rw [hc] at h
      simp only at h
      have he := codeD_ge ha hc
      have hboth : (∀ x ∈ growE sig u, WfT sig x) ∧ ((growE sig u).length : Int) = m + e := by
        by_cases h0 : m + e = 0
        · rw [if_pos h0] at h
          have := congrArg Prod.fst h
          simp only [List.length_cons] at this
          obtain rfl : u = [] := List.eq_nil_of_length_eq_zero (by omega)
          exact ⟨fun x hx => (by cases hx), by simp only [growE, List.length_nil]; omega⟩
        · rw [if_neg h0] at h
          have hf : firstT sig (m + e) (i + 1) u = (((i + 1 : Nat) : Int) + u.length, 0) := by rw [h]; simp only [List.length_cons, Prod.mk.injEq, and_true]; omega
          refine ⟨growE_wf ha u (m + e) (i + 1) (by omega) hf, ?_⟩
          have := growR_len ha u (m + e) (i + 1) (by omega) hf
          rw [← growE_shape, List.length_map] at this
          exact this
      obtain ⟨h1, h2⟩ := hboth
      intro x hx
      have hx : x ∈ growStepE sig (growE sig u) c := hx
      unfold growStepE at hx
      split at hx
      · rename_i hc0
        rcases List.mem_append.1 hx with hx | hx
        · exact h1 x hx
        · rw [List.mem_singleton] at hx
          subst hx
          exact .v hc0
      · rename_i hc0
        rcases List.mem_append.1 hx with hx | hx
        · exact h1 x (List.mem_of_mem_take hx)
        · rw [List.mem_singleton] at hx
          subst hx
          obtain ⟨h3, _⟩ := codeD_ar ha hc hc0
          refine .a hc0 ?_ (fun y hy => h1 y (List.mem_of_mem_drop (List.mem_reverse.1 hy)))
          rw [List.length_reverse, List.length_drop]
          omega

/-- A right row's tree. -/
theorem growE_one {sig : List Sy} (ha : ArOk sig) {t : List Int} (h : rowE sig t = 0) : ∃ x, growE sig t = [x] ∧ x.row = t ∧ WfT sig x := by
  have hf : firstT sig 1 0 t = (((0 : Nat) : Int) + t.length, 0) := by rw [row_first.1 h]; simp
  have h1 := growR_len ha t 1 0 (by omega) hf
  rw [← growE_shape, List.length_map] at h1
  obtain ⟨x, hx⟩ := List.length_eq_one_iff.1 (show (growE sig t).length = 1 by omega)
  refine ⟨x, hx, ?_, growE_wf ha t 1 0 (by omega) hf x (by rw [hx]; exact List.mem_singleton.2 rfl)⟩
  have := growE_row sig t
  rw [hx] at this
  simpa [rowL] using this

mutual
theorem grow_row {sig : List Sy} : ∀ (x : Te), WfT sig x → ∀ u, growE sig (x.row ++ u) = growE sig u ++ [x]
  | .v c, h, u => by
    cases h with
    | v hc =>
      show growStepE sig (growE sig u) c = _
      unfold growStepE
      rw [if_pos hc]
  | .a c ts, h, u => by
    cases h with
    | a hc hl hw =>
      show growStepE sig (growE sig (rowL ts ++ u)) c = _
      rw [grow_rowL ts hw u]
      unfold growStepE
      rw [if_neg hc]
      have e : (growE sig u ++ ts.reverse).length - arN sig c = (growE sig u).length := by rw [List.length_append, List.length_reverse, hl]; omega
      rw [e, List.take_left, List.drop_left, List.reverse_reverse]
theorem grow_rowL {sig : List Sy} : ∀ (l : List Te), (∀ x ∈ l, WfT sig x) → ∀ u, growE sig (rowL l ++ u) = growE sig u ++ l.reverse
  | [], _, u => by simp [rowL]
  | x :: l, h, u => by
    show growE sig ((x.row ++ rowL l) ++ u) = _
    rw [List.append_assoc, grow_row x (h x (List.mem_cons_self ..)), grow_rowL l (fun y hy => h y (List.mem_cons_of_mem _ hy)), List.reverse_cons, List.append_assoc]
end

theorem wf_pre {sig : List Sy} {x y : Te} {r r' : List Int} (hx : WfT sig x) (hy : WfT sig y) (h : x.row ++ r = y.row ++ r') : x = y := by
  have h1 := grow_row x hx r
  rw [h, grow_row y hy r'] at h1
  have := List.append_inj_right' h1 rfl
  simpa using this.symm

theorem wf_inj {sig : List Sy} {x y : Te} (hx : WfT sig x) (hy : WfT sig y) (h : x.row = y.row) : x = y := wf_pre (r := []) (r' := []) hx hy (by rw [h])

/-- A tree stands at a place of a row. -/
def AtP (s : List Int) (x : Te) (i : Nat) : Prop := ∃ r, s.drop i = x.row ++ r

theorem AtP.one {sig : List Sy} {s : List Int} {x y : Te} {i : Nat} (hx : WfT sig x) (hy : WfT sig y) (h : AtP s x i) (h' : AtP s y i) : x = y := by
  obtain ⟨r, hr⟩ := h
  obtain ⟨r', hr'⟩ := h'
  exact wf_pre hx hy (hr.symm.trans hr')

theorem AtP.kid {s : List Int} {c : Int} {ts : List Te} {i k : Nat} {x : Te} (h : AtP s (.a c ts) i) (hk : ts[k]? = some x) : AtP s x (i + 1 + sizeL (ts.take k)) := by
  obtain ⟨r, hr⟩ := h
  have hk2 := (List.getElem?_eq_some_iff.1 hk).1
  have e : ts = ts.take k ++ x :: ts.drop (k + 1) := by
    rw [← (List.getElem?_eq_some_iff.1 hk).2]
    simp
  have e2 : rowL ts = rowL (ts.take k) ++ (x.row ++ rowL (ts.drop (k + 1))) := by
    have := congrArg rowL e
    rw [rowL_app] at this
    exact this
  refine ⟨rowL (ts.drop (k + 1)) ++ r, ?_⟩
  rw [show i + 1 + sizeL (ts.take k) = i + (1 + sizeL (ts.take k)) by omega, ← List.drop_drop, hr]
  simp only [Te.row]
  rw [e2, show 1 + sizeL (ts.take k) = (rowL (ts.take k)).length + 1 by rw [size_rowL]; omega, List.cons_append, List.drop_succ_cons, List.append_assoc, List.drop_left, List.append_assoc]

theorem AtP.len {s : List Int} {x : Te} {i : Nat} (h : AtP s x i) : i + x.size ≤ s.length := by
  obtain ⟨r, hr⟩ := h
  have h1 := congrArg List.length hr
  rw [List.length_drop, List.length_append, size_row] at h1
  have := size_pos x
  omega

theorem AtP.take {s : List Int} {x : Te} {i : Nat} (h : AtP s x i) : (s.drop i).take x.size = x.row := by
  obtain ⟨r, hr⟩ := h
  rw [hr, ← size_row, List.take_left]

/-- Two stacks that differ at one place, where the one tree is greater. -/
def OneG (ab : Int → Int → Bool) (st st' : List Te) : Prop := ∃ p x y q, st = p ++ x :: q ∧ st' = p ++ y :: q ∧ LG ab x y

theorem OneG.step {ab : Int → Int → Bool} {sig : List Sy} {st st' : List Te} (h : OneG ab st st') (c : Int) : OneG ab (growStepE sig st c) (growStepE sig st' c) := by
  obtain ⟨p, x, y, q, rfl, rfl, hg⟩ := h
  unfold growStepE
  split
  · exact ⟨p, x, y, q ++ [.v c], by simp, by simp, hg⟩
  · have hl : (p ++ x :: q).length = (p ++ y :: q).length := by simp
    rw [← hl]
    generalize hn : (p ++ x :: q).length - arN sig c = n
    by_cases h9 : n ≤ p.length
    · have e1 : (p ++ x :: q).take n = p.take n := List.take_append_of_le_length h9
      have e2 : (p ++ y :: q).take n = p.take n := List.take_append_of_le_length h9
      have e3 : (p ++ x :: q).drop n = p.drop n ++ x :: q := List.drop_append_of_le_length h9
      have e4 : (p ++ y :: q).drop n = p.drop n ++ y :: q := List.drop_append_of_le_length h9
      rw [e1, e2, e3, e4]
      refine ⟨p.take n, _, _, [], rfl, rfl, ?_⟩
      rw [List.reverse_append, List.reverse_append, List.reverse_cons, List.reverse_cons, List.append_assoc, List.append_assoc]
      exact LG.round hg
    · obtain ⟨k, hk⟩ : ∃ k, n = p.length + (k + 1) := ⟨n - p.length - 1, by omega⟩
      subst hk
      rw [List.take_length_add_append, List.take_length_add_append, List.drop_length_add_append, List.drop_length_add_append, List.take_succ_cons, List.take_succ_cons, List.drop_succ_cons, List.drop_succ_cons]
      exact ⟨p, x, y, q.take k ++ [.a c (q.drop k).reverse], by simp, by simp, hg⟩

theorem OneG.grow {ab : Int → Int → Bool} {sig : List Sy} {u u' : List Int} (h : OneG ab (growE sig u) (growE sig u')) : ∀ p : List Int, OneG ab (growE sig (p ++ u)) (growE sig (p ++ u'))
  | [] => h
  | c :: p => (OneG.grow h p).step c

/-- Kept by what stands around, as rows. -/
theorem round_rows {ab : Int → Int → Bool} {sig : List Sy} {p q : List Int} {x y s t : Te} (hx : WfT sig x) (hy : WfT sig y) (hg : LG ab x y) (h1 : growE sig (p ++ (x.row ++ q)) = [s]) (h2 : growE sig (p ++ (y.row ++ q)) = [t]) : LG ab s t := by
  have h := OneG.grow (ab := ab) (sig := sig) (u := x.row ++ q) (u' := y.row ++ q) ⟨growE sig q, x, y, [], by rw [grow_row x hx], by rw [grow_row y hy], hg⟩ p
  rw [h1, h2] at h
  obtain ⟨p', x', y', q', e1, e2, h9⟩ := h
  cases p' with
  | nil =>
    simp only [List.nil_append, List.cons.injEq] at e1 e2
    rw [e1.1, e2.1]
    exact h9
  | cons z p' => exact absurd (congrArg List.length e1) (by simp)

end Go.Proofs.YthjghdpiokpnfaaDoor

/- Trees of package lpo in memory; apply. -/
namespace Go.Proofs.YthjghdpiokpnfaaDoor
open Go.RowKit Go.Maps

mutual
/-- The value v is the tree that stands at a place, read through blocks of A alone; S: the codes from a place on. -/
def TL (w : World) (A : Nat → Prop) (S : Nat → Nat → Value) : Value → Te → Nat → Prop
  | v, .v _, p => v = .iface 113 (.agg #[.int .i64 (p : Int), S p 1])
  | v, .a _ ts, p => ∃ b a cap, v = .iface 105 (.pointer (some ⟨b, 0, none⟩)) ∧ A b ∧ w.cell? ⟨b, 0, none⟩ = some (.int .i64 (p : Int)) ∧ w.cell? ⟨b, 1, none⟩ = some (S p (1 + sizeL ts)) ∧ w.cell? ⟨b, 2, none⟩ = some (.slice a ts.length cap) ∧ ts.length ≤ cap ∧ cap ≤ maxLen ∧ (ts = [] ∨ ∃ g off, a = some ⟨g, off, none⟩ ∧ A g ∧ TLs w A S g off ts (p + 1))
def TLs (w : World) (A : Nat → Prop) (S : Nat → Nat → Value) (g : Nat) : Nat → List Te → Nat → Prop
  | _, [], _ => True
  | o, t :: ts, p => (∃ v, w.cell? ⟨g, o, none⟩ = some v ∧ TL w A S v t p) ∧ TLs w A S g (o + 1) ts (p + t.size)
end

mutual
theorem TL.keep {w w' : World} {A A' : Nat → Prop} {S : Nat → Nat → Value} (hc : ∀ b o x, A b → w.cell? ⟨b, o, none⟩ = some x → w'.cell? ⟨b, o, none⟩ = some x) (hA : ∀ b, A b → A' b) : ∀ {v : Value} {t : Te} {p : Nat}, TL w A S v t p → TL w' A' S v t p
  | v, .v _, p, h => by unfold TL at h ⊢; exact h
  | v, .a _ ts, p, h => by
    unfold TL at h ⊢
    obtain ⟨b, a, cap, h1, h2, h3, h3b, h4, h5, h6, h7⟩ := h
    refine ⟨b, a, cap, h1, hA b h2, hc b 0 _ h2 h3, hc b 1 _ h2 h3b, hc b 2 _ h2 h4, h5, h6, ?_⟩
    rcases h7 with h7 | ⟨g, off, k1, k2, k3⟩
    · exact .inl h7
    · exact .inr ⟨g, off, k1, hA g k2, TLs.keep hc hA k2 k3⟩
theorem TLs.keep {w w' : World} {A A' : Nat → Prop} {S : Nat → Nat → Value} (hc : ∀ b o x, A b → w.cell? ⟨b, o, none⟩ = some x → w'.cell? ⟨b, o, none⟩ = some x) (hA : ∀ b, A b → A' b) : ∀ {g o : Nat} {ts : List Te} {p : Nat}, A g → TLs w A S g o ts p → TLs w' A' S g o ts p
  | g, o, [], p, _, _ => by unfold TLs; trivial
  | g, o, t :: ts, p, hg, h => by
    unfold TLs at h ⊢
    obtain ⟨⟨v, h1, h2⟩, h3⟩ := h
    exact ⟨⟨v, hc g o _ hg h1, TL.keep hc hA h2⟩, TLs.keep hc hA hg h3⟩
end

/-- Values that are trees one behind the other. -/
def TLl (w : World) (A : Nat → Prop) (S : Nat → Nat → Value) : List Value → List Te → Nat → Prop
  | [], [], _ => True
  | v :: vs, t :: ts, p => TL w A S v t p ∧ TLl w A S vs ts (p + t.size)
  | _, _, _ => False

theorem TLl.keep {w w' : World} {A A' : Nat → Prop} {S : Nat → Nat → Value} (hc : ∀ b o x, A b → w.cell? ⟨b, o, none⟩ = some x → w'.cell? ⟨b, o, none⟩ = some x) (hA : ∀ b, A b → A' b) : ∀ {vs : List Value} {ts : List Te} {p : Nat}, TLl w A S vs ts p → TLl w' A' S vs ts p
  | [], [], _, _ => trivial
  | _ :: _, _ :: _, _, ⟨h1, h2⟩ => ⟨h1.keep hc hA, TLl.keep hc hA h2⟩
  | [], _ :: _, _, h => h.elim
  | _ :: _, [], _, h => h.elim

theorem TLl.len {w : World} {A : Nat → Prop} {S : Nat → Nat → Value} : ∀ {vs : List Value} {ts : List Te} {p : Nat}, TLl w A S vs ts p → vs.length = ts.length
  | [], [], _, _ => rfl
  | _ :: _, _ :: _, _, ⟨_, h2⟩ => congrArg (· + 1) (TLl.len h2)
  | [], _ :: _, _, h => h.elim
  | _ :: _, [], _, h => h.elim

theorem TLl.get {w : World} {A : Nat → Prop} {S : Nat → Nat → Value} : ∀ {vs : List Value} {ts : List Te} {p k : Nat} {v : Value} {t : Te}, TLl w A S vs ts p → vs[k]? = some v → ts[k]? = some t → TL w A S v t (p + sizeL (ts.take k))
  | [], [], _, _, _, _, _, h, _ => by simp at h
  | v :: vs, t :: ts, p, 0, _, _, ⟨h1, _⟩, hv, ht => by simp at hv ht; subst hv; subst ht; simpa [sizeL] using h1
  | v :: vs, t :: ts, p, k + 1, _, _, ⟨_, h2⟩, hv, ht => by
    have := TLl.get h2 (k := k) (by simpa using hv) (by simpa using ht)
    rw [List.take_succ_cons]
    simp only [sizeL]
    rw [← Nat.add_assoc]
    exact this
  | [], _ :: _, _, _, _, _, h, _, _ => h.elim
  | _ :: _, [], _, _, _, _, h, _, _ => h.elim

theorem TLl.take {w : World} {A : Nat → Prop} {S : Nat → Nat → Value} : ∀ {vs : List Value} {ts : List Te} {p : Nat} (k : Nat), TLl w A S vs ts p → TLl w A S (vs.take k) (ts.take k) p ∧ TLl w A S (vs.drop k) (ts.drop k) (p + sizeL (ts.take k))
  | [], [], p, k, _ => by simp [TLl]
  | _ :: _, _ :: _, p, 0, h => ⟨trivial, by simpa [sizeL] using h⟩
  | _ :: _, t :: ts, p, k + 1, ⟨h1, h2⟩ => by
    obtain ⟨h3, h4⟩ := TLl.take k h2
    refine ⟨⟨h1, h3⟩, ?_⟩
    rw [List.take_succ_cons, List.drop_succ_cons, List.drop_succ_cons]
    simp only [sizeL]
    rw [← Nat.add_assoc]
    exact h4
  | [], _ :: _, _, _, h => h.elim
  | _ :: _, [], _, _, h => h.elim

theorem TL.ifv {w : World} {A : Nat → Prop} {S : Nat → Nat → Value} {v : Value} {t : Te} {p : Nat} (h : TL w A S v t p) : IfV v := by
  cases t with
  | v c => unfold TL at h; exact ⟨_, _, h⟩
  | a c ts => unfold TL at h; obtain ⟨b, a, cap, h1, _⟩ := h; exact ⟨_, _, h1⟩

theorem TLl.ifv {w : World} {A : Nat → Prop} {S : Nat → Nat → Value} : ∀ {vs : List Value} {ts : List Te} {p : Nat}, TLl w A S vs ts p → ∀ u ∈ vs, IfV u
  | [], [], _, _, u, hu => by cases hu
  | v :: vs, t :: ts, _, ⟨h1, h2⟩, u, hu => by
    cases hu with
    | head => exact h1.ifv
    | tail _ hu => exact TLl.ifv h2 u hu
  | [], _ :: _, _, h, _, _ => h.elim
  | _ :: _, [], _, h, _, _ => h.elim

theorem TLs_of_TLl {w : World} {A : Nat → Prop} {S : Nat → Nat → Value} {g : Nat} : ∀ {vs : List Value} {ts : List Te} {o p : Nat}, TLl w A S vs ts p → (∀ (j : Nat) (u : Value), vs[j]? = some u → w.cell? ⟨g, o + j, none⟩ = some u) → TLs w A S g o ts p
  | [], [], o, p, _, _ => by unfold TLs; trivial
  | v :: vs, t :: ts, o, p, ⟨h1, h2⟩, hc => by
    unfold TLs
    refine ⟨⟨v, hc 0 v rfl, h1⟩, TLs_of_TLl h2 fun j u hj => ?_⟩
    have := hc (j + 1) u (by simpa using hj)
    rw [show o + 1 + j = o + (j + 1) by omega]
    exact this
  | [], _ :: _, _, _, h, _ => h.elim
  | _ :: _, [], _, _, h, _ => h.elim

theorem TLs.get {w : World} {A : Nat → Prop} {S : Nat → Nat → Value} {g : Nat} : ∀ {o : Nat} {ts : List Te} {p k : Nat} {t : Te}, TLs w A S g o ts p → ts[k]? = some t → ∃ v, w.cell? ⟨g, o + k, none⟩ = some v ∧ TL w A S v t (p + sizeL (ts.take k))
  | o, [], p, k, t, _, hk => by simp at hk
  | o, x :: ts, p, 0, t, h, hk => by
    unfold TLs at h
    simp only [List.getElem?_cons_zero, Option.some.injEq] at hk
    subst hk
    simpa [sizeL] using h.1
  | o, x :: ts, p, k + 1, t, h, hk => by
    unfold TLs at h
    rw [List.getElem?_cons_succ] at hk
    obtain ⟨v, h1, h2⟩ := TLs.get h.2 hk
    refine ⟨v, by rw [show o + (k + 1) = o + 1 + k by omega]; exact h1, ?_⟩
    rw [List.take_succ_cons]
    simp only [sizeL]
    rw [← Nat.add_assoc]
    exact h2

/-- The codes from a place on. -/
def cdL (b o c : Nat) (p n : Nat) : Value := .slice (some ⟨b, o + p, none⟩) n (c - p)

theorem sizeL_app : ∀ (a b : List Te), sizeL (a ++ b) = sizeL a + sizeL b
  | [], b => by simp [sizeL]
  | t :: a, b => by simp only [List.cons_append, sizeL, sizeL_app a b]; omega

theorem sizeL_take (ts : List Te) (k : Nat) : sizeL (ts.take k) ≤ sizeL ts := by
  have := sizeL_app (ts.take k) (ts.drop k)
  rw [List.take_append_drop] at this
  omega

theorem len_sizeL : ∀ ts : List Te, ts.length ≤ sizeL ts
  | [] => Nat.zero_le _
  | t :: ts => by
    have h1 := len_sizeL ts
    have h2 := size_pos t
    simp only [sizeL, List.length_cons]
    omega

theorem sizeL_rev : ∀ ts : List Te, sizeL ts.reverse = sizeL ts
  | [] => rfl
  | t :: ts => by
    rw [List.reverse_cons, sizeL_app, sizeL_rev ts]
    simp only [sizeL]
    omega

theorem nodeRow_any (x s : Value) (w : World) : Calls Tryd.prog 99 #[.agg #[x, s]] w fun e w' => e = .returned s ∧ Below w.heap.size w w' := by
  go_enter Tryd.func99, Tryd.ntmps99
  go_wp2
  go_ret
  exact ⟨rfl, below_alloc _⟩

theorem nodePlace_any (x s : Value) (w : World) : Calls Tryd.prog 98 #[.agg #[x, s]] w fun e w' => e = .returned x ∧ Below w.heap.size w w' := by
  go_enter Tryd.func98, Tryd.ntmps98
  go_wp2
  go_ret
  exact ⟨rfl, below_alloc _⟩

theorem run_loadNode {w : World} {b : Nat} {x s : Value} (h0 : w.cell? ⟨b, 0, none⟩ = some x) (h1 : w.cell? ⟨b, 1, none⟩ = some s) : (loadVar 111 ⟨b, 0, none⟩).run Tryd.prog w = .ok (.agg #[x, s]) w := by
  have h := run_loadCells_list (P := Tryd.prog) (w := w) ⟨b, 0, none⟩ [x, s] (fun j v hj => by
    rw [Addr.add_lit, Nat.zero_add]
    match j, hj with
    | 0, hj => simp at hj; subst hj; exact h0
    | 1, hj => simp at hj; subst hj; exact h1)
  simp only [List.length_cons, List.length_nil, Nat.zero_add, Nat.reduceAdd] at h
  simp [loadVar, Sem.run_bind, h]

theorem run_rowA (n : Nat) {w : World} {b : Nat} {x s : Value} (h0 : w.cell? ⟨b, 0, none⟩ = some x) (h1 : w.cell? ⟨b, 1, none⟩ = some s) : (method (n + 1) 105 (.pointer (some ⟨b, 0, none⟩)) "lodestone/lpo.row").run Tryd.prog w = .ok (99, .agg #[x, s]) w := by
  have e : (method (n + 1) 105 (.pointer (some ⟨b, 0, none⟩)) "lodestone/lpo.row").run Tryd.prog w = (do let v ← loadVar 111 ⟨b, 0, none⟩; pure (99, v) : Sem (FuncId × Value)).run Tryd.prog w := by kernel_rfl
  rw [e, Sem.run_bind, run_loadNode h0 h1]
  rfl

theorem run_placeA (n : Nat) {w : World} {b : Nat} {x s : Value} (h0 : w.cell? ⟨b, 0, none⟩ = some x) (h1 : w.cell? ⟨b, 1, none⟩ = some s) : (method (n + 1) 105 (.pointer (some ⟨b, 0, none⟩)) "lodestone/lpo.place").run Tryd.prog w = .ok (98, .agg #[x, s]) w := by
  have e : (method (n + 1) 105 (.pointer (some ⟨b, 0, none⟩)) "lodestone/lpo.place").run Tryd.prog w = (do let v ← loadVar 111 ⟨b, 0, none⟩; pure (98, v) : Sem (FuncId × Value)).run Tryd.prog w := by kernel_rfl
  rw [e, Sem.run_bind, run_loadNode h0 h1]
  rfl

end Go.Proofs.YthjghdpiokpnfaaDoor

/- apply of package lpo. -/
namespace Go.Proofs.YthjghdpiokpnfaaDoor
open Go.RowKit Go.Maps

set_option maxRecDepth 100000 in
set_option maxHeartbeats 1600000 in
theorem lpoApply_any (b0 o0 c0 p n : Nat) (v : Value) (vals : List Value) (ts : List Te) (A : Nat → Prop) (q : Nat) (w : World) (hr : RdV w v vals) (ht : TLl w A (cdL b0 o0 c0) vals ts q) (hA : ∀ b, A b → b < w.heap.size) (hs : p + 1 + sizeL ts ≤ n) (hn : n ≤ c0) (hc : c0 ≤ 9223372036854775807) :
    Calls Tryd.prog 44 #[.slice (some ⟨b0, o0, none⟩) n c0, .int .i64 (p : Int), v] w fun e w' => ∃ b, e = .returned (.iface 105 (.pointer (some ⟨b, 0, none⟩))) ∧ w.heap.size ≤ b ∧ w'.cell? ⟨b, 0, none⟩ = some (.int .i64 (p : Int)) ∧ w'.cell? ⟨b, 1, none⟩ = some (cdL b0 o0 c0 p (1 + sizeL ts)) ∧ w'.cell? ⟨b, 2, none⟩ = some v ∧ Below w.heap.size w w' := by
  have hlen := ht.len
  have hsh : ∃ ao cap, v = .slice ao ts.length cap := by
    rcases hr with ⟨rfl, rfl⟩ | ⟨g, off, cap, rfl, _⟩
    · exact ⟨none, 0, by rw [← hlen]; rfl⟩
    · exact ⟨_, cap, by rw [hlen]⟩
  obtain ⟨ao, cap, rfl⟩ := hsh
  have HR := hid hr
  have HT := hid ht
  have HA := hid hA
  have hbig := len_sizeL ts
  have hw0 : IntKind.i64.wrap ((p : Int) + 1) = ((p + 1 : Nat) : Int) := by rw [IntWalk.i64_in _ ⟨by omega, by omega⟩]; omega
  clear hr ht hA
  go_enter Tryd.func44, Tryd.ntmps44
  go_wp2
  go_loopw [7, 14] (fun sv iv wr => ∃ k : Nat, k ≤ ts.length ∧ iv = .int .i64 k ∧ sv = .int .i64 ((p + 1 + sizeL (ts.take k) : Nat) : Int) ∧ Below w.heap.size w wr) (fun _ iv _ => ts.length - (intOf iv).toNat)
  case atStart => exact ⟨0, Nat.zero_le _, rfl, by simp [sizeL], Below.refl _ _⟩
  case round =>
    obtain ⟨k, hk, rfl, rfl, hbl⟩ := hrel
    have HBl := hid hbl
    by_cases hlt : k < ts.length
    · obtain ⟨u, hu⟩ : ∃ u, vals[k]? = some u := ⟨_, List.getElem?_eq_getElem (by omega)⟩
      obtain ⟨t, htk⟩ : ∃ t, ts[k]? = some t := ⟨_, List.getElem?_eq_getElem hlt⟩
      obtain ⟨g, off, rfl, hcl⟩ := (HR.out.kp (Kp.of_below hbl)).at hu
      have htv := HT.out.get hu htk
      have hst := sizeL_take ts (k + 1)
      have hsn : sizeL (ts.take (k + 1)) = sizeL (ts.take k) + t.size := by rw [take_get htk, sizeL_app]; simp [sizeL]
      have HSn := hid hsn
      obtain ⟨S, hS⟩ : ∃ S, S = sizeL (ts.take k) := ⟨_, rfl⟩
      rw [← hS] at hsn HSn htv ⊢
      clear hS hu htk hbl
      cases t with
      | v c =>
        unfold TL cdL at htv
        subst htv
        simp only [Te.size] at hsn HSn
        go_wp2_with fail
        refine (nodeRow_any _ _ wr).mono ?_
        rintro e w2 ⟨rfl, hb2⟩
        have HB2 := hid (below_step HBl.out hb2)
        have hwr : IntKind.i64.wrap (((p + 1 + S : Nat) : Int) + 1) = ((p + 1 + (S + 1) : Nat) : Int) := by rw [IntWalk.i64_in _ ⟨by omega, by omega⟩]; omega
        clear hb2
        go_wp2
        go_roundw
        case rel => exact ⟨k + 1, by omega, by go_num, by rw [HSn.out]; exact congrArg (Value.int .i64) (by omega), HB2.out⟩
        case measure => simp [intOf]; omega
      | a c rs =>
        unfold TL cdL at htv
        obtain ⟨b, a, cp, rfl, hb, h3, h3b, h4, h5, h6, h7⟩ := htv
        have h3r := (HBl.out.cell (p := ⟨b, 0, none⟩) (HA.out b hb)).trans h3
        have h3s := (HBl.out.cell (p := ⟨b, 1, none⟩) (HA.out b hb)).trans h3b
        simp only [Te.size] at hsn HSn
        obtain ⟨Z, hZ⟩ : ∃ Z, Z = 1 + sizeL rs := ⟨_, rfl⟩
        rw [← hZ] at hsn HSn h3s
        have hwr : IntKind.i64.wrap (((p + 1 + S : Nat) : Int) + (Z : Int)) = ((p + 1 + (S + Z) : Nat) : Int) := by rw [IntWalk.i64_in _ ⟨by omega, by omega⟩]; omega
        clear h3 h3b h7 hZ
        go_wp2_with fail
        rw [run_rowA _ h3r h3s]
        simp only [Result.andThen_ok]
        refine (nodeRow_any _ _ wr).mono ?_
        rintro e w2 ⟨rfl, hb2⟩
        have HB2 := hid (below_step HBl.out hb2)
        clear hb2
        go_wp2
        go_roundw
        case rel => exact ⟨k + 1, by omega, by go_num, by rw [HSn.out]; exact congrArg (Value.int .i64) (by omega), HB2.out⟩
        case measure => simp [intOf]; omega
    · have hke : k = ts.length := by omega
      subst hke
      rw [List.take_length]
      obtain ⟨Z, hZ⟩ : ∃ Z, Z = sizeL ts := ⟨_, rfl⟩
      rw [← hZ] at hs ⊢
      have HZ := hid hZ
      have hzc : p + 1 + Z ≤ c0 := by omega
      have hcp : ¬ c0 = p := by omega
      have hsub : p + 1 + Z - p = 1 + Z := by omega
      clear hZ hbig
      go_wp2
      go_ret
      exact ⟨_, rfl, hbl.size, by simp, by rw [← HZ.out]; unfold cdL; simp, by simp, below_step hbl (below_alloc _)⟩

end Go.Proofs.YthjghdpiokpnfaaDoor

/- grow walked. -/
namespace Go.Proofs.YthjghdpiokpnfaaDoor
open Go.RowKit Go.Maps Go.Shelf

attribute [local go_sem] Oper.semAt_some

section
variable {F : Fence} {n : Nat} {P : Program} {w w' : World} {ops : Array Oper} {rest : List Oper} {o : Oper} {a : Act} {Q : Exit → Act → World → Prop}

theorem wpListIn_append_run (hg : o.guard = none) (s x : Operand) (t : TypeId) (hop : o.op = .call { callee := .builtin .append, args := #[s, x], argTypes := #[t, t] }) (v u : Value) {v' : Value} (hs : a.eval s = v) (hx : a.eval x = u)
    (hr : (Builtin.append_ #[t, t] o.type #[v, u]).run P w = .ok v' w') (h : wpListIn F n P ops Q rest (a.put o.dst v') w') : wpListIn F n P ops Q (o :: rest) a w := by
  refine wpListIn_plain hg fun K hK => ?_
  unfold Oper.wpIn
  refine ⟨?_, ?_⟩
  · simp [Oper.about, hop, resolve, Target.leads, Sem.run_pure]
  · rw [Oper.semAt_plain F _ _ (by rw [hop]; intro c hc; cases hc)]
    simp [execOp, hop, resolve, invoke, builtin, hs, hx, hr, Result.andThen]
    exact hK _ _ h

theorem operIn_append_run {K : Act → World → Prop} (s x : Operand) (t : TypeId) (hop : o.op = .call { callee := .builtin .append, args := #[s, x], argTypes := #[t, t] }) (v u : Value) {v' : Value} (hs : a.eval s = v) (hx : a.eval x = u)
    (hr : (Builtin.append_ #[t, t] o.type #[v, u]).run P w = .ok v' w') (h : K (a.put o.dst v') w') : o.wpIn F n P a w K Q := by
  unfold Oper.wpIn
  refine ⟨?_, ?_⟩
  · simp [Oper.about, hop, resolve, Target.leads, Sem.run_pure]
  · rw [Oper.semAt_plain F _ _ (by rw [hop]; intro c hc; cases hc)]
    simp [execOp, hop, resolve, invoke, builtin, hs, hx, hr, Result.andThen]
    exact h

theorem wpAnyIn_round {md : Region.Mode} (l : Nat) (hnd : (ops.all fun o => match o.op with | .defer _ => false | _ => true) = true) :
    ∀ (fuel : Nat) (listed : Array Bool) (a : Act) (w : World), wpAnyIn F n P md ops Q fuel listed a w → wpAnyIn (F.inRound l) n P md ops Q fuel listed a w := by
  intro fuel
  induction fuel with
  | zero => intro listed a w h; exact h
  | succ fuel ih =>
    intro listed a w h
    refine ⟨h.1, fun i hi => ?_⟩
    have h1 := wpOpIn_mono (fun a w h => ih (listed.setIfInBounds i true) a w h) (h.2 i hi)
    unfold wpOpIn at h1 ⊢
    cases ho : ops[i]? with
    | none => simp only [ho] at h1; exact h1
    | some o =>
      simp only [ho] at h1 ⊢
      have hno : ∀ c, o.op ≠ .defer c := fun c hc => by
        obtain ⟨hl, he⟩ := Array.getElem?_eq_some_iff.1 ho
        have h2 := Array.all_eq_true.1 hnd i hl
        rw [he, hc] at h2
        cases h2
      split
      · rename_i hw
        rw [if_pos hw] at h1
        unfold Oper.wpIn at h1 ⊢
        rw [Oper.semAt_plain _ _ _ hno] at h1 ⊢
        refine ⟨h1.1, ?_⟩
        have h3 := h1.2
        generalize (execOp a.eval o).run P w = r at h3 ⊢
        cases r with
        | ok x w' => cases x <;> exact h3
        | halt x w' => cases x <;> exact h3
      · rename_i hw
        rw [if_neg hw] at h1
        exact h1

end

theorem cell_newg' {w : World} {t : TypeId} {x : Value} {g : Nat} (hg : g = w.heap.size) (_h : x = x) : (w.alloc (.cells #[x] t)).cell? ⟨g, 0, none⟩ = some x := by
  subst hg
  rw [cell_of_row _ _ _ _ _ _ (heap_alloc_new _ _)]
  rfl

theorem frozen_newg {w : World} {t : TypeId} {x : Value} {g : Nat} (hg : g = w.heap.size) : (w.alloc (.cells #[x] t)).frozen? ⟨g, 0, none⟩ = false := by
  subst hg
  simp

theorem drop_rev {t : List Int} {k : Nat} (hk : k < t.length) : ∃ c, t.reverse[k]? = some c ∧ t.drop (t.length - (k + 1)) = c :: t.drop (t.length - k) ∧ t = t.take (t.length - (k + 1)) ++ c :: t.drop (t.length - k) := by
  have hj : t.length - (k + 1) < t.length := by omega
  refine ⟨t[t.length - (k + 1)], ?_, ?_, ?_⟩
  · rw [List.getElem?_reverse hk, show t.length - 1 - k = t.length - (k + 1) by omega]
    exact List.getElem?_eq_getElem hj
  · rw [List.drop_eq_getElem_cons hj, show t.length - (k + 1) + 1 = t.length - k by omega]
  · have h1 := List.take_append_drop (t.length - (k + 1)) t
    rw [List.drop_eq_getElem_cons hj, show t.length - (k + 1) + 1 = t.length - k by omega] at h1
    exact h1.symm

/-- The frame of a round. -/
def growA (sv v : Value) (B : Nat) (t : List Int) (k : Nat) : Act :=
  { tmps := #[sv, v, .pointer (some ⟨B, 0, none⟩), undef, .nilIface, .pointer (some ⟨B + 1, 0, none⟩), undef, .int .i64 (t.reverse[k]?.getD 0), undef, undef, v, .func (.func 58) #[] #[.pointer (some ⟨B + 1 + 1, 0, none⟩)], .int .i64 ((t.length - 1 - k : Nat) : Int), .int .i64 (t.reverse[k]?.getD 0), undef, undef, undef, undef, undef, undef, undef, undef, undef, undef, undef, undef, undef, undef, undef, undef, undef, undef, undef, undef, undef, undef, undef, undef, undef, undef, undef, undef, undef, undef, undef], defers := [] }

end Go.Proofs.YthjghdpiokpnfaaDoor

/- The tree of a right term, of package lpo: where grow stands. -/
namespace Go.Proofs.YthjghdpiokpnfaaDoor
open Go.RowKit Go.Maps Go.Shelf

attribute [local go_sem] Oper.semAt_some

theorem growE_sizes (sig : List Sy) (u : List Int) : sizeL (growE sig u) = u.length := by
  rw [← sizeL_rev, ← size_rowL, growE_row]

theorem growE_code {sig : List Sy} (ha : ArOk sig) (p : List Int) (c : Int) (u : List Int) (m : Int) (i : Nat) (hm : 1 ≤ m) (h : firstT sig m i (p ++ c :: u) = ((i : Int) + (p ++ c :: u).length, 0)) (hv : ¬ c < 0) : c.toNat < sig.length ∧ arN sig c ≤ (growE sig u).length := by
  have := grow_code ha p c u m i hm h hv
  rw [← growE_shape, List.length_map] at this
  exact this

/-- Where grow stands: what begins first in the row is the last one; it begins at p. -/
structure GLp (w W : World) (S : Nat → Nat → Value) (sv v gv : Value) (vals : List Value) (st : List Te) (p : Nat) : Prop where
  box : W.cell? ⟨w.heap.size + 2, 0, none⟩ = some gv
  frz : W.frozen? ⟨w.heap.size + 2, 0, none⟩ = false
  sigb : W.cell? ⟨w.heap.size, 0, none⟩ = some sv
  rowb : W.cell? ⟨w.heap.size + 1, 0, none⟩ = some v
  bck : W.cell? ⟨w.heap.size + 3, 0, none⟩ = some v
  own : W.ownsRow (w.heap.size + 4) 67 1 gv vals.length vals
  tv : TLl W (fun b => w.heap.size + 4 ≤ b ∧ b < W.heap.size ∧ gv.ownBlock ≠ some b) S vals.reverse st.reverse p
  bel : Below w.heap.size w W
  sz : w.heap.size + 4 ≤ W.heap.size

theorem GLp.put {w W : World} {S : Nat → Nat → Value} {sv v gv : Value} {vals : List Value} {st : List Te} {p : Nat} (h : GLp w W S sv v gv vals st p) {l : Nat} {o o' : Obj} (hl : w.heap.size + 4 ≤ l) (ho : W.heap[l]? = some o) (hc : o.isCells = false) : GLp w (W.putObj l o') S sv v gv vals st p := by
  have hsz : (W.putObj l o').heap.size = W.heap.size := by simp [World.putObj]
  refine ⟨cell_putObj ho hc h.box, ?_, cell_putObj ho hc h.sigb, cell_putObj ho hc h.rowb, cell_putObj ho hc h.bck, ownsRow_putObj h.own _ ho hc, h.tv.keep (fun b o x _ hx => cell_putObj ho hc hx) (fun b hb => ⟨hb.1, by rw [hsz]; exact hb.2.1, hb.2.2⟩), ?_, by rw [hsz]; exact h.sz⟩
  · rw [frozen_same (World.putObj_heap_other (by simp only; omega))]
    exact h.frz
  · exact ⟨h.bel.os, h.bel.tape, h.bel.output, by rw [hsz]; exact h.bel.size, fun k hk => (World.putObj_heap_other (by omega)).trans (h.bel.block k hk)⟩

/-- What changed nothing that lay changes nothing here. -/
theorem GLp.later {w W W' : World} {S : Nat → Nat → Value} {sv v gv : Value} {vals : List Value} {st : List Te} {p : Nat} (h : GLp w W S sv v gv vals st p) (hb : Below W.heap.size W W') : GLp w W' S sv v gv vals st p := by
  have hk := Kp.of_below hb
  exact ⟨hk.cell _ _ h.box, by rw [frozen_same (hb.block _ (by have := h.sz; simp only; omega))]; exact h.frz, hk.cell _ _ h.sigb, hk.cell _ _ h.rowb, hk.cell _ _ h.bck, ownsRow_later h.own hb,
    h.tv.keep (fun b o x _ hx => hk.cell _ _ hx) (fun b hb2 => ⟨hb2.1, Nat.lt_of_lt_of_le hb2.2.1 hb.size, hb2.2.2⟩), below_step h.bel hb, Nat.le_trans h.sz hb.size⟩

/-- A tree joined, and the box set. -/
theorem GLp.push (ty : TypeId) {w W W1 : World} {S : Nat → Nat → Value} {sv v gv u : Value} {vals : List Value} {st : List Te} {k p p' : Nat} {T : Te} {ao : Option Addr} {cap : Nat} (h : GLp w W S sv v gv vals st p) (hgv : gv = .slice ao vals.length cap) (hk : k ≤ vals.length) (hb : Below W.heap.size W W1)
    (hT : TL W1 (fun b => w.heap.size + 4 ≤ b ∧ b < W1.heap.size ∧ gv.ownBlock ≠ some b) S u T p') (hp : p' + T.size = p + sizeL (st.drop k)) (hl : (k + 1) * 16 ≤ 140737488355328) :
    ∃ g cp W2, (Builtin.append_ #[106, 106] ty #[.slice ao k cap, .slice (some ⟨W1.heap.size, 0, none⟩) 1 1]).run Tryd.prog (W1.alloc (.cells #[u] 67)) = .ok (.slice (some ⟨g, 0, none⟩) (k + 1) cp) W2 ∧
      W2.cell? ⟨w.heap.size + 2, 0, none⟩ = some gv ∧ W2.frozen? ⟨w.heap.size + 2, 0, none⟩ = false ∧
      GLp w (W2.setCell ⟨w.heap.size + 2, 0, none⟩ (.slice (some ⟨g, 0, none⟩) (k + 1) cp)) S sv v (.slice (some ⟨g, 0, none⟩) (k + 1) cp) (vals.take k ++ [u]) (st.take k ++ [T]) p' ∧ KeepsFrom (w.heap.size + 4) W (W2.setCell ⟨w.heap.size + 2, 0, none⟩ (.slice (some ⟨g, 0, none⟩) (k + 1) cp)) := by
  obtain ⟨i0, hi, hz0, hz1, hz2⟩ := info_parts info_treeL
  have ha := below_alloc (w := W1) (.cells #[u] 67)
  have hba := below_step hb ha
  have hown := h.own
  rw [hgv] at hown
  have hcut := own_cut (ownsRow_later hown hba) hk
  have hsz := h.sz
  obtain ⟨v', W2, hr, h2, h3, _, h5⟩ := run_append_own_at (P := Tryd.prog) (W1.alloc (.cells #[u] 67)) (w.heap.size + 4) 106 ty 67 i0 _ 1 16 under_treesL hi hz0 hz1 hz2 rfl (by decide) (.slice ao k cap) k (vals.take k) hcut ⟨W1.heap.size, 0, none⟩ 1 1 [u] rfl
    (fun j y hj => by
      rw [Addr.add_lit, Nat.zero_add]
      cases j with
      | zero =>
        simp at hj
        subst hj
        rw [cell_of_row _ _ _ _ _ _ (heap_alloc_new _ _)]
        rfl
      | succ j => simp at hj) (fun y hy => by simp at hy; subst hy; exact hT.ifv.one) (by unfold maxLen; omega) (by omega) (Nat.le_trans hsz hba.size)
  obtain ⟨g, cp, rfl⟩ := own_form h2 (by omega)
  have hge := own_ge h2
  -- the block of the slice, before
  have hob : (Value.slice ao k cap).ownBlock = gv.ownBlock := by rw [hgv]; cases ao <;> rfl
  rw [hob] at h3 h5
  have hgb : ∀ j, gv.ownBlock = some j → w.heap.size + 4 ≤ j := fun j hj => own_blk h.own hj
  have hold : ∀ b, b < w.heap.size + 4 → W2.heap[b]? = W.heap[b]? := fun b hb2 => by
    rw [h3.block b (Nat.lt_of_lt_of_le (Nat.lt_of_lt_of_le hb2 hsz) hba.size) (fun e => by have := hgb b e.symm; omega)]
    exact hba.block b (Nat.lt_of_lt_of_le hb2 hsz)
  have hbox : W2.cell? ⟨w.heap.size + 2, 0, none⟩ = some gv := by
    rw [World.cell?_of_block (hold _ (by simp only; omega))]
    exact h.box
  have hfrz : W2.frozen? ⟨w.heap.size + 2, 0, none⟩ = false := by
    rw [frozen_same (hold _ (by simp only; omega))]
    exact h.frz
  -- cells away from the slice's block stay
  have hfar : ∀ (b o : Nat) (x : Value), w.heap.size + 4 ≤ b → b < (W1.alloc (.cells #[u] 67)).heap.size → gv.ownBlock ≠ some b → (W1.alloc (.cells #[u] 67)).cell? ⟨b, o, none⟩ = some x → (W2.setCell ⟨w.heap.size + 2, 0, none⟩ (.slice (some ⟨g, 0, none⟩) (k + 1) cp)).cell? ⟨b, o, none⟩ = some x := fun b o x hb1 hb2 hb3 hx => by
    rw [World.cell?_setCell_far _ _ _ _ (by simp only; omega), World.cell?_of_block (h3.block b hb2 (fun e => hb3 e.symm))]
    exact hx
  have hne : ∀ b, b < (W1.alloc (.cells #[u] 67)).heap.size → gv.ownBlock ≠ some b → g ≠ b := fun b hb1 hb2 e => by
    subst e
    rcases h5 with h5 | h5
    · exact hb2 (by rw [← h5]; rfl)
    · simp only [Value.ownBlock, Option.some.injEq] at h5
      omega
  have hs2 : (W2.setCell ⟨w.heap.size + 2, 0, none⟩ (.slice (some ⟨g, 0, none⟩) (k + 1) cp)).heap.size = W2.heap.size := by simp [World.setCell]
  have hsw : W.heap.size ≤ (W1.alloc (.cells #[u] 67)).heap.size := hba.size
  have hvl : (vals.take k ++ [u]).length = k + 1 := by rw [List.length_append, List.length_take, Nat.min_eq_left hk]; rfl
  refine ⟨g, cp, W2, hr, hbox, hfrz, ⟨World.cell?_setCell_same' _ _ _ (by rw [hbox]; rfl), by rw [World.frozen?_setCell]; exact hfrz, ?_, ?_, ?_, ?_, ?_, ?_, ?_⟩, ?_⟩
  · rw [World.cell?_setCell_far _ _ _ _ (by simp only; omega), World.cell?_of_block (hold _ (by simp only; omega))]
    exact h.sigb
  · rw [World.cell?_setCell_far _ _ _ _ (by simp only; omega), World.cell?_of_block (hold _ (by simp only; omega))]
    exact h.rowb
  · rw [World.cell?_setCell_far _ _ _ _ (by simp only; omega), World.cell?_of_block (hold _ (by simp only; omega))]
    exact h.bck
  · rw [hvl]
    exact h2.kept (set_grownT W2 (w.heap.size + 2) 0 _) (.inr (by simp only [Value.ownBlock, ne_eq, Option.some.injEq]; omega))
  · rw [List.reverse_append, List.reverse_append, List.reverse_singleton, List.reverse_singleton]
    have hlk : vals.length = st.length := by have := h.tv.len; rw [List.length_reverse, List.length_reverse] at this; exact this
    have hd1 : (vals.take k).reverse = vals.reverse.drop (vals.length - k) := by
      have e1 : vals.reverse = (vals.drop k).reverse ++ (vals.take k).reverse := by rw [← List.reverse_append, List.take_append_drop]
      rw [e1, show vals.length - k = (vals.drop k).reverse.length by rw [List.length_reverse, List.length_drop], List.drop_left]
    have hd2 : (st.take k).reverse = st.reverse.drop (vals.length - k) := by
      have e1 : st.reverse = (st.drop k).reverse ++ (st.take k).reverse := by rw [← List.reverse_append, List.take_append_drop]
      rw [e1, hlk, show st.length - k = (st.drop k).reverse.length by rw [List.length_reverse, List.length_drop], List.drop_left]
    have hd3 : sizeL (st.reverse.take (vals.length - k)) = sizeL (st.drop k) := by
      have e1 : st.reverse = (st.drop k).reverse ++ (st.take k).reverse := by rw [← List.reverse_append, List.take_append_drop]
      rw [e1, hlk, show st.length - k = (st.drop k).reverse.length by rw [List.length_reverse, List.length_drop], List.take_left, sizeL_rev]
    have htk := (h.tv.take (vals.length - k)).2
    rw [hd3, ← hp] at htk
    rw [← hd1, ← hd2] at htk
    refine ⟨?_, ?_⟩
    rotate_left
    · refine htk.keep (fun b o x hA hx => hfar b o x hA.1 (Nat.lt_of_lt_of_le hA.2.1 hsw) hA.2.2 ((Kp.of_below hba).cell _ _ hx)) (fun b hA => ⟨hA.1, ?_, ?_⟩)
      · rw [hs2]; exact Nat.lt_of_lt_of_le (Nat.lt_of_lt_of_le hA.2.1 hsw) h3.size
      · simp only [Value.ownBlock, ne_eq, Option.some.injEq]; exact hne b (Nat.lt_of_lt_of_le hA.2.1 hsw) hA.2.2
    · refine hT.keep (fun b o x hA hx => hfar b o x hA.1 (Nat.lt_of_lt_of_le hA.2.1 ha.size) hA.2.2 ((Kp.of_below ha).cell _ _ hx)) (fun b hA => ⟨hA.1, ?_, ?_⟩)
      · rw [hs2]; exact Nat.lt_of_lt_of_le (Nat.lt_of_lt_of_le hA.2.1 ha.size) h3.size
      · simp only [Value.ownBlock, ne_eq, Option.some.injEq]; exact hne b (Nat.lt_of_lt_of_le hA.2.1 ha.size) hA.2.2
  · exact ((below_step h.bel hba).grown h3 (below_step h.bel hba).size (fun j hj => by have := hgb j hj; omega)).setCell (p := ⟨w.heap.size + 2, 0, none⟩) (by simp only; omega) _
  · rw [hs2]
    exact Nat.le_trans hsz (Nat.le_trans hsw h3.size)
  · refine ⟨by rw [hs2]; exact Nat.le_trans hsw h3.size, fun j o hj ho hoc => ?_⟩
    have hjl := (Array.getElem?_eq_some_iff.1 ho).1
    rw [heap_setCell_other _ _ _ _ (show j ≠ w.heap.size + 2 by omega), h3.block j (Nat.lt_of_lt_of_le hjl hsw) (fun e => ?_), hba.block j hjl]
    · exact ho
    · rcases h.own.2 with ⟨h8, _⟩ | ⟨g8, c8, cur8, h8, _, hg8, _⟩
      · rw [h8] at e; cases e
      · rw [h8] at e
        simp only [Value.ownBlock, Option.some.injEq] at e
        subst e
        rw [hg8] at ho
        cases ho
        simp [Obj.isCells] at hoc

end Go.Proofs.YthjghdpiokpnfaaDoor
