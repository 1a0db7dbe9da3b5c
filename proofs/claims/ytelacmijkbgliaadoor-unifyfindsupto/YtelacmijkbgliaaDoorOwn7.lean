/- Texts of the proof, one behind the other. -/
import Derived.Test.YtelacmijkbgliaaDoorOwn6
import Derived.Test.YtelacmijkbgliaaDoorOwn1
import Derived.Test.YtelacmijkbgliaaDoorOwn3
/- The document's board of two right terms, plainly: which places wait, from the back; it is one. -/
namespace Go.Proofs.YtelacmijkbgliaaDoor
open Go.RowKit

/-- Where the terms begin that wait for one above them: the first one ahead. -/
def stkR (sig : List Sy) : Nat → List Int → List Nat
  | _, [] => []
  | p, c :: u => p :: (stkR sig (p + 1) u).drop (if c < 0 then 0 else arN sig c)

/-- The places of the arguments, counted from a place on. -/
def kidR (sig : List Sy) (f : Nat) : Nat → List Int → List (List Nat)
  | _, [] => []
  | p, c :: u => (if c < 0 then [] else ((stkR sig (p + 1) u).take (arN sig c)).map (f + ·)) :: kidR sig f (p + 1) u

theorem kidR_len (sig : List Sy) (f : Nat) : ∀ (u : List Int) (p : Nat), (kidR sig f p u).length = u.length
  | [], _ => rfl
  | c :: u, p => by rw [kidR, List.length_cons, List.length_cons, kidR_len sig f u]

theorem stk_len (sig : List Sy) : ∀ (u : List Int) (p : Nat), (stkR sig p u).length = (growR sig u).length
  | [], _ => rfl
  | c :: u, p => by
    show _ = (growStep sig (growR sig u) c).length
    rw [stkR, List.length_cons, List.length_drop, stk_len sig u]
    unfold growStep
    split
    · rw [List.length_append]; simp
    · rw [List.length_append, List.length_take, List.length_singleton]
      omega

theorem stk_in (sig : List Sy) : ∀ (u : List Int) (p s : Nat), s ∈ stkR sig p u → p ≤ s ∧ s < p + u.length
  | [], p, s, h => by cases h
  | c :: u, p, s, h => by
    rw [stkR] at h
    rw [List.length_cons]
    rcases List.mem_cons.1 h with rfl | h
    · omega
    · have := stk_in sig u (p + 1) s (List.mem_of_mem_drop h)
      omega

theorem kidR_at (sig : List Sy) (f : Nat) : ∀ (u : List Int) (p j : Nat) (c : Int), u[j]? = some c → (kidR sig f p u)[j]? = some (if c < 0 then [] else ((stkR sig (p + j + 1) (u.drop (j + 1))).take (arN sig c)).map (f + ·))
  | [], p, j, c, h => by simp at h
  | d :: u, p, 0, c, h => by
    simp only [List.getElem?_cons_zero, Option.some.injEq] at h
    subst h
    rfl
  | d :: u, p, j + 1, c, h => by
    rw [kidR, List.getElem?_cons_succ, kidR_at sig f u (p + 1) j c (by simpa using h), List.drop_succ_cons, show p + 1 + j + 1 = p + (j + 1) + 1 by omega]

/-- What waits: terms one behind the other. -/
theorem kid_terms {sig : List Sy} (ha : ArOk sig) {X : List Int} {K : List (List Nat)} {f : Nat} : ∀ (u q : List Int) (p : Nat), firstT sig 1 0 (q ++ u) = (((q ++ u).length : Int), 0) → (∀ j, j < u.length → X[f + p + j]? = u[j]? ∧ K[f + p + j]? = (kidR sig f p u)[j]?) →
    ∃ ts : List (List Int), u = ts.flatten ∧ ts.length = (stkR sig p u).length ∧ ∀ (k s : Nat) (t : List Int), (stkR sig p u)[k]? = some s → ts[k]? = some t → TmB X K (f + s) t
  | [], q, p, _, _ => ⟨[], rfl, rfl, fun k s t h => by simp [stkR] at h⟩
  | c :: u, q, p, hf, hX => by
    obtain ⟨ts, h1, h2, h3⟩ := kid_terms ha (X := X) (K := K) (f := f) u (q ++ [c]) (p + 1) (by simpa using hf) (fun j hj => by
      have := hX (j + 1) (by simpa using hj)
      rw [show f + p + (j + 1) = f + (p + 1) + j by omega, kidR] at this
      simpa using this)
    have h0 := hX 0 (by simp)
    rw [kidR] at h0
    simp only [Nat.add_zero, List.getElem?_cons_zero] at h0
    by_cases hc : c < 0
    · refine ⟨[c] :: ts, by rw [List.flatten_cons, ← h1]; rfl, by rw [stkR, if_pos hc, List.drop_zero, List.length_cons, List.length_cons, h2], fun k s t hk ht => ?_⟩
      rw [stkR, if_pos hc, List.drop_zero] at hk
      cases k with
      | zero =>
        simp only [List.getElem?_cons_zero, Option.some.injEq] at hk ht
        subst hk ht
        exact .var h0.1 hc
      | succ k => exact h3 k s t (by simpa using hk) (by simpa using ht)
    · obtain ⟨g1, g2⟩ := grow_code ha q c u 1 0 (by omega) (by rw [hf]; simp) hc
      rw [← stk_len sig u (p + 1), ← h2] at g2
      rw [if_neg hc] at h0
      refine ⟨(c :: (ts.take (arN sig c)).flatten) :: ts.drop (arN sig c), ?_, ?_, fun k s t hk ht => ?_⟩
      · rw [List.flatten_cons, List.cons_append, ← List.flatten_append, List.take_append_drop, ← h1]
      · rw [stkR, if_neg hc, List.length_cons, List.length_cons, List.length_drop, List.length_drop, h2]
      · rw [stkR, if_neg hc] at hk
        cases k with
        | zero =>
          simp only [List.getElem?_cons_zero, Option.some.injEq] at hk ht
          subst hk ht
          refine .app h0.1 hc h0.2 (by rw [List.length_map, List.length_take, List.length_take, h2]) (fun k x t hx ht => ?_)
          rw [List.getElem?_map] at hx
          cases hs : ((stkR sig (p + 1) u).take (arN sig c))[k]? with
          | none => rw [hs] at hx; cases hx
          | some s =>
            rw [hs] at hx
            cases hx
            rw [List.getElem?_take] at hs ht
            split at hs
            · rename_i h9
              rw [if_pos h9] at ht
              exact h3 k s t hs ht
            · cases hs
        | succ k =>
          simp only [List.getElem?_cons_succ, List.getElem?_drop] at hk ht
          exact h3 _ s t hk ht

theorem tm_whole {sig : List Sy} (ha : ArOk sig) {X : List Int} {K : List (List Nat)} {f : Nat} {t : List Int} (ht : rowE sig t = 0) (hX : ∀ j, j < t.length → X[f + j]? = t[j]? ∧ K[f + j]? = (kidR sig f 0 t)[j]?) : TmB X K f t := by
  obtain ⟨ts, h1, h2, h3⟩ := kid_terms ha (X := X) (K := K) (f := f) t [] 0 (row_first.1 ht) (fun j hj => by rw [Nat.add_zero]; exact hX j hj)
  obtain ⟨T, hT, _⟩ := grow_one ha ht
  have hl := stk_len sig t 0
  rw [hT] at hl
  have hs : (stkR sig 0 t)[0]? = some 0 := by
    cases t with
    | nil => simp [stkR] at hl
    | cons c u => rfl
  match ts, h2 with
  | [u], _ =>
    have h9 := h3 0 0 u hs rfl
    rw [h1]
    simpa using h9
  | [], h2 => rw [hl] at h2; simp at h2
  | _ :: _ :: _, h2 => rw [hl] at h2; simp at h2

/-- The board of two right terms. -/
theorem board_ok {sig : List Sy} (ha : ArOk sig) {a b : List Int} (hra : rowE sig a = 0) (hrb : rowE sig b = 0) : BOk6 sig (a ++ b) (kidR sig 0 0 a ++ kidR sig a.length 0 b) ∧ TmB (a ++ b) (kidR sig 0 0 a ++ kidR sig a.length 0 b) 0 a ∧ TmB (a ++ b) (kidR sig 0 0 a ++ kidR sig a.length 0 b) a.length b := by
  have code : ∀ {t : List Int}, rowE sig t = 0 → ∀ (j : Nat) (c : Int), t[j]? = some c → (-1048576 ≤ c ∧ (¬ c < 0 → c.toNat < sig.length)) ∧ ∀ f, ∃ ks, (kidR sig f 0 t)[j]? = some ks ∧ (c < 0 → ks = []) ∧ (¬ c < 0 → ks.length = arN sig c) ∧ ∀ x ∈ ks, f + j < x ∧ x < f + t.length := fun {t} ht j c hc => by
    have h1 := row_first.1 ht
    have hjl := (List.getElem?_eq_some_iff.1 hc).1
    have hcut : t = t.take j ++ c :: t.drop (j + 1) := by
      have := (List.getElem?_eq_some_iff.1 hc).2
      rw [← this, List.getElem_cons_drop, List.take_append_drop]
    refine ⟨⟨codes_of ht (List.mem_of_getElem? hc), fun h0 => ?_⟩, fun f => ⟨_, kidR_at sig f t 0 j c hc, fun h0 => by rw [if_pos h0], fun h0 => ?_, fun x hx => ?_⟩⟩
    · rw [hcut] at h1
      exact (grow_code ha (t.take j) c (t.drop (j + 1)) 1 0 (by omega) (by rw [h1]; simp) h0).1
    · rw [if_neg h0, List.length_map, List.length_take, stk_len]
      rw [hcut] at h1
      have := (grow_code ha (t.take j) c (t.drop (j + 1)) 1 0 (by omega) (by rw [h1]; simp) h0).2
      omega
    · by_cases h0 : c < 0
      · rw [if_pos h0] at hx; cases hx
      · rw [if_neg h0] at hx
        obtain ⟨s, hs, rfl⟩ := List.mem_map.1 hx
        have := stk_in sig _ _ _ (List.mem_of_mem_take hs)
        rw [List.length_drop] at this
        omega
  have la := kidR_len sig 0 a 0
  have lb := kidR_len sig a.length b 0
  have hat : ∀ (i : Nat) (c : Int), (a ++ b)[i]? = some c → (-1048576 ≤ c ∧ (¬ c < 0 → c.toNat < sig.length)) ∧ ∃ ks, (kidR sig 0 0 a ++ kidR sig a.length 0 b)[i]? = some ks ∧ (c < 0 → ks = []) ∧ (¬ c < 0 → ks.length = arN sig c) ∧ ∀ x ∈ ks, i < x ∧ x < (a ++ b).length := fun i c hc => by
    rw [List.length_append]
    by_cases hi : i < a.length
    · rw [List.getElem?_append_left hi] at hc
      obtain ⟨h1, h2⟩ := code hra i c hc
      obtain ⟨ks, h3, h4, h5, h6⟩ := h2 0
      exact ⟨h1, ks, by rw [List.getElem?_append_left (by omega)]; exact h3, h4, h5, fun x hx => by have := h6 x hx; omega⟩
    · rw [List.getElem?_append_right (by omega)] at hc
      obtain ⟨h1, h2⟩ := code hrb (i - a.length) c hc
      obtain ⟨ks, h3, h4, h5, h6⟩ := h2 a.length
      exact ⟨h1, ks, by rw [List.getElem?_append_right (by omega), la]; exact h3, h4, h5, fun x hx => by have := h6 x hx; omega⟩
  refine ⟨⟨by rw [List.length_append, List.length_append, la, lb], fun i c hc => (hat i c hc).1, fun i c ks hc hk => ?_, fun i ks hk j hj => ?_⟩, tm_whole ha hra fun j hj => ?_, tm_whole ha hrb fun j hj => ?_⟩
  · obtain ⟨_, ks', h1, h2, h3, _⟩ := hat i c hc
    rw [hk] at h1
    cases h1
    exact ⟨h2, h3⟩
  · have hil : i < (a ++ b).length := by
      have := (List.getElem?_eq_some_iff.1 hk).1
      rw [List.length_append, la, lb] at this
      rw [List.length_append]
      exact this
    obtain ⟨_, ks', h1, _, _, h4⟩ := hat i _ (List.getElem?_eq_getElem hil)
    rw [hk] at h1
    cases h1
    exact h4 j hj
  · rw [Nat.zero_add, List.getElem?_append_left hj, List.getElem?_append_left (by omega)]
    exact ⟨rfl, rfl⟩
  · rw [List.getElem?_append_right (by omega), List.getElem?_append_right (by omega), la, Nat.add_sub_cancel_left]
    exact ⟨rfl, rfl⟩

end Go.Proofs.YtelacmijkbgliaaDoor

/- The search of package graph in memory. -/
namespace Go.Proofs.YtelacmijkbgliaaDoor
open Go.RowKit Go.Maps Go.BigFrame

def natL (xs : List Nat) : List Int := xs.map fun (x : Nat) => (x : Int)

theorem natL_len (xs : List Nat) : (natL xs).length = xs.length := by simp [natL]

theorem natL_get {xs : List Nat} {k x : Nat} (h : xs[k]? = some x) : (natL xs)[k]? = some (x : Int) := by simp [natL, h]

theorem natL_take (xs : List Nat) (k : Nat) : (natL xs).take k = natL (xs.take k) := by simp [natL]

theorem natL_snoc (xs : List Nat) (x : Nat) : natL (xs ++ [x]) = natL xs ++ [(x : Int)] := by simp [natL]

theorem own_ne {w : World} {base b n : Nat} {e t : TypeId} {s : Nat} {v : Value} {xs : List Value} {cs : Array Value} {fr : Nat × Nat} (h : w.ownsRow base e s v n xs) (hb : w.heap[b]? = some (.cells cs t fr)) (hne : t ≠ e) : v.ownBlock ≠ some b := by
  rcases h.2 with ⟨rfl, _⟩ | ⟨g, cap, cur, rfl, _, hg, _⟩
  · simp [Value.ownBlock]
  · intro e2
    cases e2
    rw [hb] at hg
    simp only [Option.some.injEq, Obj.cells.injEq] at hg
    exact hne hg.2.1

theorem ownsRow_kept {w w' : World} {base n : Nat} {e : TypeId} {s : Nat} {v : Value} {xs : List Value} {row : Option Nat} (h : w.ownsRow base e s v n xs) (hg : w.grownBy w' row) (hr : v.ownBlock = none ∨ v.ownBlock ≠ row) : w'.ownsRow base e s v n xs := by
  refine ⟨h.1, ?_⟩
  rcases h.2 with h | ⟨g, cap, cur, rfl, hb, hgg, r⟩
  · exact .inl h
  · refine .inr ⟨g, cap, cur, rfl, hb, (hg.block g (Array.getElem?_eq_some_iff.1 hgg).1 ?_).trans hgg, r⟩
    rcases hr with hr | hr
    · cases hr
    · exact hr

/-- Rows of numbers of one's own, each in a block of its own. -/
structure Owns (w : World) (base : Nat) (l : List (Value × List Int)) : Prop where
  own : ∀ (i : Nat) (v : Value) (xs : List Int), l[i]? = some (v, xs) → OwI w base v xs
  dis : ∀ (i j : Nat) (v u : Value) (xs ys : List Int), i ≠ j → l[i]? = some (v, xs) → l[j]? = some (u, ys) → Dis v u

theorem Owns.step {w w' : World} {base i : Nat} {l : List (Value × List Int)} {v v' : Value} {xs xs' : List Int} (h : Owns w base l) (hi : l[i]? = some (v, xs)) (hg : w.grownBy w' v.ownBlock) (ho : OwI w' base v' xs')
    (hb : v'.ownBlock = v.ownBlock ∨ ∃ m, v'.ownBlock = some m ∧ w.heap.size ≤ m) : Owns w' base (l.set i (v', xs')) := by
  have hil := (List.getElem?_eq_some_iff.1 hi).1
  have fresh : ∀ (j : Nat) (u : Value) (ys : List Int), i ≠ j → l[j]? = some (u, ys) → Dis v' u := fun j u ys hij hj => by
    rcases hb with hb | ⟨m, hm, hle⟩
    · intro g hg2 hu
      rw [hb] at hg2
      exact h.dis i j v u xs ys hij hi hj g hg2 hu
    · intro g hg2 hu
      rw [hm] at hg2
      cases hg2
      have := own_blk_lt (h.own j u ys hj).2 hu
      omega
  have get : ∀ (j : Nat) (u : Value) (ys : List Int), (l.set i (v', xs'))[j]? = some (u, ys) → (i = j ∧ u = v' ∧ ys = xs') ∨ (i ≠ j ∧ l[j]? = some (u, ys)) := fun j u ys hj => by
    by_cases e : i = j
    · subst e
      rw [List.getElem?_set_self hil] at hj
      simp only [Option.some.injEq, Prod.mk.injEq] at hj
      exact .inl ⟨rfl, hj.1.symm, hj.2.symm⟩
    · rw [List.getElem?_set_ne e] at hj
      exact .inr ⟨e, hj⟩
  refine ⟨fun j u ys hj => ?_, fun j k u t ys zs hjk hj hk => ?_⟩
  · rcases get j u ys hj with ⟨_, rfl, rfl⟩ | ⟨hij, hj⟩
    · exact ho
    · exact (h.own j u ys hj).kept hg (h.dis j i u v ys xs (fun e => hij e.symm) hj hi).keep
  · rcases get j u ys hj with ⟨e1, e2, _⟩ | ⟨hij, hj2⟩
    · rcases get k t zs hk with ⟨e3, _, _⟩ | ⟨_, hk2⟩
      · exact absurd (e1.symm.trans e3) hjk
      · rw [e2]; exact fresh k t zs (by rw [e1]; exact hjk) hk2
    · rcases get k t zs hk with ⟨_, e2, _⟩ | ⟨_, hk2⟩
      · rw [e2]; exact (fresh j u ys hij hj2).symm
      · exact h.dis j k u t ys zs hjk hj2 hk2

theorem Owns.later {w w' : World} {base : Nat} {l : List (Value × List Int)} (h : Owns w base l) (hb : Below w.heap.size w w') : Owns w' base l :=
  ⟨fun i v xs hi => (h.own i v xs hi).later hb, h.dis⟩

theorem Owns.kept {w w' : World} {base b : Nat} {l : List (Value × List Int)} {cs : Array Value} {t : TypeId} {fr : Nat × Nat} (h : Owns w base l) (hg : w.grownBy w' (some b)) (hb : w.heap[b]? = some (.cells cs t fr)) (hne : t ≠ 3) : Owns w' base l :=
  ⟨fun i v xs hi => (h.own i v xs hi).kept hg (.inr (own_ne (h.own i v xs hi).2 hb hne)), h.dis⟩

/-- A fresh row more. -/
theorem Owns.snoc {w w' : World} {base : Nat} {l : List (Value × List Int)} {v : Value} {xs : List Int} (h : Owns w base l) (hb : Below w.heap.size w w') (ho : OwI w' w.heap.size v xs) (hbs : base ≤ w.heap.size) : Owns w' base (l ++ [(v, xs)]) := by
  have hl := h.later hb
  have fr : ∀ (j : Nat) (u : Value) (ys : List Int), l[j]? = some (u, ys) → Dis v u := fun j u ys hj g h1 h2 => by
    have := own_blk ho.2 h1
    have := own_blk_lt (h.own j u ys hj).2 h2
    omega
  have get : ∀ (i : Nat) (u : Value) (ys : List Int), (l ++ [(v, xs)])[i]? = some (u, ys) → l[i]? = some (u, ys) ∨ (i = l.length ∧ u = v ∧ ys = xs) := fun i u ys hi => by
    by_cases hil : i < l.length
    · rw [List.getElem?_append_left hil] at hi
      exact .inl hi
    · rw [List.getElem?_append_right (by omega)] at hi
      rcases e : i - l.length with _ | k
      · rw [e] at hi; simp at hi; exact .inr ⟨by omega, hi.1.symm, hi.2.symm⟩
      · rw [e] at hi; simp at hi
  refine ⟨fun i u ys hi => ?_, fun i j u t ys zs hij hi hj => ?_⟩
  · rcases get i u ys hi with hi | ⟨_, rfl, rfl⟩
    · exact hl.own i u ys hi
    · exact ho.mono hbs
  · rcases get i u ys hi with hi2 | ⟨e1, e2, _⟩
    · rcases get j t zs hj with hj2 | ⟨_, e4, _⟩
      · exact h.dis i j u t ys zs hij hi2 hj2
      · rw [e4]; exact (fr i u ys hi2).symm
    · rcases get j t zs hj with hj2 | ⟨e3, _, _⟩
      · rw [e2]; exact fr j t zs hj2
      · omega

/-- A row cut to its first elements. -/
theorem OwI.head {w : World} {base g n cap m : Nat} {xs : List Int} (h : OwI w base (.slice (some ⟨g, 0, none⟩) n cap) xs) (hm : m ≤ xs.length) : OwI w base (.slice (some ⟨g, 0, none⟩) m cap) (xs.take m) := by
  have hl : (xs.take m).length = m := by rw [List.length_take]; omega
  refine ⟨fun k x hk => h.1 k x ?_, ?_⟩
  · rw [List.getElem?_take] at hk
    split at hk
    · exact hk
    · cases hk
  · rw [hl]
    rcases h.2.2 with ⟨hv, _⟩ | ⟨g', cap', cur, hv, hb, hg, hc, hmx, hs, ht⟩
    · cases hv
    · simp only [Value.slice.injEq, Option.some.injEq, Addr.mk.injEq, and_true] at hv
      obtain ⟨rfl, rfl, rfl⟩ := hv
      refine ⟨by rw [List.length_map, hl, Nat.mul_one], .inr ⟨g, cap, cur, rfl, hb, hg, by omega, hmx, hs, ?_⟩⟩
      rw [Nat.mul_one] at ht ⊢
      rw [List.map_take, ← ht, List.take_take, Nat.min_eq_left hm]

theorem Owns.keptR {w w' : World} {base base2 n : Nat} {e : TypeId} {sz : Nat} {u : Value} {us : List Value} {l : List (Value × List Int)} (h : Owns w base l) (hg : w.grownBy w' u.ownBlock) (hr : w.ownsRow base2 e sz u n us) (hne : 3 ≠ e) : Owns w' base l :=
  ⟨fun i v xs hi => (h.own i v xs hi).kept hg (ownsRow_apart (h.own i v xs hi).2 hr hne), h.dis⟩

end Go.Proofs.YtelacmijkbgliaaDoor

/- The document's board in memory. -/
namespace Go.Proofs.YtelacmijkbgliaaDoor
open Go.RowKit Go.Maps Go.BigFrame

/-- A board of one's own: codes, rows of arguments, classes. -/
structure BdB (w0 w : World) (b : Nat) (cv kv lv : Value) (vs : List Value) (X : List Int) (K : List (List Nat)) (C : List Nat) : Prop where
  bel : Below w0.heap.size w0 w
  low : w0.heap.size ≤ b
  blk : w.heap[b]? = some (.cells #[cv, kv, lv] 80 (0, 0))
  row : w.ownsRow w0.heap.size 23 1 kv K.length vs
  len : vs.length = K.length
  own : Owns w w0.heap.size ((cv, X) :: (lv, natL C) :: vs.zip (K.map natL))

theorem BdB.later {w0 w w' : World} {b : Nat} {cv kv lv : Value} {vs : List Value} {X : List Int} {K : List (List Nat)} {C : List Nat} (h : BdB w0 w b cv kv lv vs X K C) (hb : Below w.heap.size w w') : BdB w0 w' b cv kv lv vs X K C :=
  ⟨below_step h.bel hb, h.low, (hb.block b (Array.getElem?_eq_some_iff.1 h.blk).1).trans h.blk, ownsRow_later h.row hb, h.len, h.own.later hb⟩

theorem BdB.cells {w0 w : World} {b : Nat} {cv kv lv : Value} {vs : List Value} {X : List Int} {K : List (List Nat)} {C : List Nat} (h : BdB w0 w b cv kv lv vs X K C) : w.cell? ⟨b, 0, none⟩ = some cv ∧ w.cell? ⟨b, 1, none⟩ = some kv ∧ w.cell? ⟨b, 2, none⟩ = some lv := by
  refine ⟨?_, ?_, ?_⟩ <;> rw [cell_of_row _ _ _ _ _ _ h.blk] <;> rfl

theorem BdB.cod {w0 w : World} {b : Nat} {cv kv lv : Value} {vs : List Value} {X : List Int} {K : List (List Nat)} {C : List Nat} (h : BdB w0 w b cv kv lv vs X K C) : OwI w w0.heap.size cv X := h.own.own 0 _ _ rfl

theorem BdB.cls {w0 w : World} {b : Nat} {cv kv lv : Value} {vs : List Value} {X : List Int} {K : List (List Nat)} {C : List Nat} (h : BdB w0 w b cv kv lv vs X K C) : OwI w w0.heap.size lv (natL C) := h.own.own 1 _ _ rfl

/-- What the slices are. -/
theorem BdB.shape {w0 w : World} {b : Nat} {cv kv lv : Value} {vs : List Value} {X : List Int} {K : List (List Nat)} {C : List Nat} (h : BdB w0 w b cv kv lv vs X K C) :
    (∃ a c, cv = .slice a X.length c) ∧ (∃ a c, kv = .slice a K.length c) ∧ ∃ a c, lv = .slice a C.length c := by
  obtain ⟨a1, c1, e1, _⟩ := h.cod.shape
  obtain ⟨a2, c2, e2, _⟩ := h.cls.shape
  rw [natL_len] at e2
  refine ⟨⟨a1, c1, e1⟩, ?_, ⟨a2, c2, e2⟩⟩
  rcases h.row.2 with ⟨hv, h0⟩ | ⟨g, cap, cur, hv, _⟩
  · exact ⟨none, 0, by rw [hv, h0]⟩
  · exact ⟨_, cap, hv⟩

/-- A number in a row that one owns. -/
theorem OwI.nat {w : World} {base : Nat} {v : Value} {xs : List Nat} (h : OwI w base v (natL xs)) {k x : Nat} (hk : xs[k]? = some x) : ∃ g cap, v = .slice (some ⟨g, 0, none⟩) xs.length cap ∧ base ≤ g ∧ w.cell? ⟨g, k, none⟩ = some (.int .i64 x) ∧ w.frozen? ⟨g, k, none⟩ = false := by
  have hlt := (List.getElem?_eq_some_iff.1 hk).1
  have h2 := h.2
  rcases h2.2 with ⟨hv, hn⟩ | ⟨g, cap, cur, rfl, hb, hg, hc, hm, hs, ht⟩
  · rw [natL_len] at hn
    omega
  · obtain ⟨q1, q2⟩ := OwI.at h (natL_get hk)
    exact ⟨g, cap, by rw [natL_len], hb, q1, q2⟩

theorem OwI.code {w : World} {base : Nat} {v : Value} {xs : List Int} (h : OwI w base v xs) {k : Nat} {x : Int} (hk : xs[k]? = some x) : ∃ g cap, v = .slice (some ⟨g, 0, none⟩) xs.length cap ∧ base ≤ g ∧ w.cell? ⟨g, k, none⟩ = some (.int .i64 x) ∧ w.frozen? ⟨g, k, none⟩ = false := by
  have hlt := (List.getElem?_eq_some_iff.1 hk).1
  have h2 := h.2
  rcases h2.2 with ⟨hv, hn⟩ | ⟨g, cap, cur, rfl, hb, hg, hc, hm, hs, ht⟩
  · omega
  · obtain ⟨q1, q2⟩ := OwI.at h hk
    exact ⟨g, cap, rfl, hb, q1, q2⟩

/-- The code, the class, the row of arguments at a place. -/
theorem BdB.atX {w0 w : World} {b : Nat} {cv kv lv : Value} {vs : List Value} {X : List Int} {K : List (List Nat)} {C : List Nat} (h : BdB w0 w b cv kv lv vs X K C) {i : Nat} {x : Int} (hi : X[i]? = some x) : ∃ g cap, cv = .slice (some ⟨g, 0, none⟩) X.length cap ∧ w.cell? ⟨g, i, none⟩ = some (.int .i64 x) := by
  obtain ⟨g, cap, e, _, q, _⟩ := h.cod.code hi
  exact ⟨g, cap, e, q⟩

theorem BdB.atC {w0 w : World} {b : Nat} {cv kv lv : Value} {vs : List Value} {X : List Int} {K : List (List Nat)} {C : List Nat} (h : BdB w0 w b cv kv lv vs X K C) {i x : Nat} (hi : C[i]? = some x) : ∃ g cap, lv = .slice (some ⟨g, 0, none⟩) C.length cap ∧ w.cell? ⟨g, i, none⟩ = some (.int .i64 x) ∧ w.frozen? ⟨g, i, none⟩ = false := by
  obtain ⟨g, cap, e, _, q, q2⟩ := h.cls.nat hi
  exact ⟨g, cap, e, q, q2⟩

theorem BdB.atK {w0 w : World} {b : Nat} {cv kv lv : Value} {vs : List Value} {X : List Int} {K : List (List Nat)} {C : List Nat} (h : BdB w0 w b cv kv lv vs X K C) {i : Nat} {ks : List Nat} (hi : K[i]? = some ks) : ∃ g cap ao c, kv = .slice (some ⟨g, 0, none⟩) K.length cap ∧ w.cell? ⟨g, i, none⟩ = some (.slice ao ks.length c) ∧ OwI w w0.heap.size (.slice ao ks.length c) (natL ks) := by
  have hlt := (List.getElem?_eq_some_iff.1 hi).1
  have hv : vs[i]? = some (vs[i]'(by rw [h.len]; exact hlt)) := List.getElem?_eq_getElem _
  generalize vs[i]'(by rw [h.len]; exact hlt) = u at hv
  have hz : (vs.zip (K.map natL))[i]? = some (u, natL ks) := List.getElem?_zip_eq_some.2 ⟨hv, by rw [List.getElem?_map, hi]; rfl⟩
  have ho := h.own.own (i + 2) u (natL ks) (by simpa using hz)
  obtain ⟨ao, c, e, _⟩ := ho.shape
  rw [natL_len] at e
  rcases h.row.2 with ⟨_, h0⟩ | ⟨g, cap, cur, rfl, _⟩
  · omega
  · refine ⟨g, cap, ao, c, rfl, ?_, by rw [← e]; exact ho⟩
    rw [World.ownsRow.cellAt h.row i (by omega), hv, e]

/-- A class changed. -/
theorem BdB.put {w0 w : World} {b g cap : Nat} {cv kv : Value} {vs : List Value} {X : List Int} {K : List (List Nat)} {C : List Nat} {n : Nat} (h : BdB w0 w b cv kv (.slice (some ⟨g, 0, none⟩) n cap) vs X K C) (k : Nat) {a : Nat} (ha : a ≤ 1073741824) :
    BdB w0 (w.setCell ⟨g, k, none⟩ (.int .i64 a)) b cv kv (.slice (some ⟨g, 0, none⟩) n cap) vs X K (C.set k a) := by
  have hn : n = C.length := by
    obtain ⟨_, _, a2, c2, e⟩ := h.shape
    simp only [Value.slice.injEq] at e
    exact e.2.1
  have hg := own_blk h.cls.2 (by rfl : (Value.slice (some ⟨g, 0, none⟩) n cap).ownBlock = some g)
  have hset : (natL C).set k (a : Int) = natL (C.set k a) := by unfold natL; rw [List.map_set]
  obtain ⟨o2, hb2⟩ := h.cls.put (w0 := w0) (B := w0.heap.size) h.bel hg (by rw [natL_len]; exact hn) (k := k) (z := (a : Int)) ⟨by omega, by omega⟩ hset
  have hgr := set_grown w g k (.int .i64 (a : Int))
  have hgb : w.heap[g]? = w.heap[g]? := rfl
  have hcl : ∃ cur, w.heap[g]? = some (.cells cur 3 (0, 0)) := by
    rcases h.cls.2.2 with ⟨hv, _⟩ | ⟨g', cap', cur, hv, _, hg', _⟩
    · cases hv
    · cases hv
      exact ⟨cur, hg'⟩
  obtain ⟨cur, hcur⟩ := hcl
  have hne : b ≠ g := fun e => by
    subst e
    have := h.blk
    rw [hcur] at this
    simp only [Option.some.injEq, Obj.cells.injEq] at this
    exact absurd this.2.1 (by decide)
  have hs := h.own.step (i := 1) (v' := .slice (some ⟨g, 0, none⟩) n cap) (xs' := natL (C.set k a)) rfl hgr o2 (.inl rfl)
  exact ⟨hb2, h.low, by rw [heap_setCell_other _ _ _ _ hne]; exact h.blk, ownsRow_kept h.row hgr (.inr (own_ne h.row hcur (by decide))), h.len, hs⟩

end Go.Proofs.YtelacmijkbgliaaDoor

/- The document's board, plainly: the classes at the beginning; what is measured while places are joined; the sizes of the classes' terms. -/
namespace Go.Proofs.YtelacmijkbgliaaDoor
open Go.RowKit

/-- The first place of a place's variable; a place with a symbol is alone. -/
def fstC (X : List Int) (i : Nat) : Nat := if (X[i]?).getD 0 < 0 then X.idxOf ((X[i]?).getD 0) else i

def clsR (X : List Int) : List Nat := (List.range X.length).map (fstC X)

theorem clsR_at {X : List Int} {i : Nat} (hi : i < X.length) : (clsR X)[i]? = some (fstC X i) := by
  unfold clsR
  rw [List.getElem?_map, List.getElem?_range hi]
  rfl

theorem fstC_sym {X : List Int} {i : Nat} {c : Int} (hi : X[i]? = some c) (hc : ¬ c < 0) : fstC X i = i := by
  unfold fstC
  rw [hi, Option.getD_some, if_neg hc]

theorem fstC_var {X : List Int} {i : Nat} {c : Int} (hi : X[i]? = some c) (hc : c < 0) : fstC X i = X.idxOf c := by
  unfold fstC
  rw [hi, Option.getD_some, if_pos hc]

theorem idxB_at {X : List Int} {i : Nat} {c : Int} (hi : X[i]? = some c) : X.idxOf c ≤ i ∧ X[X.idxOf c]? = some c := by
  have hm : c ∈ X := List.mem_of_getElem? hi
  have hl : X.idxOf c < X.length := List.idxOf_lt_length_of_mem hm
  have h1 : X[X.idxOf c]? = some c := by
    rw [List.getElem?_eq_getElem hl]
    congr 1
    simp
  refine ⟨?_, h1⟩
  have hil := (List.getElem?_eq_some_iff.1 hi).1
  by_cases h : X.idxOf c ≤ i
  · exact h
  · exfalso
    have h2 : i < X.idxOf c := by omega
    unfold List.idxOf at h2
    have h3 := List.not_of_lt_findIdx h2
    have h4 := (List.getElem?_eq_some_iff.1 hi).2
    rw [h4] at h3
    simp at h3

/-- The first place of a number is known by those ahead of it. -/
theorem idxB_is {X : List Int} {k : Nat} {c : Int} (hk : X[k]? = some c) (hn : ∀ (j : Nat), j < k → X[j]? ≠ some c) : X.idxOf c = k := by
  obtain ⟨h1, h2⟩ := idxB_at hk
  by_cases h : X.idxOf c = k
  · exact h
  · exact absurd h2 (hn _ (by omega))

theorem clB_start (X : List Int) : ClB X (clsR X) := by
  refine ⟨by simp [clsR], fun i c hi => ?_, fun i j c hc hi hj => ?_⟩
  · have hil : i < X.length := by
      have := (List.getElem?_eq_some_iff.1 hi).1
      simpa [clsR] using this
    rw [clsR_at hil] at hi
    cases hi
    have hx : X[i]? = some X[i] := List.getElem?_eq_getElem hil
    by_cases h0 : X[i] < 0
    · obtain ⟨h1, h2⟩ := idxB_at hx
      rw [fstC_var hx h0]
      exact ⟨h1, by rw [clsR_at (by omega), fstC_var h2 h0]⟩
    · rw [fstC_sym hx h0]
      exact ⟨Nat.le_refl _, by rw [clsR_at hil, fstC_sym hx h0]⟩
  · rw [clsR_at (List.getElem?_eq_some_iff.1 hi).1, clsR_at (List.getElem?_eq_some_iff.1 hj).1, fstC_var hi hc, fstC_var hj hc]

theorem jnB_start (sig : List Sy) (X : List Int) (K : List (List Nat)) (ra rb : Nat) : JnB sig X K (clsR X) ra rb := fun V hV _ i j hi hj hij => by
  rw [clsR_at hi, clsR_at hj, Option.some.injEq] at hij
  have hx : X[i]? = some X[i] := List.getElem?_eq_getElem hi
  have hy : X[j]? = some X[j] := List.getElem?_eq_getElem hj
  by_cases h1 : X[i] < 0
  · rw [fstC_var hx h1] at hij
    have h2 := (idxB_at hx).2
    by_cases h3 : X[j] < 0
    · rw [fstC_var hy h3] at hij
      have h4 := (idxB_at hy).2
      rw [← hij, h2] at h4
      have h5 : X[i] = X[j] := Option.some.inj h4
      exact hV.2.2 i j _ h1 hx (by rw [hy, h5])
    · rw [fstC_sym hy h3] at hij
      rw [hij, hy] at h2
      have h5 : X[j] = X[i] := Option.some.inj h2
      omega
  · rw [fstC_sym hx h1] at hij
    by_cases h3 : X[j] < 0
    · rw [fstC_var hy h3] at hij
      have h4 := (idxB_at hy).2
      rw [← hij, hx] at h4
      have h5 : X[i] = X[j] := Option.some.inj h4
      omega
    · rw [fstC_sym hy h3] at hij
      rw [hij]

/-- Two classes made one; nothing where they are. -/
def joinD (C : List Nat) (a b : Nat) : List Nat := if a = b then C else joinC C (min a b) (max a b)

theorem joinC_sum : ∀ {C : List Nat} {a b : Nat}, a < b → (joinC C a b).sum ≤ C.sum ∧ (b ∈ C → (joinC C a b).sum < C.sum)
  | [], a, b, _ => ⟨Nat.le_refl _, fun h => by cases h⟩
  | c :: C, a, b, h => by
    have ih := joinC_sum (C := C) h
    have e : joinC (c :: C) a b = (if c = b then a else c) :: joinC C a b := rfl
    rw [e, List.sum_cons, List.sum_cons]
    by_cases hc : c = b
    · rw [if_pos hc]
      exact ⟨by omega, fun _ => by omega⟩
    · rw [if_neg hc]
      refine ⟨by omega, fun hm => ?_⟩
      rcases List.mem_cons.1 hm with hm | hm
      · exact absurd hm.symm hc
      · have := ih.2 hm
        omega

/-- What joining two places keeps. -/
theorem joinD_ok {sig : List Sy} {X : List Int} {K : List (List Nat)} {C : List Nat} {ra rb i k a b : Nat} (hC : ClB X C) (hj : JnB sig X K C ra rb) (hi : C[i]? = some a) (hk : C[k]? = some b) (hv : ∀ V, ValB sig X K V → V ra = V rb → V i = V k) :
    ClB X (joinD C a b) ∧ JnB sig X K (joinD C a b) ra rb ∧ (joinD C a b)[i]? = (joinD C a b)[k]? ∧ (a ≠ b → (joinD C a b).sum < C.sum) := by
  have hil : i < X.length := by rw [← hC.len]; exact (List.getElem?_eq_some_iff.1 hi).1
  have hkl : k < X.length := by rw [← hC.len]; exact (List.getElem?_eq_some_iff.1 hk).1
  have ha := (hC.id i a hi).2
  have hb := (hC.id k b hk).2
  unfold joinD
  by_cases hab : a = b
  · rw [if_pos hab]
    exact ⟨hC, hj, by rw [hi, hk, hab], fun h => absurd hab h⟩
  · rw [if_neg hab]
    by_cases hlt : a < b
    · have e1 : min a b = a := by omega
      have e2 : max a b = b := by omega
      rw [e1, e2]
      refine ⟨clB_join hC ha hb hlt, jnB_join hj hC hil hkl (.inl ⟨hi, hk⟩) hv, ?_, fun _ => (joinC_sum hlt).2 (List.mem_of_getElem? hb)⟩
      rw [joinC_at, joinC_at, hi, hk]
      simp [hab]
    · have e1 : min a b = b := by omega
      have e2 : max a b = a := by omega
      rw [e1, e2]
      refine ⟨clB_join hC hb ha (by omega), jnB_join hj hC hil hkl (.inr ⟨hi, hk⟩) hv, ?_, fun _ => (joinC_sum (by omega)).2 (List.mem_of_getElem? ha)⟩
      rw [joinC_at, joinC_at, hi, hk]
      have : ¬ b = a := fun h => hab h.symm
      simp [this]

/-- What is asked of a place where all is joined. -/
def CloAt (X : List Int) (K : List (List Nat)) (C : List Nat) (i : Nat) : Prop := ∀ (c h : Nat) (s : Int) (ks : List Nat), X[i]? = some s → ¬ s < 0 → K[i]? = some ks → C[i]? = some c → headB X C c = some h → X[h]? = some s ∧ ∀ ls, K[h]? = some ls → ∀ (k x y : Nat), ks[k]? = some x → ls[k]? = some y → C[x]? = C[y]?

theorem cloB_of {X : List Int} {K : List (List Nat)} {C : List Nat} (h : ∀ i, i < X.length → CloAt X K C i) : CloB X K C := fun i c hd s ks hi hs hk hc hh => h i (List.getElem?_eq_some_iff.1 hi).1 c hd s ks hi hs hk hc hh

theorem cloAt_var {X : List Int} {K : List (List Nat)} {C : List Nat} {i : Nat} {s : Int} (hi : X[i]? = some s) (hs : s < 0) : CloAt X K C i := fun c h s' ks h1 h2 => by
  rw [hi] at h1
  cases h1
  exact absurd hs h2

theorem cloAt_head {X : List Int} {K : List (List Nat)} {C : List Nat} {i c : Nat} (hc : C[i]? = some c) (hh : headB X C c = some i) : CloAt X K C i := fun c' h s ks h1 h2 h3 h4 h5 => by
  rw [hc] at h4
  cases h4
  rw [hh] at h5
  cases h5
  refine ⟨h1, fun ls hl k x y hx hy => ?_⟩
  rw [h3] at hl
  cases hl
  rw [hx] at hy
  cases hy
  rfl

theorem cloAt_of {X : List Int} {K : List (List Nat)} {C : List Nat} {i c h : Nat} {s : Int} {ks ls : List Nat} (hi : X[i]? = some s) (hk : K[i]? = some ks) (hc : C[i]? = some c) (hh : headB X C c = some h) (hs : X[h]? = some s) (hl : K[h]? = some ls) (ha : ∀ (k x y : Nat), ks[k]? = some x → ls[k]? = some y → C[x]? = C[y]?) : CloAt X K C i := fun c' h' s' ks' h1 h2 h3 h4 h5 => by
  rw [hc] at h4
  cases h4
  rw [hh] at h5
  cases h5
  rw [hi] at h1
  cases h1
  rw [hk] at h3
  cases h3
  refine ⟨hs, fun ls' hl' => ?_⟩
  rw [hl] at hl'
  cases hl'
  exact ha

/-- What the sizes tell: of a class with one, its term. -/
def SzB (X : List Int) (K : List (List Nat)) (C N : List Nat) : Prop := N.length = X.length ∧ ∀ (c n : Nat), N[c]? = some n → n ≤ 513 ∧ (0 < n → C[c]? = some c ∧ ∃ t, TmK X K C c t ∧ n = min t.length 513)

/-- A class that waits for one of its arguments. -/
def WtB (X : List Int) (K : List (List Nat)) (C N : List Nat) (c : Nat) : Prop := ∃ (h x d : Nat) (s : Int) (ks : List Nat), C[h]? = some c ∧ X[h]? = some s ∧ ¬ s < 0 ∧ K[h]? = some ks ∧ x ∈ ks ∧ C[x]? = some d ∧ N[d]? = some 0

/-- The arguments of a class's head that have been looked at. -/
def KnB (X : List Int) (K : List (List Nat)) (C N ks : List Nat) (k s : Nat) (known : Bool) : Prop :=
  1 ≤ s ∧ s ≤ 513 ∧ (known = true → ∃ ts : List (List Int), ts.length = k ∧ (∀ (j x d : Nat) (t : List Int), ks[j]? = some x → C[x]? = some d → ts[j]? = some t → TmK X K C d t) ∧ s = min (1 + ts.flatten.length) 513) ∧ (known = false → ∃ x d, x ∈ ks ∧ C[x]? = some d ∧ N[d]? = some 0)

theorem knB_start (X : List Int) (K : List (List Nat)) (C N ks : List Nat) : KnB X K C N ks 0 1 true := ⟨Nat.le_refl _, by omega, fun _ => ⟨[], rfl, fun j x d t _ _ h => by simp at h, by simp⟩, fun h => by cases h⟩

theorem knB_step {X : List Int} {K : List (List Nat)} {C N ks : List Nat} {k s x d m : Nat} {known : Bool} (hN : SzB X K C N) (h : KnB X K C N ks k s known) (hx : ks[k]? = some x) (hd : C[x]? = some d) (hm : N[d]? = some m) : KnB X K C N ks (k + 1) (min (s + m) 513) (known && decide (0 < m)) := by
  obtain ⟨h1, h2, h3, h4⟩ := h
  refine ⟨by omega, by omega, fun hk => ?_, fun hk => ?_⟩
  · rw [Bool.and_eq_true, decide_eq_true_eq] at hk
    obtain ⟨ts, e1, e2, e3⟩ := h3 hk.1
    obtain ⟨_, t, ht, e4⟩ := (hN.2 d m hm).2 hk.2
    refine ⟨ts ++ [t], by rw [List.length_append, e1]; rfl, fun j y e u hy he hu => ?_, ?_⟩
    · by_cases hj : j < ts.length
      · rw [List.getElem?_append_left hj] at hu
        exact e2 j y e u hy he hu
      · have hj2 := (List.getElem?_eq_some_iff.1 hu).1
        rw [List.length_append, List.length_singleton] at hj2
        obtain rfl : j = k := by omega
        rw [List.getElem?_append_right (by omega), e1, Nat.sub_self] at hu
        simp only [List.getElem?_cons_zero, Option.some.injEq] at hu
        subst hu
        rw [hx] at hy
        cases hy
        rw [hd] at he
        cases he
        exact ht
    · rw [List.flatten_append, List.length_append]
      simp only [List.flatten_cons, List.flatten_nil, List.append_nil]
      generalize ts.flatten.length = p at e3 ⊢
      generalize t.length = q at e4 ⊢
      clear e2 ht hN hk hx hd hm
      omega
  · by_cases hk0 : known = true
    · rw [hk0, Bool.true_and, decide_eq_false_iff_not] at hk
      obtain rfl : m = 0 := by omega
      exact ⟨x, d, List.mem_of_getElem? hx, hd, hm⟩
    · exact h4 (by simpa using hk0)

theorem szB_start (X : List Int) (K : List (List Nat)) (C : List Nat) : SzB X K C (List.replicate X.length 0) := by
  refine ⟨by simp, fun c n hn => ?_⟩
  have := (List.mem_replicate.1 (List.mem_of_getElem? hn)).2
  exact ⟨by omega, fun h => by omega⟩

theorem szB_set {X : List Int} {K : List (List Nat)} {C N : List Nat} {c n : Nat} {t : List Int} (h : SzB X K C N) (hc : C[c]? = some c) (ht : TmK X K C c t) (hn : n = min t.length 513) : SzB X K C (N.set c n) := by
  refine ⟨by rw [List.length_set, h.1], fun d m hm => ?_⟩
  by_cases hd : d = c
  · subst hd
    have hl := (List.getElem?_eq_some_iff.1 hm).1
    rw [List.length_set] at hl
    rw [List.getElem?_set_self hl] at hm
    cases hm
    exact ⟨by omega, fun _ => ⟨hc, t, ht, hn⟩⟩
  · rw [List.getElem?_set_ne (fun e => hd e.symm)] at hm
    exact h.2 d m hm

theorem sum_set : ∀ {N : List Nat} {c n : Nat}, N[c]? = some 0 → (N.set c n).sum = N.sum + n
  | [], c, n, h => by simp at h
  | a :: N, 0, n, h => by
    simp only [List.getElem?_cons_zero, Option.some.injEq] at h
    subst h
    simp [Nat.add_comm]
  | a :: N, c + 1, n, h => by
    have := sum_set (N := N) (c := c) (n := n) (by simpa using h)
    rw [List.set_cons_succ, List.sum_cons, List.sum_cons, this]
    omega

theorem sum_few : ∀ {N : List Nat}, (∀ n ∈ N, n ≤ 513) → N.sum ≤ 513 * N.length
  | [], _ => Nat.le_refl _
  | a :: N, h => by
    have := sum_few (N := N) (fun n hn => h n (List.mem_cons_of_mem _ hn))
    have := h a List.mem_cons_self
    rw [List.sum_cons, List.length_cons]
    omega

theorem szB_sum {X : List Int} {K : List (List Nat)} {C N : List Nat} (h : SzB X K C N) : N.sum ≤ 513 * X.length := by
  rw [← h.1]
  exact sum_few fun n hn => by
    obtain ⟨c, hc⟩ := List.getElem?_of_mem hn
    exact (h.2 c n hc).1

/-- A class whose arguments are all known has a term. -/
theorem knB_term {X : List Int} {K : List (List Nat)} {C N ks : List Nat} {c h s : Nat} {x : Int} (hh : headB X C c = some h) (hx : X[h]? = some x) (hk : K[h]? = some ks) (hK : KnB X K C N ks ks.length s true) : ∃ t, TmK X K C c t ∧ s = min t.length 513 := by
  obtain ⟨h1, h2, h3, _⟩ := hK
  obtain ⟨ts, e1, e2, e3⟩ := h3 rfl
  exact ⟨_, .app hh hx hk e1 e2, by rw [List.length_cons, Nat.add_comm]; exact e3⟩

/-- Where nothing more is found, a class without a size has no end. -/
theorem noB_end {sig : List Sy} {X : List Int} {K : List (List Nat)} {C N : List Nat} {ra rb : Nat} (hB : BOk6 sig X K) (hC : ClB X C) (hj : JnB sig X K C ra rb) (hW : ∀ c, C[c]? = some c → N[c]? = some 0 → WtB X K C N c) {c : Nat} (hc : C[c]? = some c) (h0 : N[c]? = some 0) : ∀ V, ValB sig X K V → V ra ≠ V rb := fun V hV he =>
  circleB hB hC hj (fun c => C[c]? = some c ∧ N[c]? = some 0) (fun c hz => by
    obtain ⟨h, x, d, s, ks, h1, h2, h3, h4, h5, h6, h7⟩ := hW c hz.1 hz.2
    exact ⟨hz.1, h, x, d, s, ks, h1, h2, h3, h4, h5, h6, (hC.id x d h6).2, h7⟩) hV he (V c).length c (Nat.le_refl _) ⟨hc, h0⟩

/-- All that is known where each class has a size. -/
theorem solB_of {sig : List Sy} {X : List Int} {K : List (List Nat)} {C N : List Nat} {ra rb : Nat} (hC : ClB X C) (hclo : CloB X K C) (hj : JnB sig X K C ra rb) (hone : C[ra]? = C[rb]?) (hN : SzB X K C N) (hp : ∀ (i c : Nat), C[i]? = some c → ∃ n, N[c]? = some n ∧ 0 < n) : SolB sig X K C ra rb :=
  ⟨hC, hclo, fun i c hi => by
    obtain ⟨n, hn, h0⟩ := hp i c hi
    obtain ⟨_, t, ht, _⟩ := (hN.2 c n hn).2 h0
    exact ⟨t, ht⟩, hone, hj⟩

end Go.Proofs.YtelacmijkbgliaaDoor

/- The document's board: join and head walked. -/
namespace Go.Proofs.YtelacmijkbgliaaDoor
open Go.RowKit Go.Maps Go.BigFrame

theorem joinC_len (C : List Nat) (a b : Nat) : (joinC C a b).length = C.length := by unfold joinC; rw [List.length_map]

/-- The classes renamed up to a place. -/
def joinK (C : List Nat) (a b k : Nat) : List Nat := (joinC C a b).take k ++ C.drop k

theorem joinK_zero (C : List Nat) (a b : Nat) : joinK C a b 0 = C := by simp [joinK]

theorem joinK_all {C : List Nat} {a b k : Nat} (h : C.length ≤ k) : joinK C a b k = joinC C a b := by
  unfold joinK
  rw [List.drop_of_length_le h, List.append_nil, List.take_of_length_le (by rw [joinC_len]; exact h)]

theorem joinK_at {C : List Nat} {a b k c : Nat} (h : C[k]? = some c) : (joinK C a b k)[k]? = some c := by
  have hl := (List.getElem?_eq_some_iff.1 h).1
  unfold joinK
  rw [List.getElem?_append_right (by rw [List.length_take, joinC_len]; omega), List.length_take, joinC_len, List.getElem?_drop, ← h]
  congr 1
  omega

theorem joinK_set {C : List Nat} {a b k c : Nat} (h : C[k]? = some c) : joinK C a b (k + 1) = (joinK C a b k).set k (if c = b then a else c) := by
  have hl := (List.getElem?_eq_some_iff.1 h).1
  have h1 : (joinC C a b)[k]? = some (if c = b then a else c) := by rw [joinC_at, h]; rfl
  have hd : C.drop k = c :: C.drop (k + 1) := by
    have h2 := (List.getElem?_eq_some_iff.1 h).2
    rw [← h2]
    exact (List.getElem_cons_drop hl).symm
  unfold joinK
  rw [take_get h1, hd, List.set_append_right _ _ (by rw [List.length_take, joinC_len]; omega), List.length_take, joinC_len, Nat.min_eq_left (by omega), Nat.sub_self, List.set_cons_zero, List.append_assoc]
  rfl

theorem joinK_same {C : List Nat} {a b k c : Nat} (h : C[k]? = some c) (hc : ¬ c = b) : joinK C a b (k + 1) = joinK C a b k := by
  rw [joinK_set h, if_neg hc]
  apply List.ext_getElem?
  intro j
  by_cases hj : j = k
  · subst hj
    rw [List.getElem?_set_self (List.getElem?_eq_some_iff.1 (joinK_at h)).1, joinK_at h]
  · rw [List.getElem?_set_ne (fun e => hj e.symm)]

set_option maxRecDepth 100000 in
set_option maxHeartbeats 1600000 in
theorem joinB_any {w0 w : World} {b : Nat} {cv kv lv : Value} {vs : List Value} {X : List Int} {K : List (List Nat)} {C : List Nat} (h : BdB w0 w b cv kv lv vs X K C) {i k ci ck : Nat} (hi : C[i]? = some ci) (hk : C[k]? = some ck) (hci : ci ≤ 1073741824) (hck : ck ≤ 1073741824) (hn : C.length ≤ 1073741824) :
    Calls Tryd.prog 49 #[.pointer (some ⟨b, 0, none⟩), .int .i64 i, .int .i64 k] w fun e w' => e = .returned (.bool (decide (ci ≠ ck))) ∧ BdB w0 w' b cv kv lv vs X K (joinD C ci ck) := by
  obtain ⟨g, cap, rfl, y1, _⟩ := h.atC hi
  obtain ⟨g', cap', e', y2, _⟩ := h.atC hk
  simp only [Value.slice.injEq, Option.some.injEq, Addr.mk.injEq, and_true, true_and] at e'
  obtain ⟨rfl, rfl⟩ := e'
  obtain ⟨x0, x1, x2⟩ := h.cells
  have hil := (List.getElem?_eq_some_iff.1 hi).1
  have hkl := (List.getElem?_eq_some_iff.1 hk).1
  have HB := hid h
  clear h
  obtain ⟨a, ha⟩ : ∃ a, a = min ci ck := ⟨_, rfl⟩
  obtain ⟨d, hd⟩ : ∃ d, d = max ci ck := ⟨_, rfl⟩
  have e1 : min (ci : Int) (ck : Int) = (a : Int) := by omega
  have e2 : max (ci : Int) (ck : Int) = (d : Int) := by omega
  have HA := hid ha
  have HD := hid hd
  clear ha hd
  go_enter Tryd.func49, Tryd.ntmps49
  go_wp2
  go_region
  go_wp2
  go_region
  by_cases hc : ci = ck
  · have h3 : ((a : Int) == (d : Int)) = true := by have := HA.out; have := HD.out; simp; omega
    have HF : Hid (BdB w0 w.drew.drew b cv kv (.slice (some ⟨g, 0, none⟩) C.length cap) vs X K (joinD C ci ck)) := by
      show BdB _ _ _ _ _ _ _ _ _ _
      unfold joinD
      rw [if_pos hc]
      exact HB.out.later (((Below.refl _ _).drew).drew)
    go_wp2
    go_ret
    exact ⟨by simp [hc], HF.out⟩
  · have h3 : ((a : Int) == (d : Int)) = false := by have := HA.out; have := HD.out; simp; omega
    have HB2 := hid (HB.out.later (((Below.refl w.heap.size w).drew).drew))
    have HJ : Hid (joinD C ci ck = joinC C a d) := by
      show _ = _
      unfold joinD
      rw [if_neg hc, HA.out, HD.out]
    have HaB : Hid (a ≤ 1073741824) := by show _ ≤ _; have := HA.out; omega
    clear HB y1 y2 x0 x1 x2 e1 e2
    go_wp2
    go_loopw [9] (fun iv wr => ∃ n : Nat, n ≤ C.length ∧ iv = .int .i64 n ∧ BdB w0 wr b cv kv (.slice (some ⟨g, 0, none⟩) C.length cap) vs X K (joinK C a d n)) (fun iv _ => C.length - (intOf iv).toNat)
    case atStart => exact ⟨0, Nat.zero_le _, rfl, by rw [joinK_zero]; exact HB2.out⟩
    case round =>
      obtain ⟨n, hnl, rfl, hb⟩ := hrel
      obtain ⟨x0, x1, x2⟩ := hb.cells
      have HW := hid hb
      clear hb
      by_cases hlt : n < C.length
      · obtain ⟨c, hcn⟩ : ∃ c, C[n]? = some c := ⟨_, List.getElem?_eq_getElem hlt⟩
        obtain ⟨g', cap', e', y1, y2⟩ := HW.out.atC (joinK_at hcn)
        simp only [Value.slice.injEq, Option.some.injEq, Addr.mk.injEq, and_true] at e'
        obtain ⟨rfl, _, rfl⟩ := e'
        by_cases hcd : c = d
        · have hq : ((c : Int) == (d : Int)) = true := by simp [hcd]
          have HP := hid (HW.out.put n (a := a) HaB.out)
          have HS : Hid ((joinK C a d n).set n a = joinK C a d (n + 1)) := by
            show _ = _
            rw [joinK_set hcn, if_pos hcd]
          clear hcn
          go_wp2
          go_roundw
          case rel => exact ⟨n + 1, hlt, by go_num, by rw [← HS.out]; exact HP.out⟩
          case measure => simp only [intOf]; omega
        · have hq : ((c : Int) == (d : Int)) = false := by simp; omega
          have HS : Hid (joinK C a d (n + 1) = joinK C a d n) := joinK_same hcn hcd
          clear hcn
          go_wp2
          go_roundw
          case rel => exact ⟨n + 1, hlt, by go_num, by rw [HS.out]; exact HW.out⟩
          case measure => simp only [intOf]; omega
      · have HE : Hid (joinK C a d n = joinC C a d) := joinK_all (by omega)
        go_wp2
        go_ret
        exact ⟨by simp [hc], by rw [HJ.out, ← HE.out]; exact HW.out⟩

/-- The head as a number. -/
def headV (X : List Int) (C : List Nat) (c : Nat) : Int := match headB X C c with | some h => (h : Int) | none => -1

theorem headB_is {X : List Int} {C : List Nat} {c k : Nat} {x : Int} (hx : X[k]? = some x) (h0 : ¬ x < 0) (hc : C[k]? = some c) (hn : ∀ j, j < k → ¬ (C[j]? = some c ∧ 0 ≤ (X[j]?).getD (-1))) : headB X C c = some k := by
  have hkl := (List.getElem?_eq_some_iff.1 hx).1
  unfold headB
  rw [List.find?_range_eq_some]
  refine ⟨?_, List.mem_range.2 hkl, fun j hj => ?_⟩
  · rw [hx, hc, Option.getD_some]
    simp
    omega
  · have := hn j hj
    simp only [Bool.not_eq_true', Bool.and_eq_false_iff, decide_eq_false_iff_not]
    by_cases h1 : C[j]? = some c
    · exact .inr fun h2 => this ⟨h1, h2⟩
    · exact .inl h1

theorem headB_not {X : List Int} {C : List Nat} {c : Nat} (hn : ∀ j, j < X.length → ¬ (C[j]? = some c ∧ 0 ≤ (X[j]?).getD (-1))) : headB X C c = none := by
  cases hh : headB X C c with
  | none => rfl
  | some h =>
    obtain ⟨h1, h2, d, h3, h4⟩ := headB_some hh
    exact absurd ⟨h2, by rw [h3, Option.getD_some]; omega⟩ (hn h h1)

set_option maxRecDepth 100000 in
set_option maxHeartbeats 1600000 in
theorem headB_any {w0 w : World} {b : Nat} {cv kv lv : Value} {vs : List Value} {X : List Int} {K : List (List Nat)} {C : List Nat} (h : BdB w0 w b cv kv lv vs X K C) (hn : C.length = X.length) (hxl : X.length ≤ 1073741824) (c : Nat) :
    Calls Tryd.prog 45 #[.pointer (some ⟨b, 0, none⟩), .int .i64 c] w fun e w' => e = .returned (.int .i64 (headV X C c)) ∧ w' = w := by
  obtain ⟨⟨oX, cX, rfl⟩, _, oC, cC, rfl⟩ := h.shape
  obtain ⟨x0, x1, x2⟩ := h.cells
  have HB := hid h
  clear h
  go_enter Tryd.func45, Tryd.ntmps45
  go_wp2
  go_loopw [5] (fun iv wr => ∃ k : Nat, k ≤ X.length ∧ iv = .int .i64 k ∧ wr = w ∧ ∀ j, j < k → ¬ (C[j]? = some c ∧ 0 ≤ (X[j]?).getD (-1))) (fun iv _ => X.length - (intOf iv).toNat)
  case atStart => exact ⟨0, Nat.zero_le _, rfl, rfl, fun j hj => by omega⟩
  case round =>
    obtain ⟨k, hkl, rfl, hwr, hno⟩ := hrel
    subst hwr
    have HN := hid hno
    clear hno
    by_cases hlt : k < X.length
    · obtain ⟨x, hx⟩ : ∃ x, X[k]? = some x := ⟨_, List.getElem?_eq_getElem hlt⟩
      obtain ⟨d, hdk⟩ : ∃ d, C[k]? = some d := ⟨_, List.getElem?_eq_getElem (by omega)⟩
      obtain ⟨g1, q1, e1, y1⟩ := HB.out.atX hx
      obtain ⟨g2, q2, e2, y2, _⟩ := HB.out.atC hdk
      simp only [Value.slice.injEq, true_and] at e1 e2
      obtain ⟨rfl, rfl⟩ := e1
      obtain ⟨rfl, rfl⟩ := e2
      have HX := hid hx
      have HD := hid hdk
      have hkc : (k : Int) < (C.length : Int) := by omega
      clear hx hdk
      by_cases hdc : d = c
      · have hq : ((d : Int) == (c : Int)) = true := by simp [hdc]
        by_cases h0 : x < 0
        · have hs : decide (0 ≤ x) = false := by simp; omega
          have HN2 : Hid (∀ j, j < k + 1 → ¬ (C[j]? = some c ∧ 0 ≤ (X[j]?).getD (-1))) := fun j hj hh => by
            by_cases hjk : j < k
            · exact HN.out j hjk hh
            · obtain rfl : j = k := by omega
              rw [HX.out, Option.getD_some] at hh
              omega
          go_wp2
          go_roundw
          case rel => exact ⟨k + 1, hlt, by go_num, by trivial, HN2.out⟩
          case measure => simp only [intOf]; omega
        · have hs : decide (0 ≤ x) = true := by simp; omega
          have HF : Hid (headV X C c = (k : Int)) := by
            show _ = _
            unfold headV
            rw [headB_is HX.out h0 (by rw [HD.out, hdc]) HN.out]
          go_wp2
          go_ret
          exact ⟨by rw [HF.out]; rfl, rfl⟩
      · have hq : ((d : Int) == (c : Int)) = false := by simp; omega
        have HN2 : Hid (∀ j, j < k + 1 → ¬ (C[j]? = some c ∧ 0 ≤ (X[j]?).getD (-1))) := fun j hj hh => by
          by_cases hjk : j < k
          · exact HN.out j hjk hh
          · obtain rfl : j = k := by omega
            rw [HD.out] at hh
            exact hdc (Option.some.inj hh.1)
        go_wp2
        go_roundw
        case rel => exact ⟨k + 1, hlt, by go_num, by trivial, HN2.out⟩
        case measure => simp only [intOf]; omega
    · have HF : Hid (headV X C c = -1) := by
        show _ = _
        unfold headV
        rw [headB_not fun j hj => HN.out j (by omega)]
      go_wp2
      go_ret
      exact ⟨by rw [HF.out]; rfl, rfl⟩

end Go.Proofs.YtelacmijkbgliaaDoor
