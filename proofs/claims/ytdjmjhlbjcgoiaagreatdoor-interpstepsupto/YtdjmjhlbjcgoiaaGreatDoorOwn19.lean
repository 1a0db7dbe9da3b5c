/- Texts of the proof, one behind the other. -/
import Derived.Test.YtdjmjhlbjcgoiaaGreatDoorOwn18
import Derived.Test.YtdjmjhlbjcgoiaaGreatDoorOwn6
import Derived.Deep.LoopGhost
set_option maxRecDepth 1000000
set_option maxHeartbeats 6400000
namespace Go.Proofs.YtdjmjhlbjcgoiaaGreatDoor
open Go.RowKit Go.Maps
def Rt (sig : List Sy) (f : Int → Option (List Int)) : Prop := ∀ n u, f n = some u → rowE sig u = 0
def Sm (f : Int → Option (List Int)) (p t : List Int) : Prop := (∀ c ∈ p, c < 0 → f (-1 - c) ≠ none) ∧ laidL f p = t
theorem laidL_app (f : Int → Option (List Int)) (a b : List Int) : laidL f (a ++ b) = laidL f a ++ laidL f b := by
 unfold laidL
 rw [List.flatMap_append]
theorem xDB (f : Int → Option (List Int)) (c : Int) (b : List Int) : laidL f (c :: b) = piece f c ++ laidL f b := by
 unfold laidL
 rw [List.flatMap_cons]
theorem sm_var {f : Int → Option (List Int)} {c : Int} {t : List Int} (hc : c < 0) : Sm f [c] t ↔ f (-1 - c) = some t := by
 unfold Sm
 rw [xDB]
 have hp : piece f c = (f (-1 - c)).getD [c] := by unfold piece; rw [if_pos hc]
 rw [hp]
 constructor
 ·rintro ⟨h1, h2⟩
  have h3 := h1 c (by simp) hc
  cases hf : f (-1 - c) with
  | none => exact absurd hf h3
  | some u =>
   rw [hf] at h2
   simp [laidL] at h2
   rw [h2]
 intro h
 rw [h]
 refine ⟨fun d hd _ => ?_, by simp [laidL]⟩
 simp at hd
 subst hd
 rw [h]
 simp
theorem sm_head {f : Int → Option (List Int)} {c d : Int} {r s : List Int} (hc : ¬ c < 0) : Sm f (c :: r) (d :: s) ↔ c = d ∧ Sm f r s := by
 unfold Sm
 rw [xDB]
 have hp : piece f c = [c] := by unfold piece; rw [if_neg hc]
 rw [hp]
 constructor
 ·rintro ⟨h1, h2⟩
  simp only [List.singleton_append, List.cons.injEq] at h2
  exact ⟨h2.1, fun x hx h0 => h1 x (by simp [hx]) h0, h2.2⟩
 rintro ⟨rfl, h1, h2⟩
 refine ⟨fun x hx h0 => ?_, by rw [h2]; rfl⟩
 rcases yB.1 hx with rfl | hx
 ·omega
 exact h1 x hx h0
theorem sm_split {f : Int → Option (List Int)} {a b s u : List Int} (hl : (laidL f a).length = s.length) : Sm f (a ++ b) (s ++ u) ↔ Sm f a s ∧ Sm f b u := by
 unfold Sm
 rw [laidL_app]
 constructor
 ·rintro ⟨h1, h2⟩
  obtain ⟨h3, h4⟩ := List.append_inj h2 hl
  exact ⟨⟨fun c hc => h1 c (by simp [hc]), h3⟩, ⟨fun c hc => h1 c (by simp [hc]), h4⟩⟩
 rintro ⟨⟨h1, h2⟩, h3, h4⟩
 refine ⟨fun c hc h0 => ?_, by rw [h2, h4]⟩
 rcases yE.1 hc with hc | hc
 ·exact h1 c hc h0
 exact h3 c hc h0
theorem sm_list {sig : List Sy} (ha : ArOk sig) {f : Int → Option (List Int)} (hf : Rt sig f) : ∀ (us vs : List (List Int)), us.length = vs.length → (∀ u ∈ us, rowE sig u = 0) → (∀ v ∈ vs, rowE sig v = 0) → (Sm f us.flatten vs.flatten ↔ ∀ (k : Nat) (u v : List Int), us[k]? = some u → vs[k]? = some v → Sm f u v)
 | [], [], _, _, _ => by
  refine ⟨fun _ k u v hu => by simp at hu, fun _ => ⟨fun c hc => by simp at hc, rfl⟩⟩
 | u :: us, v :: vs, hl, hu, hv => by
  have ih := sm_list ha hf us vs (by simpa using hl) (fun x hx => hu x (by simp [hx])) (fun x hx => hv x (by simp [hx]))
  rw [yT, yT]
  have hlu := row_laid ha hf (hu u (by simp))
  constructor
  ·intro h
   have h2 := h.2
   rw [laidL_app] at h2
   have h3 := xCL hlu (laidL f us.flatten)
   rw [h2, xCL (hv v (by simp))] at h3
   have h4 : v.length = (laidL f u).length := by
    have := congrArg Prod.fst h3
    simp only at this
    omega
   obtain ⟨h5, h6⟩ := (sm_split h4.symm).1 h
   intro k a b ha1 hb1
   cases k with
   | zero =>
    simp only [yQ, zX] at ha1 hb1
    subst ha1
    subst hb1
    exact h5
   | succ k =>
    rw [yP] at ha1 hb1
    exact ih.1 h6 k a b ha1 hb1
  ·intro h
   have h5 := h 0 u v rfl rfl
   refine (sm_split (by rw [h5.2])).2 ⟨h5, ih.2 fun k a b ha1 hb1 => h (k + 1) a b (by simpa using ha1) (by simpa using hb1)⟩
 | [], _ :: _, hl, _, _ => by simp at hl
 | _ :: _, [], hl, _, _ => by simp at hl
structure Pr where
 P : Tr
 q1 : Nat
 T : Tr
 q2 : Nat
def Pr.pr (p : List Int) (d : Pr) : List Int := (p.drop d.q1).take d.P.size
def Pr.tr (t : List Int) (d : Pr) : List Int := (t.drop d.q2).take d.T.size
def Pr.ok (sig : List Sy) (p t : List Int) (d : Pr) : Prop := Wf sig p d.P d.q1 ∧ Wf sig t d.T d.q2
theorem take_head {r : List Int} {q : Nat} {c : Int} (h : r[q]? = some c) (n : Nat) : (r.drop q).take (n + 1) = c :: (r.drop (q + 1)).take n := by
 rw [xAR h, List.take_succ_cons]
theorem pr_var {sig : List Sy} {p t : List Int} {d : Pr} (h : d.ok sig p t) (hP : d.P = .var) : ∃ c, p[d.q1]? = some c ∧ c < 0 ∧ ∀ f, Sm f (d.pr p) (d.tr t) ↔ f (-1 - c) = some (d.tr t) := by
 have h1 := h.1
 rw [hP] at h1
 obtain ⟨c, hc, h0⟩ := h1.var
 refine ⟨c, hc, h0, fun f => ?_⟩
 have : d.pr p = [c] := by
  unfold Pr.pr
  rw [hP]
  simp only [Tr.size]
  rw [take_head hc 0]
  rfl
 rw [this]
 exact sm_var h0
def argPr (_p _t : List Int) (ts1 ts2 : List Tr) (q1 q2 : Nat) : List Pr := (List.range ts1.length).map fun k => ⟨(ts1[k]?).getD .var, q1 + 1 + sizes (ts1.take k), (ts2[k]?).getD .var, q2 + 1 + sizes (ts2.take k)⟩
theorem args_flat (r : List Int) : ∀ (ts : List Tr) (o : Nat), (r.drop o).take (sizes ts) = ((List.range ts.length).map fun k => (r.drop (o + sizes (ts.take k))).take ((ts[k]?).getD .var).size).flatten
 | [], o => by simp [sizes]
 | t :: ts, o => by
  rw [zG, List.range_succ_eq_map, yW, yT, List.map_map]
  have ih := args_flat r ts (o + t.size)
  simp only [sizes, List.take_zero, Nat.add_zero, yQ, Option.getD_some]
  rw [List.take_add, yS, ih]
  congr 2
  refine List.map_congr_left fun k _ => ?_
  simp only [Function.comp, List.take_succ_cons, sizes, yP]
  rw [Nat.add_assoc]
theorem pr_app {sig : List Sy} (ha : ArOk sig) {p t : List Int} {d : Pr} (h : d.ok sig p t) {ts1 : List Tr} (hP : d.P = .app ts1) {c x : Int} (hc : p[d.q1]? = some c) (hx : t[d.q2]? = some x) :
  (d.T = .var ∨ c ≠ x → ∀ f, ¬ Sm f (d.pr p) (d.tr t)) ∧ (∀ ts2, d.T = .app ts2 → c = x → ts2.length = ts1.length ∧ (∀ e ∈ argPr p t ts1 ts2 d.q1 d.q2, e.ok sig p t) ∧ ∀ f, Rt sig f → (Sm f (d.pr p) (d.tr t) ↔ ∀ e ∈ argPr p t ts1 ts2 d.q1 d.q2, Sm f (e.pr p) (e.tr t))) := by
 have h1 := h.1
 rw [hP] at h1
 obtain ⟨c', hc', hc0, hl1, hk1⟩ := h1.app ha
 rw [hc] at hc'
 cases hc'
 have hpr : d.pr p = c :: (p.drop (d.q1 + 1)).take (sizes ts1) := by
  unfold Pr.pr
  rw [hP]
  simp only [Tr.size]
  rw [Nat.add_comm, take_head hc]
 constructor
 ·rintro hh f hs
  have htr : ∃ s, d.tr t = x :: s := by
   unfold Pr.tr
   obtain ⟨n, hn⟩ : ∃ n, d.T.size = n + 1 := ⟨d.T.size - 1, by have := d.T.pos; omega⟩
   rw [hn, take_head hx]
   exact ⟨_, rfl⟩
  obtain ⟨s, htr⟩ := htr
  rw [hpr, htr] at hs
  have := (sm_head hc0).1 hs
  rcases hh with hh | hh
  ·have h2 := h.2
   rw [hh] at h2
   obtain ⟨x', hx', h0⟩ := h2.var
   rw [hx] at hx'
   cases hx'
   omega
  exact hh this.1
 intro ts2 hT hcx
 have h2 := h.2
 rw [hT] at h2
 obtain ⟨x', hx', hx0, hl2, hk2⟩ := h2.app ha
 rw [hx] at hx'
 cases hx'
 have hll : ts2.length = ts1.length := by rw [hl1, hl2, hcx]
 have hok : ∀ e ∈ argPr p t ts1 ts2 d.q1 d.q2, e.ok sig p t := by
  intro e he
  obtain ⟨k, hk, rfl⟩ := yL.1 he
  have hk := List.mem_range.1 hk
  have e1 : ts1[k]? = some ts1[k] := zC hk
  have e2 : ts2[k]? = some (ts2[k]'(by omega)) := zC (by omega)
  unfold Pr.ok
  simp only [e1, e2, Option.getD_some]
  exact ⟨hk1 k _ e1, hk2 k _ e2⟩
 refine ⟨hll, hok, fun f hf => ?_⟩
 have htr : d.tr t = x :: (t.drop (d.q2 + 1)).take (sizes ts2) := by
  unfold Pr.tr
  rw [hT]
  simp only [Tr.size]
  rw [Nat.add_comm, take_head hx]
 rw [hpr, htr, sm_head hc0, args_flat p ts1 (d.q1 + 1), args_flat t ts2 (d.q2 + 1)]
 have hlist := sm_list ha hf ((List.range ts1.length).map fun k => (p.drop (d.q1 + 1 + sizes (ts1.take k))).take ((ts1[k]?).getD .var).size) ((List.range ts2.length).map fun k => (t.drop (d.q2 + 1 + sizes (ts2.take k))).take ((ts2[k]?).getD .var).size) (by simp [hll])
  (fun u hu => by
   obtain ⟨k, hk, rfl⟩ := yL.1 hu
   have hk := List.mem_range.1 hk
   have e1 : ts1[k]? = some ts1[k] := zC hk
   rw [e1, Option.getD_some]
   exact (hk1 k _ e1).row.1)
  (fun u hu => by
   obtain ⟨k, hk, rfl⟩ := yL.1 hu
   have hk := List.mem_range.1 hk
   have e1 : ts2[k]? = some ts2[k] := zC hk
   rw [e1, Option.getD_some]
   exact (hk2 k _ e1).row.1)
 rw [hlist]
 constructor
 ·rintro ⟨_, hh⟩ e he
  obtain ⟨k, hk, rfl⟩ := yL.1 he
  have hk := List.mem_range.1 hk
  exact hh k _ _ (by rw [zU, List.getElem?_range hk]; rfl) (by rw [zU, List.getElem?_range (by omega)]; rfl)
 intro hh
 refine ⟨hcx, fun k u v hu hv => ?_⟩
 have hk : k < ts1.length := by
  have := (zB.1 hu).1
  simpa using this
 rw [zU, List.getElem?_range hk] at hu
 rw [zU, List.getElem?_range (by omega)] at hv
 simp only [Option.map_some, zX] at hu hv
 subst hu
 subst hv
 exact hh _ (yL.2 ⟨k, List.mem_range.2 hk, rfl⟩)
end Go.Proofs.YtdjmjhlbjcgoiaaGreatDoor
namespace Go.Proofs.YtdjmjhlbjcgoiaaGreatDoor
open Go.RowKit Go.Maps Go.BigFrame
theorem zero_varM : (Tryz.prog.info? 216).map (·.zero) = some (some (.agg #[.slice none 0 0])) := by kernel_rfl
theorem as_varM (v : Value) (xT : TypeId) (w : World) : (Instr.typeAssert (.iface 216 v) xT 216 true).run Tryz.prog w = .ok (.tuple #[v, .bool true]) w := by
 simp [Instr.typeAssert, run_underlying Tryz.underlying216, go_sem, Result.andThen]
theorem as_varnotM (v : Value) (xT : TypeId) (w : World) : (Instr.typeAssert (.iface 222 v) xT 216 true).run Tryz.prog w = .ok (.tuple #[.agg #[.slice none 0 0], .bool false]) w := by
 obtain ⟨i, hi, hz⟩ : ∃ i, Tryz.prog.info? 216 = some i ∧ i.zero = some (.agg #[.slice none 0 0]) := by
  have h := zero_varM
  cases hi : Tryz.prog.info? 216 with
  | none => rw [hi] at h; cases h
  | some i => rw [hi] at h; exact ⟨i, rfl, by simpa using h⟩
 simp [Instr.typeAssert, run_underlying Tryz.underlying216, go_sem, Result.andThen, zeroValue, typeInfo, hi, hz]
theorem own_cutP {w : World} {base : Nat} {ao : Option Addr} {cap k : Nat} {xs : List (Value × Value)} (h : OwP w base (.slice ao xs.length cap) xs) (hk : k ≤ xs.length) : OwP w base (.slice ao k cap) (xs.take k) := by
 have h1 := h.1
 have hl : (xs.take k).length = k := by rw [zH]; omega
 unfold OwP
 rw [hl]
 refine ⟨by rw [prC_len, hl], ?_⟩
 rcases h.2 with ⟨hv, hn⟩ | ⟨g, cp, cur, hv, hb, hg, hc, hm, hs, ht⟩
 ·simp only [zZ] at hv
  obtain ⟨rfl, _, rfl⟩ := hv
  obtain rfl : k = 0 := by omega
  exact .inl ⟨rfl, rfl⟩
 simp only [zZ] at hv
 obtain ⟨rfl, _, rfl⟩ := hv
 refine .inr ⟨g, cap, cur, rfl, hb, hg, by omega, hm, hs, ?_⟩
 have e1 : prC (xs.take k) = (prC xs).take (k * 2) := by
  have e2 : prC xs = prC (xs.take k) ++ prC (xs.drop k) := by rw [← prC_app, zQ]
  have e3 : (prC (xs.take k)).length = k * 2 := by rw [prC_len, hl]
  rw [e2, ← e3, List.take_left]
 rw [e1, ← ht, List.take_take, Nat.min_eq_left (by omega)]
theorem own_lastP {w : World} {base : Nat} {v : Value} {xs : List (Value × Value)} {k : Nat} {p : Value × Value} (h : OwP w base v xs) (hk : xs[k]? = some p) : ∃ g cap, v = .slice (some ⟨g, 0, none⟩) xs.length cap ∧ base ≤ g ∧ xs.length ≤ cap ∧ cap ≤ 9223372036854775807 ∧ w.cell? ⟨g, k * 2, none⟩ = some p.1 ∧ w.cell? ⟨g, k * 2 + 1, none⟩ = some p.2 := by
 have hkl := (zB.1 hk).1
 obtain ⟨c1, c2⟩ := prC_at xs k p hk
 have hlen := prC_len xs
 rcases h.2 with ⟨_, hn⟩ | ⟨g, cp, cur, hv, hb, hg, hc, hm, hs, ht⟩
 ·omega
 subst hv
 unfold maxLen at hm
 refine ⟨g, cp, rfl, hb, hc, by omega, ?_, ?_⟩
 ·rw [World.ownsRow.cellAt h (k * 2) (by omega)]
  exact c1
 rw [World.ownsRow.cellAt h (k * 2 + 1) (by omega)]
 exact c2
def PrV (w : World) (A : Nat → Prop) (S1 S2 : Nat → Nat → Value) : List (Value × Value) → List Pr → Prop
 | [], [] => True
 | x :: xs, d :: ds => (TP w A S1 x.1 d.P d.q1 ∧ TP w A S2 x.2 d.T d.q2) ∧ PrV w A S1 S2 xs ds
 | _, _ => False
theorem PrV.len {w : World} {A : Nat → Prop} {S1 S2 : Nat → Nat → Value} : ∀ {xs : List (Value × Value)} {ds : List Pr}, PrV w A S1 S2 xs ds → xs.length = ds.length
 | [], [], _ => rfl
 | _ :: _, _ :: _, ⟨_, h⟩ => congrArg (· + 1) (PrV.len h)
 | [], _ :: _, h => h.elim
 | _ :: _, [], h => h.elim
theorem PrV.app {w : World} {A : Nat → Prop} {S1 S2 : Nat → Nat → Value} : ∀ {xs ys : List (Value × Value)} {ds es : List Pr}, PrV w A S1 S2 xs ds → PrV w A S1 S2 ys es → PrV w A S1 S2 (xs ++ ys) (ds ++ es)
 | [], _, [], _, _, h => h
 | _ :: _, _, _ :: _, _, ⟨h1, h2⟩, h => ⟨h1, PrV.app h2 h⟩
 | [], _, _ :: _, _, h, _ => h.elim
 | _ :: _, _, [], _, h, _ => h.elim
theorem PrV.pop {w : World} {A : Nat → Prop} {S1 S2 : Nat → Nat → Value} {xs : List (Value × Value)} {ds : List Pr} {x : Value × Value} (h : PrV w A S1 S2 (xs ++ [x]) ds) : ∃ es d, ds = es ++ [d] ∧ PrV w A S1 S2 xs es ∧ TP w A S1 x.1 d.P d.q1 ∧ TP w A S2 x.2 d.T d.q2 := by
 induction xs generalizing ds with
 | nil =>
  match ds, h with
  | [d], ⟨h1, _⟩ => exact ⟨[], d, rfl, trivial, h1.1, h1.2⟩
 | cons y xs ih =>
  match ds, h with
  | d :: ds, ⟨h1, h2⟩ =>
   obtain ⟨es, e, rfl, i1, i2, i3⟩ := ih h2
   exact ⟨d :: es, e, rfl, ⟨h1, i1⟩, i2, i3⟩
theorem PrV.args {w : World} {A : Nat → Prop} {S1 S2 : Nat → Nat → Value} (p t : List Int) {q1 q2 : Nat} {xs : List (Value × Value)} {ts1 ts2 : List Tr} (hl : ts2.length = ts1.length) (h1 : TPl w A S1 (xs.map (·.1)) ts1 (q1 + 1)) (h2 : TPl w A S2 (xs.map (·.2)) ts2 (q2 + 1)) : PrV w A S1 S2 xs (argPr p t ts1 ts2 q1 q2) := by
 have hx : xs.length = ts1.length := by have := h1.len; rwa [zJ] at this
 have key : ∀ (n : Nat) (ys : List (Value × Value)) (o : Nat), ys.length = n → (∀ (k : Nat) (y : Value × Value), ys[k]? = some y → xs[o + k]? = some y) → o + n ≤ ts1.length → PrV w A S1 S2 ys ((List.range n).map fun k => (⟨(ts1[o + k]?).getD .var, q1 + 1 + sizes (ts1.take (o + k)), (ts2[o + k]?).getD .var, q2 + 1 + sizes (ts2.take (o + k))⟩ : Pr)) := by
  intro n
  induction n with
  | zero =>
   intro ys o hy _ _
   obtain rfl := zE hy
   trivial
  | succ n ih =>
   intro ys o hy hg ho
   match ys, hy with
   | y :: ys, hy =>
    rw [List.range_succ_eq_map, yW, List.map_map]
    have e0 := hg 0 y rfl
    rw [Nat.add_zero] at e0
    have f1 : ts1[o]? = some (ts1[o]'(by omega)) := zC (by omega)
    have f2 : ts2[o]? = some (ts2[o]'(by omega)) := zC (by omega)
    refine ⟨⟨?_, ?_⟩, ?_⟩
    ·simp only [Nat.add_zero, f1, Option.getD_some]
     exact h1.get (by rw [zU, e0]; rfl) f1
    ·simp only [Nat.add_zero, f2, Option.getD_some]
     exact h2.get (by rw [zU, e0]; rfl) f2
    have := ih ys (o + 1) (by simpa using hy) (fun k z hz => by
     have := hg (k + 1) z (by simpa using hz)
     rw [show o + 1 + k = o + (k + 1) by omega]
     exact this) (by omega)
    have e9 : ((fun k => (⟨(ts1[o + k]?).getD .var, q1 + 1 + sizes (ts1.take (o + k)), (ts2[o + k]?).getD .var, q2 + 1 + sizes (ts2.take (o + k))⟩ : Pr)) ∘ Nat.succ) = fun k => (⟨(ts1[o + 1 + k]?).getD .var, q1 + 1 + sizes (ts1.take (o + 1 + k)), (ts2[o + 1 + k]?).getD .var, q2 + 1 + sizes (ts2.take (o + 1 + k))⟩ : Pr) := by
     funext k
     simp only [Function.comp, Nat.succ_eq_add_one]
     rw [show o + (k + 1) = o + 1 + k by omega]
    rw [e9]
    exact this
 have := key ts1.length xs 0 hx (fun k y hy => by rwa [Nat.zero_add]) (by omega)
 simp only [Nat.zero_add] at this
 exact this
def wait (ds : List Pr) : Nat := (ds.map fun d => d.P.size).sum
theorem wait_app (a b : List Pr) : wait (a ++ b) = wait a + wait b := by simp [wait, List.sum_append]
theorem wait_args (p t : List Int) (ts1 ts2 : List Tr) (q1 q2 : Nat) : wait (argPr p t ts1 ts2 q1 q2) = sizes ts1 := by
 unfold wait argPr
 rw [List.map_map]
 have : ∀ (ts : List Tr), ((List.range ts.length).map fun k => ((ts[k]?).getD .var).size).sum = sizes ts := by
  intro ts
  induction ts with
  | nil => rfl
  | cons t ts ih =>
   rw [zG, List.range_succ_eq_map, yW, List.map_map, List.sum_cons]
   simp only [yQ, Option.getD_some, sizes]
   have e9 : ((fun k => (((t :: ts)[k]?).getD .var).size) ∘ Nat.succ) = fun k => ((ts[k]?).getD .var).size := by
    funext k
    simp
   rw [e9, ih]
 exact this ts1
theorem snoc_cases {α : Type} (l : List α) : l = [] ∨ ∃ xs x, l = xs ++ [x] := by
 rcases List.eq_nil_or_concat l with h | ⟨xs, x, h⟩
 ·exact .inl h
 exact .inr ⟨xs, x, by rw [h, List.concat_eq_append]⟩
def Lr (w : World) (L : List (Int × Value)) (R : List (Int × List Int)) : Prop := ∀ n, (∀ v, L.lookup n = some v → ∃ u, R.lookup n = some u ∧ Is w v u) ∧ (L.lookup n = none → R.lookup n = none)
theorem Lr.cons {w : World} {L : List (Int × Value)} {R : List (Int × List Int)} (h : Lr w L R) {n : Int} {s : Value} {u : List Int} (hs : Is w s u) : Lr w ((n, s) :: L) ((n, u) :: R) := fun m => by
 rw [List.lookup_cons, List.lookup_cons]
 by_cases e : m = n
 ·subst e
  simp only [beq_self_eq_true]
  exact ⟨fun v hv => by cases hv; exact ⟨u, rfl, hs⟩, fun hv => by cases hv⟩
 rw [show (m == n) = false by simpa using e]
 exact h m
theorem Is.inj {w : World} {v : Value} {xs ys : List Int} (h : Is w v xs) (k : Is w v ys) : xs = ys := by
 obtain ⟨ao, cap, rfl, _, _, hx⟩ := h.flatI
 have hl : xs.length = ys.length := Row.len k
 refine List.ext_getElem? fun j => ?_
 by_cases hj : j < xs.length
 ·obtain ⟨g, off, x, e, h1, h2⟩ := hx j hj
  obtain ⟨g', off', y, e', h1', h2', _⟩ := k.at (k := j) (by omega)
  rw [e] at e'
  simp only [zX, Addr.mk.injEq, and_true] at e'
  obtain ⟨rfl, rfl⟩ := e'
  rw [h2] at h2'
  cases h2'
  rw [h1, h1']
 rw [yO (by omega), yO (by omega)]
def Ky (sig : List Sy) (p : List Int) (R : List (Int × List Int)) : Prop := ∀ n u, R.lookup n = some u → rowE sig u = 0 ∧ ∃ c ∈ p, c < 0 ∧ n = -1 - c
theorem Ky.cons {sig : List Sy} {p : List Int} {R : List (Int × List Int)} (h : Ky sig p R) {c : Int} {u : List Int} (hu : rowE sig u = 0) (hc : c ∈ p) (h0 : c < 0) : Ky sig p ((-1 - c, u) :: R) := fun n v hv => by
 rw [List.lookup_cons] at hv
 by_cases e : n = -1 - c
 ·subst e
  simp only [beq_self_eq_true, zX] at hv
  subst hv
  exact ⟨hu, c, hc, h0, rfl⟩
 rw [show (n == -1 - c) = false by simpa using e] at hv
 exact h n v hv
theorem OwP.kept {w w' : World} {base : Nat} {v : Value} {xs : List (Value × Value)} {row : Option Nat} (h : OwP w base v xs) (hg : w.grownBy w' row) (hr : v.ownBlock = none ∨ v.ownBlock ≠ row) : OwP w' base v xs := by
 refine ⟨h.1, ?_⟩
 rcases h.2 with h | ⟨g, cap, cur, rfl, hb, hgg, r⟩
 ·exact .inl h
 refine .inr ⟨g, cap, cur, rfl, hb, (hg.block g (zL.1 hgg).1 ?_).trans hgg, r⟩
 rcases hr with hr | hr
 ·cases hr
 exact hr
theorem OwP.later {w w' : World} {base : Nat} {v : Value} {xs : List (Value × Value)} (h : OwP w base v xs) (hb : Below w.heap.size w w') : OwP w' base v xs :=
 h.kept (row := none) ⟨hb.os, hb.tape, hb.output, hb.size, fun k hk _ => hb.block k hk⟩ (by cases hv : v.ownBlock <;> simp)
theorem len_wait : ∀ ds : List Pr, ds.length ≤ wait ds
 | [] => Nat.zero_le _
 | d :: ds => by
  have h1 := len_wait ds
  have h2 := d.P.pos
  have h3 : wait (d :: ds) = d.P.size + wait ds := by simp [wait]
  rw [zG, h3]
  omega
theorem TPl.one {w : World} {A : Nat → Prop} {S : Nat → Nat → Value} {vs : List Value} {ts : List Tr} {p : Nat} (h : TPl w A S vs ts p) : ∀ u ∈ vs, u.oneCell' = true := fun u hu => by
 obtain ⟨k, hk⟩ := List.getElem?_of_mem hu
 have hl := h.len
 have hlt := (zB.1 hk).1
 exact (h.get hk (zC (by omega : k < ts.length))).ifv.one
theorem pr_one {w : World} {A : Nat → Prop} {S1 S2 : Nat → Nat → Value} {ys : List (Value × Value)} {ts1 ts2 : List Tr} {p1 p2 : Nat} (h1 : TPl w A S1 (ys.map (·.1)) ts1 p1) (h2 : TPl w A S2 (ys.map (·.2)) ts2 p2) : ∀ u ∈ prC ys, u.oneCell' = true := fun u hu => by
 obtain ⟨x, hx, hu⟩ := List.mem_flatMap.1 hu
 simp only [yB, List.not_mem_nil, or_false] at hu
 rcases hu with rfl | rfl
 ·exact h1.one _ (yL.2 ⟨x, hx, rfl⟩)
 exact h2.one _ (yL.2 ⟨x, hx, rfl⟩)
theorem own_src {w : World} {base : Nat} {v : Value} {ys : List (Value × Value)} (h : OwP w base v ys) : ∃ ao cap, v = .slice ao ys.length cap ∧ (ys = [] ∨ ∃ g off, ao = some ⟨g, off, none⟩ ∧ ∀ (j : Nat) (u : Value), (prC ys)[j]? = some u → w.cell? ⟨g, off + j, none⟩ = some u) := by
 rcases h.2 with ⟨h8, h9⟩ | ⟨g, cap, cur, rfl, _⟩
 ·exact ⟨none, 0, by rw [h8, h9], .inl (zE h9)⟩
 refine ⟨_, cap, rfl, .inr ⟨g, 0, rfl, fun j u hj => ?_⟩⟩
 have hlt := (zB.1 hj).1
 rw [prC_len] at hlt
 rw [Nat.zero_add, World.ownsRow.cellAt h j (by omega)]
 exact hj
def Eqv (sig : List Sy) (p t : List Int) (R : List (Int × List Int)) (ds : List Pr) : Prop := ∀ f, Rt sig f → (Sm f p t ↔ (∀ n u, R.lookup n = some u → f n = some u) ∧ ∀ d ∈ ds, Sm f (d.pr p) (d.tr t))
theorem Eqv.bind {sig : List Sy} {p t : List Int} {R : List (Int × List Int)} {es : List Pr} {d : Pr} {n : Int} (h : Eqv sig p t R (es ++ [d])) (hd : ∀ f, Sm f (d.pr p) (d.tr t) ↔ f n = some (d.tr t)) (hn : R.lookup n = none) : Eqv sig p t ((n, d.tr t) :: R) es := fun f hf => by
 rw [h f hf]
 constructor
 ·rintro ⟨h1, h2⟩
  refine ⟨fun m u hm => ?_, fun e he => h2 e (by simp [he])⟩
  rw [List.lookup_cons] at hm
  by_cases e : m = n
  ·subst e
   simp only [beq_self_eq_true, zX] at hm
   rw [← hm]
   exact (hd f).1 (h2 d (by simp))
  rw [show (m == n) = false by simpa using e] at hm
  exact h1 m u hm
 rintro ⟨h1, h2⟩
 have hnn : f n = some (d.tr t) := h1 n _ (by rw [List.lookup_cons]; simp)
 refine ⟨fun m u hm => h1 m u ?_, fun e he => ?_⟩
 ·rw [List.lookup_cons]
  by_cases e : m = n
  ·subst e
   rw [hn] at hm
   cases hm
  rw [show (m == n) = false by simpa using e]
  exact hm
 rcases yE.1 he with he | he
 ·exact h2 e he
 rw [yR] at he
 subst he
 exact (hd f).2 hnn
theorem Eqv.known {sig : List Sy} {p t : List Int} {R : List (Int × List Int)} {es : List Pr} {d : Pr} {n : Int} (h : Eqv sig p t R (es ++ [d])) (hd : ∀ f, Sm f (d.pr p) (d.tr t) ↔ f n = some (d.tr t)) (hn : R.lookup n = some (d.tr t)) : Eqv sig p t R es := fun f hf => by
 rw [h f hf]
 constructor
 ·rintro ⟨h1, h2⟩
  exact ⟨h1, fun e he => h2 e (by simp [he])⟩
 rintro ⟨h1, h2⟩
 refine ⟨h1, fun e he => ?_⟩
 rcases yE.1 he with he | he
 ·exact h2 e he
 rw [yR] at he
 subst he
 exact (hd f).2 (h1 n _ hn)
theorem Eqv.clash {sig : List Sy} {p t : List Int} {R : List (Int × List Int)} {es : List Pr} {d : Pr} {n : Int} {u : List Int} (h : Eqv sig p t R (es ++ [d])) (hd : ∀ f, Sm f (d.pr p) (d.tr t) ↔ f n = some (d.tr t)) (hn : R.lookup n = some u) (hu : u ≠ d.tr t) : ∀ f, Rt sig f → ¬ Sm f p t := fun f hf hs => by
 obtain ⟨h1, h2⟩ := (h f hf).1 hs
 have h3 := h1 n u hn
 have h4 := (hd f).1 (h2 d (by simp))
 rw [h3] at h4
 cases h4
 exact hu rfl
theorem Eqv.none {sig : List Sy} {p t : List Int} {R : List (Int × List Int)} {es : List Pr} {d : Pr} (h : Eqv sig p t R (es ++ [d])) (hd : ∀ f, ¬ Sm f (d.pr p) (d.tr t)) : ∀ f, Rt sig f → ¬ Sm f p t := fun f hf hs => hd f (((h f hf).1 hs).2 d (by simp))
theorem Eqv.open {sig : List Sy} {p t : List Int} {R : List (Int × List Int)} {es gs : List Pr} {d : Pr} (h : Eqv sig p t R (es ++ [d])) (hd : ∀ f, Rt sig f → (Sm f (d.pr p) (d.tr t) ↔ ∀ e ∈ gs, Sm f (e.pr p) (e.tr t))) : Eqv sig p t R (es ++ gs) := fun f hf => by
 rw [h f hf]
 constructor
 ·rintro ⟨h1, h2⟩
  refine ⟨h1, fun e he => ?_⟩
  rcases yE.1 he with he | he
  ·exact h2 e (by simp [he])
  exact (hd f hf).1 (h2 d (by simp)) e he
 rintro ⟨h1, h2⟩
 refine ⟨h1, fun e he => ?_⟩
 rcases yE.1 he with he | he
 ·exact h2 e (by simp [he])
 rw [yR] at he
 subst he
 exact (hd f hf).2 fun e he => h2 e (by simp [he])
theorem boundRows_any (sig : List Sy) (ha : ArOk sig) (b1 o1 c1 b2 o2 c2 : Nat) (p t : List Int) (A : Nat → Prop) (v1 v2 : Value) (P T : Tr) (w : World) (hp : Is w (.slice (some ⟨b1, o1, none⟩) p.length c1) p) (ht : Is w (.slice (some ⟨b2, o2, none⟩) t.length c2) t)
  (h1 : TP w A (cdS b1 o1 c1) v1 P 0) (h2 : TP w A (cdS b2 o2 c2) v2 T 0) (hA : ∀ b, A b → b < w.heap.size) (hw1 : Wf sig p P 0) (hw2 : Wf sig t T 0) (hs1 : P.size = p.length) (hs2 : T.size = t.length) (hl : p.length * 32 ≤ 140737488351232) :
  Calls Tryz.prog 133 #[v1, v2] w fun e w' => Below w.heap.size w w' ∧ ((e = .returned (.tuple #[.map none, .bool false]) ∧ ∀ f, Rt sig f → ¬ Sm f p t) ∨ ∃ L R, e = .returned (.tuple #[.map (some w.heap.size), .bool true]) ∧ MapV w' w.heap.size L ∧ Lr w L R ∧ Ky sig p R ∧ Sm (fun n => R.lookup n) p t) := by
 have hmm := @run_makeMap Tryz.prog
 have HA := hid hA
 have HAr := hid ha
 have HP := hid hp
 have HT := hid ht
 have H1 := hid h1
 have H2 := hid h2
 have HW1 := hid hw1
 have HW2 := hid hw2
 obtain ⟨y1, z1, hy1⟩ := h1.ifv
 obtain ⟨y2, z2, hy2⟩ := h2.ifv
 subst hy1
 subst hy2
 have HS1 := hid hs1
 have HS2 := hid hs2
 clear hA ha hp ht h1 h2 hw1 hw2 hs1 hs2
 go_enter Tryz.func133, Tryz.ntmps133
 go_wp2
 go_loopg [7] P.size (fun k x wr => ∃ (PL : List (Value × Value)) (ds : List Pr) (L : List (Int × Value)) (R : List (Int × List Int)), OwP wr (w.heap.size + 1) x PL ∧ PrV w A (cdS b1 o1 c1) (cdS b2 o2 c2) PL ds ∧ (∀ d ∈ ds, d.ok sig p t) ∧ MapV wr w.heap.size L ∧ Lr w L R ∧ Eqv sig p t R ds ∧ Ky sig p R ∧ L.length + wait ds ≤ P.size ∧ wait ds ≤ k ∧ Below w.heap.size w wr)
 case atStart =>
  refine ⟨[(.iface y1 z1, .iface y2 z2)], [⟨P, 0, T, 0⟩], [], [], ?_, ⟨⟨H1.out, H2.out⟩, trivial⟩, fun d hd => ?_, (MapV.made w).later (zA _), fun n => ⟨fun v hv => (by cases hv), fun _ => rfl⟩, fun f _ => ?_, fun n u hu => (by cases hu), ?_, ?_, zS (zA _) (zA _)⟩
  ·refine ⟨rfl, .inr ⟨w.heap.size + 1, 1, #[.iface y1 z1, .iface y2 z2], rfl, Nat.le_refl _, ?_, Nat.le_refl _, by simp [maxLen], rfl, rfl⟩⟩
   have := yU (w.alloc (.map #[] 0)) (.cells #[.iface y1 z1, .iface y2 z2] 213)
   simpa using this
  ·rw [yR] at hd
   subst hd
   exact ⟨HW1.out, HW2.out⟩
  ·have e1 : (⟨P, 0, T, 0⟩ : Pr).pr p = p := by unfold Pr.pr; simp only [List.drop_zero]; rw [HS1.out, List.take_length]
   have e2 : (⟨P, 0, T, 0⟩ : Pr).tr t = t := by unfold Pr.tr; simp only [List.drop_zero]; rw [HS2.out, List.take_length]
   refine ⟨fun h => ⟨fun n u hu => (by cases hu), fun d hd => ?_⟩, fun h => ?_⟩
   ·rw [yR] at hd
    subst hd
    rw [e1, e2]
    exact h
   have := h.2 _ (yR.2 rfl)
   rw [e1, e2] at this
   exact this
  ·simp [wait]
  simp [wait]
 case round =>
  obtain ⟨PL, ds, L, R, how, hprv, hok, hmap, hlr, heq, hky, hcnt, hwk, hbl⟩ := hrel
  have HPrv := hid hprv
  have HOk := hid hok
  have HMap := hid hmap
  have HLr := hid hlr
  have HEq := hid heq
  have HKy := hid hky
  have HB := hid hbl
  have HS1n := HS1.out
  clear hprv hok hmap hlr heq hky hmm H1 H2 HW1 HW2
  rcases snoc_cases PL with rfl | ⟨xs, x, rfl⟩
  ·obtain ⟨ao, cp, rfl⟩ : ∃ ao cp, u7 = .slice ao 0 cp := by
    rcases how.2 with ⟨h8, _⟩ | ⟨g8, c8, _, h8, _⟩
    ·exact ⟨_, _, h8⟩
    exact ⟨_, _, h8⟩
   have HSm : Hid (Sm (fun n => R.lookup n) p t) := by
    cases ds with
    | nil => exact (HEq.out _ (fun n u hu => (HKy.out n u hu).1)).2 ⟨fun _ _ h => h, fun d hd => by cases hd⟩
    | cons d ds => exact HPrv.out.elim
   clear how HEq HPrv HOk hcnt hwk
   go_wp2
   go_ret2
   exact ⟨HB.out, .inr ⟨L, R, rfl, HMap.out, HLr.out, HKy.out, HSm.out⟩⟩
  obtain ⟨xa, xb⟩ := x
  obtain ⟨es, d, rfl, hpv, htp1, htp2⟩ := HPrv.out.pop
  obtain ⟨g, cp, hv, hge, hcp1, hcp2, hca, hcb⟩ := own_lastP how (k := xs.length) (p := (xa, xb)) (by simp)
  have hll : (xs ++ [(xa, xb)]).length = xs.length + 1 := by simp
  rw [hll] at hv hcp1
  subst hv
  have hct := own_cutP (k := xs.length) (by rw [hll]; exact how) (by rw [hll]; omega)
  rw [List.take_left] at hct
  have HCt := hid hct
  have hdk := HOk.out d (by simp)
  have HDk := hid hdk
  have HPv := hid hpv
  have HT1 := hid htp1
  have HT2 := hid htp2
  have HOe : Hid (∀ e ∈ es, e.ok sig p t) := fun e he => HOk.out e (by simp [he])
  have hwd : wait (es ++ [d]) = wait es + d.P.size := by rw [wait_app]; simp [wait]
  rw [hwd] at hcnt hwk
  have hw1 : IntKind.i64.wrap ((xs.length : Int) + 1 - 1) = (xs.length : Int) := by rw [yA _ ⟨by omega, by omega⟩]; omega
  have hw1' : IntKind.i64.wrap (xs.length : Int) = (xs.length : Int) := yA _ ⟨by omega, by omega⟩
  have hxc : xs.length ≤ cp := by omega
  have hsz1 := hdk.1.size
  have hsz2 := hdk.2.size
  have hpos1 := d.P.pos
  have hpos2 := d.T.pos
  have hca' : wr.cell? ⟨g, xs.length * 2, none⟩ = some xa := hca
  have hcb' : wr.cell? ⟨g, xs.length * 2 + 1, none⟩ = some xb := hcb
  clear how hct hpv hdk HOk HPrv hwd hca hcb
  cases hP : d.P with
  | var =>
   obtain ⟨c, hpc, hc0, hsat⟩ := pr_var HDk.out hP
   rw [hP] at htp1 HT1
   unfold TP cdS at htp1
   subst htp1
   have has := as_varM
   obtain ⟨y3, z3, hy3⟩ := htp2.ifv
   subst hy3
   have hqp : d.q1 < p.length := by omega
   have hqt : d.q2 < t.length := by omega
   obtain ⟨b9, o9, c9, he9, hpc9, hcc0, hcr1, hcr2⟩ := HP.out.at hqp
   simp only [zX, Addr.mk.injEq, and_true] at he9
   obtain ⟨rfl, rfl⟩ := he9
   rw [hpc] at hpc9
   cases hpc9
   have hIu := HT.out.mid hqt hsz2
   obtain ⟨u, hu⟩ : ∃ u, u = d.tr t := ⟨_, rfl⟩
   have HU := hid hu
   obtain ⟨N, hN⟩ : ∃ N, N = d.T.size := ⟨_, rfl⟩
   have HN := hid hN
   rw [← hN] at hIu
   have hIu2 : Is w (.slice (some ⟨b2, o2 + d.q2, none⟩) N (c2 - d.q2)) u := by rw [hu]; unfold Pr.tr; rw [← hN]; exact hIu
   have hbm0 := HMap.out
   have HSat := hid hsat
   have HPc := hid hpc
   obtain ⟨wA, hwA⟩ : ∃ X, X = (wr.alloc (.cells #[.iface 216 (.agg #[.slice (some ⟨b1, o1 + d.q1, none⟩) 1 (c1 - d.q1)]), .iface y3 z3] 213)).alloc (.cells #[.slice (some ⟨b1, o1 + d.q1, none⟩) 1 (c1 - d.q1)] 216) := ⟨_, rfl⟩
   have hBA : Below wr.heap.size wr wA := by rw [hwA]; exact zS (zA _) (zA _)
   have HBA := hid hBA
   have HMapA := hid (HMap.out.later hBA)
   have HSu := hid (hIu2.kp ((zK HB.out).trans (zK hBA)))
   have HSw := hid hIu2
   have HLrA : Hid (∀ n v, L.lookup n = some v → ∃ u', Is wA v u') := fun n v hv => by obtain ⟨u9, _, h9⟩ := (HLr.out n).1 v hv; exact ⟨u9, h9.kp ((zK HB.out).trans (zK hBA))⟩
   have hcc : wA.cell? ⟨b1, o1 + d.q1, none⟩ = some (.int .i64 c) := (zK (zS HB.out hBA)).cell _ _ hcc0
   have hcv : wA.cell? ⟨wr.heap.size + 1, 0, none⟩ = some (.slice (some ⟨b1, o1 + d.q1, none⟩) 1 (c1 - d.q1)) := by rw [hwA]; exact xAQ (by simp) rfl
   have hcn1 : wA.cell? ⟨wr.heap.size, 1, none⟩ = some (.iface y3 z3) := by rw [hwA]; exact xAP (xAB rfl)
   clear hIu hIu2 hu hbm0 hsat hpc hcc0 hN
   go_upto_region 8 with fail
   rw [← hwA]
   go_cut [46] from 39 to 46 (fun x wx => ∃ W1, Below wA.heap.size wA W1 ∧ ((L.lookup (-1 - c) = none ∧ x = .bool false ∧ MapV wx w.heap.size ((-1 - c, .slice (some ⟨b2, o2 + d.q2, none⟩) N (c2 - d.q2)) :: L) ∧ W1.grownBy wx (some w.heap.size)) ∨ (∃ v u9, L.lookup (-1 - c) = some v ∧ Is W1 v u9 ∧ x = .bool (!decide (u9 = u)) ∧ Below W1.heap.size W1 wx)))
   case first =>
    clear hwA has
    cases hTt : d.T with
    | var =>
     rw [hTt] at htp2 HN
     unfold TP cdS at htp2
     simp only [Value.iface.injEq] at htp2
     obtain ⟨rfl, rfl⟩ := htp2
     obtain rfl : N = 1 := HN.out
     clear HN
     have hS : Kp wA wA.drew := zK (xAF wA)
     refine wp_region_held_drew (S := fun w' => Kp wA w') (by kernel_rfl) hS (fun _ => ?_)
     refine wpAnyH_take (i := 0) (v := .map (some w.heap.size)) rfl (by kernel_rfl) (by kernel_rfl) (by kernel_rfl) (fun _ _ _ h => h) (Or.inl ⟨by rfl, fun w' h => by go_simp⟩) hS ?_
     simp only [Act.put, sA]
     refine wpAnyH_take (i := 1) (v := .agg #[.slice (some ⟨b1, o1 + d.q1, none⟩) 1 (c1 - d.q1)]) rfl (by kernel_rfl) (by kernel_rfl) (by kernel_rfl) (fun _ _ _ h => h) (Or.inl ⟨by rfl, fun w' h => by have hh0 := h.cell _ _ hcv; go_simp⟩) hS ?_
     simp only [Act.put]
     refine wpAnyH_take (i := 3) (v := .pointer (some ⟨wr.heap.size, 1, none⟩)) rfl (by kernel_rfl) (by kernel_rfl) (by kernel_rfl) (fun _ _ _ h => h) (Or.inl ⟨by rfl, fun w' h => by go_simp⟩) hS ?_
     simp only [Act.put]
     refine wpAnyH_take (i := 4) (v := .iface 216 (.agg #[.slice (some ⟨b2, o2 + d.q2, none⟩) 1 (c2 - d.q2)])) rfl (by kernel_rfl) (by kernel_rfl) (by kernel_rfl) (fun _ _ _ h => h) (Or.inl ⟨by rfl, fun w' h => by have hh0 := h.cell _ _ hcn1; go_simp⟩) hS ?_
     simp only [Act.put]
     refine wpAnyH_ready (rs := [2]) (by kernel_rfl) (by simp) (AllReadyH.cons rfl (fun K hK => ?_) (AllReadyH.nil))
     go_simp
     refine (number_any b1 o1 c1 d.q1 c _ (hS.cell _ _ hcc) hcr1 hcr2).mono ?_
     rintro e W1 ⟨rfl, hbW1⟩
     refine hK.out _ _ (hS.trans (zK hbW1)) (fun hSW1 => ?_)
     clear hK K
     try simp only [Act.put, sA]
     refine wpAnyH_ready (rs := [5]) (by kernel_rfl) (by simp) (AllReadyH.cons rfl (fun K hK => ?_) (AllReadyH.nil))
     go_simp
     refine (varRow_any _ _).mono ?_
     rintro e W2 ⟨rfl, hbW2⟩
     refine hK.out _ _ (hSW1.trans (zK hbW2)) (fun hSW2 => ?_)
     clear hK K
     try simp only [Act.put, sA]
     refine wpAnyH_ready (rs := [6]) (by kernel_rfl) (by simp) (AllReadyH.cons rfl (fun K hK => ?_) (AllReadyH.nil))
     go_simp
     have hba : Below wA.heap.size wA W2 := zS (xAF wA) (zS hbW1 hbW2)
     refine (bindAlike_any w.heap.size L (-1 - c) (.slice (some ⟨b2, o2 + d.q2, none⟩) 1 (c2 - d.q2)) u W2 (HMapA.out.later hba) (HSu.out.kp (zK hba)) (fun v hv => by obtain ⟨u9, _, h9⟩ := (HLr.out (-1 - c)).1 v hv; exact ⟨u9, h9.kp (((zK HB.out).trans (zK HBA.out)).trans (zK hba))⟩) (by omega) (by omega) (by unfold maxLen; omega)).mono ?_
     rintro e W3 (⟨hn, rfl, hm3, hg3⟩ | ⟨v, u9, hn, hi9, rfl, k9, hw9⟩)
     ·obtain ⟨es9, ck9, hbm⟩ := (HMapA.out.later hba).isMap
      refine hK.out _ _ (hSW2.trans (Kp.of_map hg3 hbm)) (fun hS3 => ?_)
      clear hK K
      try simp only [Act.put, sA]
      refine wpAnyH_take (i := 7) (v := .bool false) rfl (by kernel_rfl) (by kernel_rfl) (by kernel_rfl) (fun _ _ _ h => h) (Or.inl ⟨by rfl, fun w' h => by go_simp⟩) hS3 ?_
      simp only [Act.put]
      refine wpAnyH_done (by kernel_rfl) ?_ _
      go_wp2_with fail
      go_meet
      exact ⟨W2, hba, .inl ⟨hn, rfl, hm3, hg3⟩⟩
     ·have hb3 := xAX hw9
      refine hK.out _ _ (hSW2.trans (zK hb3)) (fun hS3 => ?_)
      clear hK K
      try simp only [Act.put, sA]
      obtain ⟨B, hB⟩ : ∃ B, B = decide (u9 = u) := ⟨_, rfl⟩
      rw [← hB]
      have HQ := hid hB
      clear hB hw9
      refine wpAnyH_take (i := 7) (v := .bool (!B)) rfl (by kernel_rfl) (by kernel_rfl) (by kernel_rfl) (fun _ _ _ h => h) (Or.inl ⟨by rfl, fun w' h => by go_simp⟩) hS3 ?_
      simp only [Act.put]
      refine wpAnyH_done (by kernel_rfl) ?_ _
      go_wp2_with fail
      go_meet
      exact ⟨W2, hba, .inr ⟨v, u9, hn, hi9, by rw [HQ.out], hb3⟩⟩
    | app ts2 =>
     rw [hTt] at htp2 HN
     unfold TP cdS at htp2
     obtain ⟨B2, a2, cp2, he2, hAB, hc20, _⟩ := htp2
     simp only [Value.iface.injEq] at he2
     obtain ⟨rfl, rfl⟩ := he2
     rw [show 1 + sizes ts2 = N from HN.out.symm] at hc20
     have hcB : wA.cell? ⟨B2, 0, none⟩ = some (.slice (some ⟨b2, o2 + d.q2, none⟩) N (c2 - d.q2)) := (zK (zS HB.out HBA.out)).cell _ _ hc20
     clear hc20 HN
     have hS : Kp wA wA.drew := zK (xAF wA)
     refine wp_region_held_drew (S := fun w' => Kp wA w') (by kernel_rfl) hS (fun _ => ?_)
     refine wpAnyH_take (i := 0) (v := .map (some w.heap.size)) rfl (by kernel_rfl) (by kernel_rfl) (by kernel_rfl) (fun _ _ _ h => h) (Or.inl ⟨by rfl, fun w' h => by go_simp⟩) hS ?_
     simp only [Act.put, sA]
     refine wpAnyH_take (i := 1) (v := .agg #[.slice (some ⟨b1, o1 + d.q1, none⟩) 1 (c1 - d.q1)]) rfl (by kernel_rfl) (by kernel_rfl) (by kernel_rfl) (fun _ _ _ h => h) (Or.inl ⟨by rfl, fun w' h => by have hh0 := h.cell _ _ hcv; go_simp⟩) hS ?_
     simp only [Act.put]
     refine wpAnyH_take (i := 3) (v := .pointer (some ⟨wr.heap.size, 1, none⟩)) rfl (by kernel_rfl) (by kernel_rfl) (by kernel_rfl) (fun _ _ _ h => h) (Or.inl ⟨by rfl, fun w' h => by go_simp⟩) hS ?_
     simp only [Act.put]
     refine wpAnyH_take (i := 4) (v := .iface 222 (.pointer (some ⟨B2, 0, none⟩))) rfl (by kernel_rfl) (by kernel_rfl) (by kernel_rfl) (fun _ _ _ h => h) (Or.inl ⟨by rfl, fun w' h => by have hh0 := h.cell _ _ hcn1; go_simp⟩) hS ?_
     simp only [Act.put]
     refine wpAnyH_ready (rs := [2]) (by kernel_rfl) (by simp) (AllReadyH.cons rfl (fun K hK => ?_) (AllReadyH.nil))
     go_simp
     refine (number_any b1 o1 c1 d.q1 c _ (hS.cell _ _ hcc) hcr1 hcr2).mono ?_
     rintro e W1 ⟨rfl, hbW1⟩
     refine hK.out _ _ (hS.trans (zK hbW1)) (fun hSW1 => ?_)
     clear hK K
     try simp only [Act.put, sA]
     refine wpAnyH_ready (rs := [5]) (by kernel_rfl) (by simp) (AllReadyH.cons rfl (fun K hK => ?_) (AllReadyH.nil))
     go_simp
     refine (appRow_any B2 _ _ (hSW1.cell _ _ hcB)).mono ?_
     rintro e W2 ⟨rfl, hwW2⟩
     have hbW2 : Below (W1).heap.size (W1) W2 := by rw [hwW2]; exact Below.refl _ _
     clear hwW2
     refine hK.out _ _ (hSW1.trans (zK hbW2)) (fun hSW2 => ?_)
     clear hK K
     try simp only [Act.put, sA]
     refine wpAnyH_ready (rs := [6]) (by kernel_rfl) (by simp) (AllReadyH.cons rfl (fun K hK => ?_) (AllReadyH.nil))
     go_simp
     have hba : Below wA.heap.size wA W2 := zS (xAF wA) (zS hbW1 hbW2)
     refine (bindAlike_any w.heap.size L (-1 - c) (.slice (some ⟨b2, o2 + d.q2, none⟩) N (c2 - d.q2)) u W2 (HMapA.out.later hba) (HSu.out.kp (zK hba)) (fun v hv => by obtain ⟨u9, _, h9⟩ := (HLr.out (-1 - c)).1 v hv; exact ⟨u9, h9.kp (((zK HB.out).trans (zK HBA.out)).trans (zK hba))⟩) (by omega) (by omega) (by unfold maxLen; omega)).mono ?_
     rintro e W3 (⟨hn, rfl, hm3, hg3⟩ | ⟨v, u9, hn, hi9, rfl, k9, hw9⟩)
     ·obtain ⟨es9, ck9, hbm⟩ := (HMapA.out.later hba).isMap
      refine hK.out _ _ (hSW2.trans (Kp.of_map hg3 hbm)) (fun hS3 => ?_)
      clear hK K
      try simp only [Act.put, sA]
      refine wpAnyH_take (i := 7) (v := .bool false) rfl (by kernel_rfl) (by kernel_rfl) (by kernel_rfl) (fun _ _ _ h => h) (Or.inl ⟨by rfl, fun w' h => by go_simp⟩) hS3 ?_
      simp only [Act.put]
      refine wpAnyH_done (by kernel_rfl) ?_ _
      go_wp2_with fail
      go_meet
      exact ⟨W2, hba, .inl ⟨hn, rfl, hm3, hg3⟩⟩
     have hb3 := xAX hw9
     refine hK.out _ _ (hSW2.trans (zK hb3)) (fun hS3 => ?_)
     clear hK K
     try simp only [Act.put, sA]
     obtain ⟨B, hB⟩ : ∃ B, B = decide (u9 = u) := ⟨_, rfl⟩
     rw [← hB]
     have HQ := hid hB
     clear hB hw9
     refine wpAnyH_take (i := 7) (v := .bool (!B)) rfl (by kernel_rfl) (by kernel_rfl) (by kernel_rfl) (fun _ _ _ h => h) (Or.inl ⟨by rfl, fun w' h => by go_simp⟩) hS3 ?_
     simp only [Act.put]
     refine wpAnyH_done (by kernel_rfl) ?_ _
     go_wp2_with fail
     go_meet
     exact ⟨W2, hba, .inr ⟨v, u9, hn, hi9, by rw [HQ.out], hb3⟩⟩
   case rest =>
    obtain ⟨W1, hbW, ho⟩ := hcut
    have hBW : Below w.heap.size w W1 := zS (zS HB.out HBA.out) hbW
    have hpv := HPv.out
    clear has
    rcases ho with ⟨hn, rfl, hm3, hg3⟩ | ⟨v, u9, hn, hi9, rfl, hb3⟩
    ·have HBx : Hid (Below w.heap.size w wc) := xDH hBW hg3 (Nat.le_refl _)
     have HOx : Hid (OwP wc (w.heap.size + 1) (.slice (some ⟨g, 0, none⟩) xs.length cp) xs) := (HCt.out.later (zS HBA.out hbW)).kept hg3 (.inr (fun h => by have h : some g = some w.heap.size := h; cases h; omega))
     have HM3 := hid hm3
     have HEx : Hid (Eqv sig p t ((-1 - c, u) :: R) es) := by
      have := Eqv.bind HEq.out HSat.out ((HLr.out _).2 hn)
      rw [← HU.out] at this
      exact this
     have HKx : Hid (Ky sig p ((-1 - c, u) :: R)) := HKy.out.cons (by rw [HU.out]; exact HDk.out.2.row.1) (zD HPc.out) hc0
     clear hn hm3 hg3 hbW hBW hpv
     go_wp2
     go_roundg (wait es)
     case measure => omega
     case rel => exact ⟨xs, es, _, _, HOx.out, HPv.out, HOe.out, HM3.out, Lr.cons HLr.out HSw.out, HEx.out, HKx.out, by simp only [zG]; omega, Nat.le_refl _, HBx.out⟩
    ·have HBx : Hid (Below w.heap.size w wc) := zS hBW hb3
     have hbx : Below wr.heap.size wr wc := zS (zS HBA.out hbW) hb3
     have HOx : Hid (OwP wc (w.heap.size + 1) (.slice (some ⟨g, 0, none⟩) xs.length cp) xs) := HCt.out.later hbx
     have HMx := hid (HMap.out.later hbx)
     obtain ⟨u8, hr8, h8⟩ := (HLr.out _).1 v hn
     obtain rfl := Is.inj (h8.kp (zK hBW)) hi9
     clear hi9 h8 hb3 hbx hn hbW hBW hpv
     by_cases heu : u8 = u
     ·have hd : decide (u8 = u) = true := by simp [heu]
      rw [hd]
      subst heu
      have HEx : Hid (Eqv sig p t R es) := Eqv.known HEq.out HSat.out (by rw [← HU.out]; exact hr8)
      clear hr8 hd
      go_wp2
      go_roundg (wait es)
      case measure => omega
      case rel => exact ⟨xs, es, _, _, HOx.out, HPv.out, HOe.out, HMx.out, HLr.out, HEx.out, HKy.out, by omega, Nat.le_refl _, HBx.out⟩
     ·have hd : decide (u8 = u) = false := by simp [heu]
      rw [hd]
      have HEx : Hid (∀ f, Rt sig f → ¬ Sm f p t) := Eqv.clash HEq.out HSat.out hr8 (by rw [← HU.out]; exact heu)
      clear hr8 heu hd
      go_wp2
      go_ret2
      exact ⟨HBx.out, .inl ⟨rfl, HEx.out⟩⟩
  | app ts1 =>
   obtain ⟨y3, z3, hy3⟩ := htp2.ifv
   subst hy3
   rw [hP] at htp1 HT1 hwk hcnt hsz1
   unfold TP at htp1
   obtain ⟨B1, a1, cp1, he1, _⟩ := htp1
   subst he1
   simp only [Tr.size] at hwk hcnt hsz1
   have has := as_varnotM
   have hqp : d.q1 < p.length := by omega
   have hqt : d.q2 < t.length := by omega
   obtain ⟨b9, o9, c, he9, hpc, hcc0, hcr1, hcr2⟩ := HP.out.at hqp
   simp only [zX, Addr.mk.injEq, and_true] at he9
   obtain ⟨rfl, rfl⟩ := he9
   obtain ⟨b9, o9, c', he9, htc, hdd0, hdr1, hdr2⟩ := HT.out.at hqt
   simp only [zX, Addr.mk.injEq, and_true] at he9
   obtain ⟨rfl, rfl⟩ := he9
   obtain ⟨hno, hyes⟩ := pr_app HAr.out HDk.out hP hpc htc
   have HNo := hid hno
   have HYes := hid hyes
   have hlk := len_sizes ts1
   obtain ⟨wA, hwA⟩ : ∃ X, X = (wr.alloc (.cells #[.iface 222 (.pointer (some ⟨B1, 0, none⟩)), .iface y3 z3] 213)).alloc (.cells #[.slice none 0 0] 216) := ⟨_, rfl⟩
   have hBA : Below wr.heap.size wr wA := by rw [hwA]; exact zS (zA _) (zA _)
   have HBA := hid hBA
   have HBW := hid (zS HB.out hBA)
   have hcc : wA.cell? ⟨b1, o1 + d.q1, none⟩ = some (.int .i64 c) := (zK HBW.out).cell _ _ hcc0
   have hdd : wA.cell? ⟨b2, o2 + d.q2, none⟩ = some (.int .i64 c') := (zK HBW.out).cell _ _ hdd0
   have hcn0 : wA.cell? ⟨wr.heap.size, 0, none⟩ = some (.iface 222 (.pointer (some ⟨B1, 0, none⟩))) := by rw [hwA]; exact xAP (xAB rfl)
   have hcn1 : wA.cell? ⟨wr.heap.size, 1, none⟩ = some (.iface y3 z3) := by rw [hwA]; exact xAP (xAB rfl)
   have HCc := hid hcc
   have HDd := hid hdd
   have HTc := hid htc
   have HPc := hid hpc
   clear hcc0 hdd0 hno hyes hcc hdd hpc htc
   go_upto_region 10 with fail
   rw [← hwA]
   clear has
   go_cut [11, 12] from 47 to 55 (fun x y wx => ∃ ys ok, y = .bool ok ∧ OwP wx wA.heap.size x ys ∧ Below wA.heap.size wA wx ∧ ((ok = false ∧ (d.T = .var ∨ c ≠ c')) ∨ (ok = true ∧ ∃ ts2, d.T = .app ts2 ∧ c = c' ∧ TPl wx A (cdS b1 o1 c1) (ys.map (·.1)) ts1 (d.q1 + 1) ∧ TPl wx A (cdS b2 o2 c2) (ys.map (·.2)) ts2 (d.q2 + 1))))
   case first =>
    clear hwA
    have has := as_appM (.pointer (some ⟨B1, 0, none⟩)) 187 false
    simp only [Bool.false_eq_true, if_false] at has
    have hS : Kp wA wA.drew := zK (xAF wA)
    refine wp_region_held_drew (S := fun w' => Kp wA w') (by kernel_rfl) hS (fun _ => ?_)
    refine wpAnyH_take (i := 0) (v := .pointer (some ⟨wr.heap.size, 0, none⟩)) rfl (by kernel_rfl) (by kernel_rfl) (by kernel_rfl) (fun _ _ _ h => h) (Or.inl ⟨by rfl, fun w' h => by go_simp⟩) hS ?_
    simp only [Act.put, sA]
    refine wpAnyH_take (i := 1) (v := .iface 222 (.pointer (some ⟨B1, 0, none⟩))) rfl (by kernel_rfl) (by kernel_rfl) (by kernel_rfl) (fun _ _ _ h => h) (Or.inl ⟨by rfl, fun w' h => by have hh0 := h.cell _ _ hcn0; go_simp⟩) hS ?_
    simp only [Act.put]
    refine wpAnyH_take (i := 2) (v := .pointer (some ⟨B1, 0, none⟩)) rfl (by kernel_rfl) (by kernel_rfl) (by kernel_rfl) (fun _ _ _ h => h) (Or.inl ⟨by rfl, fun w' h => by go_simp⟩) hS ?_
    simp only [Act.put]
    refine wpAnyH_take (i := 3) (v := .pointer (some ⟨wr.heap.size, 1, none⟩)) rfl (by kernel_rfl) (by kernel_rfl) (by kernel_rfl) (fun _ _ _ h => h) (Or.inl ⟨by rfl, fun w' h => by go_simp⟩) hS ?_
    simp only [Act.put]
    refine wpAnyH_take (i := 4) (v := .iface y3 z3) rfl (by kernel_rfl) (by kernel_rfl) (by kernel_rfl) (fun _ _ _ h => h) (Or.inl ⟨by rfl, fun w' h => by have hh0 := h.cell _ _ hcn1; go_simp⟩) hS ?_
    simp only [Act.put]
    clear has
    refine wpAnyH_ready (rs := [5]) (by kernel_rfl) (by simp) (AllReadyH.cons rfl (fun K hK => ?_) (AllReadyH.nil))
    go_simp
    have hkw : Kp w wA.drew := (zK HBW.out).trans hS
    refine (argumentPairs_any A b1 o1 c1 b2 o2 c2 d.q1 d.q2 c c' B1 ts1 d.T (.iface y3 z3) wA.drew (HT1.out.keep (fun b o x _ h => hkw.cell _ _ h) (fun _ h => h)) (HT2.out.keep (fun b o x _ h => hkw.cell _ _ h) (fun _ h => h)) (fun b hb => Nat.lt_of_lt_of_le (HA.out b hb) HBW.out.size) (hS.cell _ _ HCc.out) (hS.cell _ _ HDd.out) (fun ts2 h1 h2 => (HYes.out ts2 h1 h2).1) (by omega)).mono ?_
    rintro e W1 ⟨v', ys, ok, rfl, hoy, hby, hres⟩
    have HRes := hid hres
    have HOy := hid hoy
    have HBy := hid hby
    clear hres hoy
    refine hK.out _ _ (hS.trans (zK hby)) (fun hSW1 => ?_)
    clear hK K
    try simp only [Act.put, sA]
    refine wpAnyH_take (i := 6) (v := .tuple #[v', .bool ok]) rfl (by kernel_rfl) (by kernel_rfl) (by kernel_rfl) (fun _ _ _ h => h) (Or.inl ⟨by rfl, fun w' h => by go_simp⟩) hSW1 ?_
    simp only [Act.put]
    refine wpAnyH_take (i := 7) (v := v') rfl (by kernel_rfl) (by kernel_rfl) (by kernel_rfl) (fun _ _ _ h => h) (Or.inl ⟨by rfl, fun w' h => by go_simp⟩) hSW1 ?_
    simp only [Act.put]
    refine wpAnyH_take (i := 8) (v := .bool ok) rfl (by kernel_rfl) (by kernel_rfl) (by kernel_rfl) (fun _ _ _ h => h) (Or.inl ⟨by rfl, fun w' h => by go_simp⟩) hSW1 ?_
    simp only [Act.put]
    refine wpAnyH_take (i := 9) (v := v') rfl (by kernel_rfl) (by kernel_rfl) (by kernel_rfl) (fun _ _ _ h => h) (Or.inl ⟨by rfl, fun w' h => by go_simp⟩) hSW1 ?_
    simp only [Act.put]
    refine wpAnyH_take (i := 10) (v := .bool ok) rfl (by kernel_rfl) (by kernel_rfl) (by kernel_rfl) (fun _ _ _ h => h) (Or.inl ⟨by rfl, fun w' h => by go_simp⟩) hSW1 ?_
    simp only [Act.put]
    refine wpAnyH_done (by kernel_rfl) ?_ _
    go_wp2_with fail
    go_meet
    exact ⟨ys, ok, rfl, HOy.out, zS (xAF wA) HBy.out, HRes.out⟩
   case rest =>
    obtain ⟨ys, ok, rfl, hoy, hby, hres⟩ := hcut
    have hbx : Below wr.heap.size wr wc := zS HBA.out hby
    have hBx : Below w.heap.size w wc := zS HB.out hbx
    have HBx := hid hBx
    rcases hres with ⟨rfl, hh⟩ | ⟨rfl, ts2, hT2, hcc, ht1, ht2⟩
    ·have HEx : Hid (∀ f, Rt sig f → ¬ Sm f p t) := Eqv.none HEq.out (HNo.out hh)
     clear hh hoy hby hbx hBx
     go_wp2
     go_ret2
     exact ⟨HBx.out, .inl ⟨rfl, HEx.out⟩⟩
    obtain ⟨hll, hoks, hsm⟩ := HYes.out ts2 hT2 hcc
    have HEx : Hid (Eqv sig p t R (es ++ argPr p t ts1 ts2 d.q1 d.q2)) := Eqv.open HEq.out hsm
    have HOx : OwP wc (w.heap.size + 1) (.slice (some ⟨g, 0, none⟩) xs.length cp) xs := HCt.out.later hbx
    have hMx := HMap.out.later hbx
    have hback : ∀ b o x, A b → wc.cell? ⟨b, o, none⟩ = some x → w.cell? ⟨b, o, none⟩ = some x := fun b o x hb h => (hBx.cell (p := ⟨b, o, none⟩) (HA.out b hb)).symm.trans h
    have HPx : Hid (PrV w A (cdS b1 o1 c1) (cdS b2 o2 c2) (xs ++ ys) (es ++ argPr p t ts1 ts2 d.q1 d.q2)) := PrV.app HPv.out (PrV.args p t hll (ht1.keep hback (fun _ h => h)) (ht2.keep hback (fun _ h => h)))
    have HOk2 : Hid (∀ e ∈ es ++ argPr p t ts1 ts2 d.q1 d.q2, e.ok sig p t) := fun e he => by
     rcases yE.1 he with he | he
     ·exact HOe.out e he
     exact hoks e he
    have hxl : xs.length ≤ wait es := by rw [HPv.out.len]; exact len_wait es
    have hyl : ys.length = ts1.length := by have := ht1.len; rwa [zJ] at this
    have hone : ∀ u ∈ prC ys, u.oneCell' = true := pr_one ht1 ht2
    obtain ⟨ao, cpy, hvy, hsrc⟩ := own_src hoy
    subst hvy
    obtain ⟨v6, w6, hr6, ho6, hg6, _⟩ := join_pairs 214 (cap := cpy) HOx hsrc hone (by have h9 : g < wr.heap.size := yJ _ _ hca'; have := hbx.size; omega) (by omega)
    have HR6 := hid hr6
    have HO6 := hid ho6
    have HM6 := hid (hMx.kept hg6 (fun h => by have h : some g = some w.heap.size := h; cases h; omega))
    have HB6 : Hid (Below w.heap.size w w6) := xDH hBx hg6 (show w.heap.size ≤ g by omega)
    have hwt : wait (es ++ argPr p t ts1 ts2 d.q1 d.q2) = wait es + sizes ts1 := by rw [wait_app, wait_args]
    have HWt := hid hwt
    clear hr6 ho6 hg6 hMx hback hxl hyl hone hsrc hoy hby hbx hBx HOx ht1 ht2 hll hoks hsm hcc hT2 hwt
    go_wp2_with (first
     | (at_builtin; refine xAL rfl _ _ _ rfl _ _ rfl rfl HR6.out ?_))
    go_roundg (wait es + sizes ts1)
    case measure => omega
    case rel => exact ⟨_, _, _, _, HO6.out, HPx.out, HOk2.out, HM6.out, HLr.out, HEx.out, HKy.out, by rw [HWt.out]; omega, by rw [HWt.out]; exact Nat.le_refl _, HB6.out⟩
end Go.Proofs.YtdjmjhlbjcgoiaaGreatDoor
