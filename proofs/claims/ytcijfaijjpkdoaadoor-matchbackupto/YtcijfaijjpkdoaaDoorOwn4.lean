/- Texts of the proof, one behind the other. -/
import Derived.Test.YtcijfaijjpkdoaaDoorOwn3
import Derived.Deep.Slices
import Derived.Test.YtcijfaijjpkdoaaDoorOwn1
import Derived.Sort.WalkB12
import Derived.Lib.SlicesMore
import Derived.Lib.Walk
import Derived.Deep.LoopGhost
import Derived.Deep.DeepAppendRoom
import Derived.RangeFuncNested
import Derived.RangeFuncBound
import Derived.RangeFuncCalls
import Derived.RangeFuncLeaves
import Derived.RangeFuncBox
import Derived.Shelf.Abstract
import Derived.Shelf.RegionOpen
import Derived.OwnWalkIn
import Derived.TacticsInMore
import Derived.LoopNIn
import Derived.LoopIn
import Derived.Lib.ValidLaws
import Derived.Stop.FmtQuoteTie
/- The calls of the examples. -/
namespace Go.Proofs.YtcijfaijjpkdoaaDoor
open Go.RowKit Go.Maps Go.BigFrame

theorem b0 {w : World} : Below w.heap.size w w := Below.refl _ _
theorem b1 {w w' : World} {o : Obj} (h : Below w.heap.size w w') : Below w.heap.size w (w'.alloc o) := below_step h (below_alloc o)

def EIs (w : World) (g : Nat) : Nat → List Int → Prop
  | _, [] => True
  | o, x :: r => EI w g o x ∧ EIs w g (o + 1) r

theorem EIs.get {w : World} {g : Nat} : ∀ {p : List Int} {o k : Nat} {m : Int}, EIs w g o p → p[k]? = some m → EI w g (o + k * 1) m
  | [], _, _, _, _, h => by simp at h
  | x :: r, o, 0, m, h, hk => by
    simp at hk
    subst hk
    exact h.1
  | x :: r, o, k + 1, m, h, hk => by
    have := EIs.get h.2 (k := k) (by simpa using hk)
    rw [show o + (k + 1) * 1 = o + 1 + k * 1 by omega]
    exact this

theorem is_lit {w : World} {g : Nat} {p : List Int} (hg : g < w.heap.size) (hl : p.length ≤ 9) (h : EIs w g 0 p) : Is w (.slice (some ⟨g, 0, none⟩) p.length p.length) p := by
  refine ⟨_, p.length, rfl, Nat.le_refl _, by unfold maxLen; omega, fun _ => ⟨g, 0, rfl, hg, fun k m hk => ?_⟩⟩
  have := h.get hk
  rwa [Nat.zero_add] at this ⊢

theorem cell_newg {w : World} {t : TypeId} {vs : Array Value} {g k : Nat} {v : Value} (hg : g = w.heap.size) (hv : vs[k]? = some v) : (w.alloc (.cells vs t)).cell? ⟨g, k, none⟩ = some v := by
  subst hg
  exact cell_new hv

theorem ei {w : World} {g o : Nat} {x : Int} (h1 : -9223372036854775808 ≤ x) (h2 : x ≤ 9223372036854775807) (h : w.cell? ⟨g, o, none⟩ = some (.int .i64 x)) : EI w g o x := ⟨h1, h2, h⟩

theorem w_apply (w : World) : ∀ W, W = ((((w.alloc (Obj.cells #[Value.int IntKind.i64 1, Value.int IntKind.i64 (-2)] 3)).alloc (Obj.cells #[Value.int IntKind.i64 0] 3)).alloc (Obj.cells #[Value.int IntKind.i64 0, Value.slice (some ⟨w.heap.size, 0, none⟩) 2 2, Value.int IntKind.i64 1, Value.slice (some ⟨w.heap.size + 1, 0, none⟩) 1 1] 30)).alloc (Obj.cells #[Value.int IntKind.i64 2, Value.int IntKind.i64 (-1), Value.int IntKind.i64 (-2)] 3)) →
    Is W (.slice (some ⟨w.heap.size + 1 + 1 + 1, 0, none⟩) 3 3) [2, -1, -2] ∧ Bs W (.slice (some ⟨w.heap.size + 1 + 1, 0, none⟩) 2 2) [(0, [1, -2]), (1, [0])] ∧ Below w.heap.size w W := by
  intro W hW
  have hsz : W.heap.size = w.heap.size + 4 := by rw [hW]; simp
  have i1 : Is W (.slice (some ⟨w.heap.size, 0, none⟩) 2 2) [1, -2] := by
    refine is_lit (p := [1, -2]) (by omega) (by decide) ⟨ei (by omega) (by omega) ?_, ei (by omega) (by omega) ?_, trivial⟩ <;> (rw [hW]; repeat (first | (refine cell_newg ?_ rfl; simp; done) | refine cell_old ?_))
  have i2 : Is W (.slice (some ⟨w.heap.size + 1, 0, none⟩) 1 1) [0] := by
    refine is_lit (p := [0]) (by omega) (by decide) ⟨ei (by omega) (by omega) ?_, trivial⟩ <;> (rw [hW]; repeat (first | (refine cell_newg ?_ rfl; simp; done) | refine cell_old ?_))
  refine ⟨?_, ?_, by rw [hW]; exact b1 (b1 (b1 (b1 b0)))⟩
  · refine is_lit (p := [2, -1, -2]) (by omega) (by decide) ⟨ei (by omega) (by omega) ?_, ei (by omega) (by omega) ?_, ei (by omega) (by omega) ?_, trivial⟩ <;> (rw [hW]; repeat (first | (refine cell_newg ?_ rfl; simp; done) | refine cell_old ?_))
  · refine bs_lit (p := [(0, [1, -2]), (1, [0])]) (by omega) (by decide) ⟨⟨by decide, by decide, by decide, ?_, _, ?_, i1⟩, ⟨by decide, by decide, by decide, ?_, _, ?_, i2⟩, trivial⟩ <;> (rw [hW]; repeat (first | (refine cell_newg ?_ rfl; simp; done) | refine cell_old ?_))

end Go.Proofs.YtcijfaijjpkdoaaDoor

/- Binds of one's own: rows that are the call's or older ones; a bind joined, binds joined. -/
namespace Go.Proofs.YtcijfaijjpkdoaaDoor
open Go.RowKit Go.Maps

theorem info_bind : (Tryd.prog.info? 30).map (fun i => (i.zero, i.size, i.bytes)) = some (some (.agg #[.int .i64 0, .slice none 0 0]), 2, 32) := by kernel_rfl
theorem under_binds : Tryd.prog.underlying 25 = some (.slice 30) := by kernel_rfl

def flatB (s : List Bd) (us : List Value) : List Value := (s.zip us).flatMap fun p => [.int .i64 p.1.1, p.2]

/-- A row of a bind: the call's own, or one that was there. -/
def RowB (w0 w : World) (u : Value) (t : List Int) : Prop := OwI w w0.heap.size u t ∨ Is w0 u t

theorem RowB.is {w0 w : World} {u : Value} {t : List Int} (h : RowB w0 w u t) (hb : Below w0.heap.size w0 w) : Is w u t := by
  rcases h with h | h
  · exact h.is
  · exact h.kp (Kp.of_below hb)

theorem RowB.one {w0 w : World} {u : Value} {t : List Int} (h : RowB w0 w u t) : u.oneCell' = true := by
  rcases h with h | h
  · obtain ⟨_, _, rfl, _⟩ := h.shape
    rfl
  · obtain ⟨_, _, rfl, _⟩ := h
    rfl

def EBd (w0 w : World) (u : Value) (b : Bd) : Prop := RowB w0 w u b.2 ∧ -9223372036854775808 ≤ b.1 ∧ b.1 ≤ 9223372036854775807 ∧ b.2.length * 8 ≤ 140737488351232

/-- The slice value v is the call's own and holds the binds s. -/
def OB (w0 w : World) (v : Value) (s : List Bd) : Prop :=
  ∃ us : List Value, us.length = s.length ∧ (∀ (i : Nat) (u : Value) (b : Bd), us[i]? = some u → s[i]? = some b → EBd w0 w u b) ∧ w.ownsRow w0.heap.size 30 2 v s.length (flatB s us)

theorem flatB_get : ∀ {s : List Bd} {us : List Value} {i : Nat} {b : Bd} {u : Value}, s[i]? = some b → us[i]? = some u → (flatB s us)[i * 2]? = some (.int .i64 b.1) ∧ (flatB s us)[i * 2 + 1]? = some u
  | [], _, i, _, _, h, _ => by simp at h
  | _ :: _, [], i, _, _, _, h => by simp at h
  | a :: s, v :: us, 0, b, u, h, k => by
    simp at h k
    subst h
    subst k
    exact ⟨by simp [flatB], by simp [flatB]⟩
  | a :: s, v :: us, i + 1, b, u, h, k => by
    rw [List.getElem?_cons_succ] at h k
    obtain ⟨h1, h2⟩ := flatB_get h k
    have e : flatB (a :: s) (v :: us) = .int .i64 a.1 :: v :: flatB s us := rfl
    rw [e]
    refine ⟨?_, ?_⟩
    · rw [show (i + 1) * 2 = i * 2 + 1 + 1 by omega]; simpa using h1
    · rw [show (i + 1) * 2 + 1 = i * 2 + 1 + 1 + 1 by omega]; simpa using h2

theorem flatB_len : ∀ {s : List Bd} {us : List Value}, us.length = s.length → (flatB s us).length = s.length * 2
  | [], us, h => by simp [flatB]
  | a :: s, [], h => by simp at h
  | a :: s, u :: us, h => by
    have e : flatB (a :: s) (u :: us) = .int .i64 a.1 :: u :: flatB s us := rfl
    rw [e, List.length_cons, List.length_cons, flatB_len (by simpa using h), List.length_cons]
    omega

theorem flatB_append : ∀ {s r : List Bd} {us vs : List Value}, us.length = s.length → flatB (s ++ r) (us ++ vs) = flatB s us ++ flatB r vs := by
  intro s r us vs h
  unfold flatB
  rw [List.zip_append h.symm, List.flatMap_append]

theorem flatB_one : ∀ {s : List Bd} {us : List Value}, (∀ u ∈ us, u.oneCell' = true) → ∀ c ∈ flatB s us, c.oneCell' = true
  | [], _, _, c, hc => by simp [flatB] at hc
  | _ :: _, [], _, c, hc => by simp [flatB] at hc
  | a :: s, u :: us, h, c, hc => by
    have e : flatB (a :: s) (u :: us) = .int .i64 a.1 :: u :: flatB s us := rfl
    rw [e] at hc
    cases hc with
    | head => rfl
    | tail _ hc =>
      cases hc with
      | head => exact h u (.head _)
      | tail _ hc => exact flatB_one (fun x hx => h x (.tail _ hx)) c hc

theorem OB.bs {w0 w : World} {v : Value} {s : List Bd} (h : OB w0 w v s) (hb : Below w0.heap.size w0 w) : Bs w v s := by
  obtain ⟨us, hl, hc, ho⟩ := h
  have ho2 := ho
  rcases ho2.2 with ⟨rfl, hn⟩ | ⟨g, cap, cur, rfl, hbg, hg, hcap, hm, hs, ht⟩
  · obtain rfl := List.eq_nil_of_length_eq_zero hn
    exact Row.nil (by simp [maxLen])
  · refine ⟨_, cap, rfl, hcap, hm, fun _ => ⟨g, 0, rfl, (Array.getElem?_eq_some_iff.1 hg).1, ?_⟩⟩
    intro k b hk
    have hlt : k < s.length := (List.getElem?_eq_some_iff.1 hk).1
    have hck : us[k]? = some us[k] := List.getElem?_eq_getElem (by omega)
    obtain ⟨h1, h2⟩ := flatB_get hk hck
    obtain ⟨o1, o2, o3, o4⟩ := hc k _ b hck hk
    refine ⟨o2, o3, o4, ?_, us[k], ?_, o1.is hb⟩
    · rw [Nat.zero_add, World.ownsRow.cellAt ho2 (k * 2) (by omega)]
      exact h1
    · rw [Nat.zero_add, World.ownsRow.cellAt ho2 (k * 2 + 1) (by omega)]
      exact h2

theorem RowB.later {w0 w w' : World} {u : Value} {t : List Int} (h : RowB w0 w u t) (hb : Below w.heap.size w w') : RowB w0 w' u t := by
  rcases h with h | h
  · exact .inl (h.later hb)
  · exact .inr h

theorem OB.later {w0 w w' : World} {v : Value} {s : List Bd} (h : OB w0 w v s) (hb : Below w.heap.size w w') : OB w0 w' v s := by
  obtain ⟨us, hl, hc, ho⟩ := h
  exact ⟨us, hl, fun i u b h1 h2 => ⟨(hc i u b h1 h2).1.later hb, (hc i u b h1 h2).2⟩, ownsRow_later ho hb⟩

theorem OB.empty (w0 w : World) (hb : w0.heap.size ≤ w.heap.size) : OB w0 (w.alloc (.cells #[] 30)) (.slice (some ⟨w.heap.size, 0, none⟩) 0 0) [] :=
  ⟨[], rfl, fun i c m h => (by simp at h), rfl, .inr ⟨w.heap.size, 0, #[], rfl, hb, heap_alloc_new _ _, Nat.le_refl _, Nat.zero_le _, rfl, rfl⟩⟩

theorem OB.shape {w0 w : World} {v : Value} {s : List Bd} (h : OB w0 w v s) : ∃ ao cap, v = .slice ao s.length cap ∧ s.length ≤ cap ∧ cap ≤ maxLen := by
  obtain ⟨us, hl, hc, ho⟩ := h
  rcases ho.2 with ⟨rfl, hn⟩ | ⟨g, cap, cur, rfl, hb, hg, hc, hm, hs, ht⟩
  · exact ⟨none, 0, by rw [hn], by omega, by simp [maxLen]⟩
  · exact ⟨_, cap, rfl, hc, hm⟩

/-- Binds in memory joined to one's own. -/
theorem OB.join (ty : TypeId) {w0 w : World} {v : Value} {s r : List Bd} {us : List Value} (h : OB w0 w v s) (hb : Below w0.heap.size w0 w) {g off cap : Nat} (_hr : 0 < r.length) (hu : us.length = r.length)
    (hcell : ∀ (j : Nat) (c : Value), (flatB r us)[j]? = some c → w.cell? ⟨g, off + j, none⟩ = some c) (hE : ∀ (i : Nat) (u : Value) (b : Bd), us[i]? = some u → r[i]? = some b → EBd w0 w u b) (hlen : (s.length + r.length) * 32 ≤ 140737488355328) :
    ∃ v' w', (Builtin.append_ #[25, 25] ty #[v, .slice (some ⟨g, off, none⟩) r.length cap]).run Tryd.prog w = .ok v' w' ∧ OB w0 w' v' (s ++ r) ∧ Below w0.heap.size w0 w' := by
  obtain ⟨i1, hi1, hy0, hy1, hy2⟩ := info_parts info_bind
  obtain ⟨vs, hl, hc, ho⟩ := h
  obtain ⟨v', w', hrun, h2, h3, _, _⟩ := run_append_own_at (P := Tryd.prog) w w0.heap.size 25 ty 30 i1 _ 2 32 under_binds hi1 hy0 hy1 hy2 rfl (by decide) v s.length (flatB s vs) ho ⟨g, off, none⟩ r.length cap (flatB r us) (by rw [flatB_len hu])
    (fun j c hj => by rw [Addr.add_lit]; exact hcell j c hj)
    (flatB_one fun u hu2 => by
      obtain ⟨i, hi, rfl⟩ := List.getElem_of_mem hu2
      obtain ⟨b, hbx⟩ : ∃ b, r[i]? = some b := ⟨_, List.getElem?_eq_getElem (by omega)⟩
      exact (hE i _ b (List.getElem?_eq_getElem hi) hbx).1.one) (by unfold maxLen; omega) (by omega) hb.size
  have hk : ∀ {u : Value} {t : List Int}, RowB w0 w u t → RowB w0 w' u t := fun {u t} hu => by
    rcases hu with hu | hu
    · exact .inl (hu.kept h3 (ownsRow_apart hu.2 ho (by decide)))
    · exact .inr hu
  refine ⟨v', w', hrun, ⟨vs ++ us, by rw [List.length_append, List.length_append, hl, hu], fun i u b h1 h4 => ?_, ?_⟩, hb.grown h3 hb.size (fun j hj => own_blk ho hj)⟩
  · by_cases hi : i < vs.length
    · rw [List.getElem?_append_left hi] at h1
      rw [List.getElem?_append_left (by omega)] at h4
      exact ⟨hk (hc i u b h1 h4).1, (hc i u b h1 h4).2⟩
    · rw [List.getElem?_append_right (by omega)] at h1
      rw [List.getElem?_append_right (by omega), ← hl] at h4
      exact ⟨hk (hE _ u b h1 h4).1, (hE _ u b h1 h4).2⟩
  · rw [List.length_append, flatB_append hl]
    exact h2

/-- One bind joined. -/
theorem OB.snoc (ty : TypeId) {w0 w : World} {v u : Value} {s : List Bd} {x : Int} {t : List Int} (h : OB w0 w v s) (hb : Below w0.heap.size w0 w) (hE : EBd w0 w u (x, t)) (hlen : (s.length + 1) * 32 ≤ 140737488355328) :
    ∃ v' w', (Builtin.append_ #[25, 25] ty #[v, .slice (some ⟨w.heap.size, 0, none⟩) 1 1]).run Tryd.prog (w.alloc (.cells #[.int .i64 x, u] 30)) = .ok v' w' ∧ OB w0 w' v' (s ++ [(x, t)]) ∧ Below w0.heap.size w0 w' := by
  have ha := below_alloc (w := w) (.cells #[.int .i64 x, u] 30)
  refine (h.later ha).join ty (r := [(x, t)]) (us := [u]) (below_step hb ha) (by simp) rfl (fun j c hj => ?_) (fun i u' b h1 h2 => ?_) (by simpa using hlen)
  · rw [Nat.zero_add, cell_of_row _ _ _ _ _ _ (heap_alloc_new _ _)]
    simpa [flatB] using hj
  · have hi : i = 0 := by
      have := (List.getElem?_eq_some_iff.1 h1).1
      simp at this
      omega
    subst hi
    simp at h1 h2
    subst h1
    subst h2
    exact ⟨hE.1.later ha, hE.2⟩

/-- Binds that were there joined. -/
theorem OB.old (ty : TypeId) {w0 w : World} {v u : Value} {s r : List Bd} (h : OB w0 w v s) (hb : Below w0.heap.size w0 w) (hr : Bs w0 u r) (hlen : (s.length + r.length) * 32 ≤ 140737488355328) :
    ∃ v' w', (Builtin.append_ #[25, 25] ty #[v, u]).run Tryd.prog w = .ok v' w' ∧ OB w0 w' v' (s ++ r) ∧ Below w0.heap.size w0 w' := by
  obtain ⟨i1, hi1, hy0, hy1, hy2⟩ := info_parts info_bind
  obtain ⟨ao, cap, rfl, hc, hm, hx⟩ := hr
  by_cases h0 : r.length = 0
  · obtain rfl : r = [] := List.eq_nil_of_length_eq_zero h0
    obtain ⟨bo, bc, rfl, hbc, _⟩ := h.shape
    refine ⟨_, w, run_append_nothing w 25 25 ty 30 i1 under_binds hi1 _ s.length bc hbc _ ?_, by rw [List.append_nil]; exact h, hb⟩
    cases ao with
    | none => exact Src.ofNil w under_binds _
    | some a => exact Src.ofSlice w under_binds a 0 _ [] (by simp) (fun j u hj => (by simp at hj)) (fun u hu => (by simp at hu))
  · obtain ⟨g, off, rfl, hg, hcell⟩ := hx (by omega)
    have each : ∀ i, i < r.length → ∃ u : Value, ∀ b, r[i]? = some b → w0.cell? ⟨g, off + i * 2, none⟩ = some (.int .i64 b.1) ∧ w0.cell? ⟨g, off + i * 2 + 1, none⟩ = some u ∧ EBd w0 w u b := fun i hi => by
      obtain ⟨b, hbx⟩ : ∃ b, r[i]? = some b := ⟨_, List.getElem?_eq_getElem hi⟩
      obtain ⟨h1, h2, h3, h4, u, h5, h6⟩ := hcell i b hbx
      refine ⟨u, fun b' hb' => ?_⟩
      rw [hbx] at hb'
      cases hb'
      exact ⟨h4, h5, .inr h6, h1, h2, h3⟩
    obtain ⟨q, hq⟩ := Deep.choose_lt each
    refine h.join ty (r := r) (us := (List.range r.length).map q) hb (by omega) (by simp) (fun j c hj => ?_) (fun i u b h1 h2 => ?_) hlen
    · have hjl := (List.getElem?_eq_some_iff.1 hj).1
      rw [flatB_len (by simp)] at hjl
      obtain ⟨b, hbx⟩ : ∃ b, r[j / 2]? = some b := ⟨_, List.getElem?_eq_getElem (by omega)⟩
      have hux : ((List.range r.length).map q)[j / 2]? = some (q (j / 2)) := by simp [List.getElem?_range (show j / 2 < r.length by omega)]
      obtain ⟨f1, f2⟩ := flatB_get hbx hux
      obtain ⟨c1, c2, _⟩ := hq (j / 2) (by omega) b hbx
      by_cases hpar : j % 2 = 0
      · rw [show j / 2 * 2 = j by omega] at f1 c1
        rw [f1] at hj
        cases hj
        exact (Kp.of_below hb).cell _ _ c1
      · rw [show j / 2 * 2 + 1 = j by omega] at f2
        rw [f2] at hj
        cases hj
        rw [show off + j / 2 * 2 + 1 = off + j by omega] at c2
        exact (Kp.of_below hb).cell _ _ c2
    · have hi := (List.getElem?_eq_some_iff.1 h2).1
      rw [List.getElem?_map, List.getElem?_range hi, Option.map_some, Option.some.injEq] at h1
      subst h1
      exact (hq i hi b h2).2.2

end Go.Proofs.YtcijfaijjpkdoaaDoor

/- Rows of trees: cloned, turned round. -/
namespace Go.Proofs.YtcijfaijjpkdoaaDoor
open Go.RowKit Go.Maps

section
variable {P : Program} {w w' : World} {ops : Array Oper} {rest : List Oper} {o : Oper} {a : Act} {Q : Exit → Act → World → Prop}

theorem wpList_append_runT (hg : o.guard = none) (s x : Operand) (t : TypeId) (ho : o.op = .call { callee := .builtin .append, args := #[s, x], argTypes := #[t, t] }) (v u : Value) {v' : Value} (hs : a.eval s = v) (hx : a.eval x = u)
    (hr : (Builtin.append_ #[t, t] o.type #[v, u]).run P w = .ok v' w') (h : wpList P ops Q rest (a.put o.dst v') w') : wpList P ops Q (o :: rest) a w := by
  refine wpList_plain hg fun K' hK' => ?_
  unfold Oper.wp
  simp [execOp, ho, resolve, invoke, builtin, hs, hx, hr, Result.andThen]
  exact hK' _ _ h

end

/-- A slice that is read, by its values. -/
def RdV (w : World) (v : Value) (vals : List Value) : Prop :=
  (v = .slice none 0 0 ∧ vals = []) ∨ ∃ g off cap, v = .slice (some ⟨g, off, none⟩) vals.length cap ∧ ∀ (j : Nat) (u : Value), vals[j]? = some u → w.cell? ⟨g, off + j, none⟩ = some u

theorem drawn_below1 (w : World) : Below w.heap.size w w.drew := (Below.refl _ _).drew

theorem set_grownT (w : World) (g k : Nat) (u : Value) : w.grownBy (w.setCell ⟨g, k, none⟩ u) (some g) :=
  ⟨rfl, rfl, rfl, by simp [World.setCell], fun i _ hne => heap_setCell_other _ _ _ _ (by intro e; subst e; exact hne rfl)⟩

/-- A value of an interface. -/
def IfV (u : Value) : Prop := ∃ t x, u = .iface t x

theorem swp_mem {d : Array Value} {i j : Nat} (hi : i < d.size) (hj : j < d.size) {u : Value} (h : u ∈ (Sort.swp d i j).toList) : u ∈ d.toList := by
  unfold Sort.swp at h
  simp only [Array.toList_setIfInBounds] at h
  rcases List.mem_or_eq_of_mem_set h with h | h
  · rcases List.mem_or_eq_of_mem_set h with h | h
    · exact h
    · rw [h, getElem!_pos d j hj]; exact Array.getElem_mem_toList hj
  · rw [h, getElem!_pos d i hi]; exact Array.getElem_mem_toList hi

theorem swp_list {d : Array Value} {i j : Nat} (hi : i < d.size) (hj : j < d.size) : (Sort.swp d i j).toList = (d.toList.set i d[j]!).set j d[i]! := by
  unfold Sort.swp
  simp [getElem!_pos, hi, hj]

end Go.Proofs.YtcijfaijjpkdoaaDoor

/- Trees in memory; apply. -/
namespace Go.Proofs.YtcijfaijjpkdoaaDoor
open Go.RowKit Go.Maps

/-- A term as a tree, without its symbols. -/
inductive Tr where
  | var : Tr
  | app : List Tr → Tr

mutual
def Tr.size : Tr → Nat
  | .var => 1
  | .app ts => 1 + sizes ts
def sizes : List Tr → Nat
  | [] => 0
  | t :: ts => t.size + sizes ts
end

theorem IfV.one {u : Value} (h : IfV u) : u.oneCell' = true := by obtain ⟨t, x, rfl⟩ := h; rfl

theorem sizes_app : ∀ (a b : List Tr), sizes (a ++ b) = sizes a + sizes b
  | [], b => by simp [sizes]
  | t :: a, b => by simp only [List.cons_append, sizes, sizes_app a b]; omega

theorem sizes_take (ts : List Tr) (k : Nat) : sizes (ts.take k) ≤ sizes ts := by
  have := sizes_app (ts.take k) (ts.drop k)
  rw [List.take_append_drop] at this
  omega

theorem Tr.pos (t : Tr) : 1 ≤ t.size := by
  cases t <;> simp only [Tr.size] <;> omega

theorem len_sizes : ∀ ts : List Tr, ts.length ≤ sizes ts
  | [] => by simp [sizes]
  | t :: ts => by
    have := t.pos
    have := len_sizes ts
    simp only [List.length_cons, sizes]
    omega

theorem RdV.kp {w w' : World} {v : Value} {vals : List Value} (h : RdV w v vals) (hk : Kp w w') : RdV w' v vals := by
  rcases h with h | ⟨g, off, cap, h1, h2⟩
  · exact .inl h
  · exact .inr ⟨g, off, cap, h1, fun j u hj => hk.cell _ _ (h2 j u hj)⟩

theorem RdV.at {w : World} {ao : Option Addr} {n cap : Nat} {vals : List Value} (h : RdV w (.slice ao n cap) vals) {k : Nat} {u : Value} (hk : vals[k]? = some u) : ∃ g off, ao = some ⟨g, off, none⟩ ∧ w.cell? ⟨g, off + k, none⟩ = some u := by
  rcases h with ⟨_, rfl⟩ | ⟨g, off, cap', h1, h2⟩
  · simp at hk
  · simp only [Value.slice.injEq] at h1
    exact ⟨g, off, h1.1, h2 k u hk⟩

end Go.Proofs.YtcijfaijjpkdoaaDoor

/- Rows of trees of package match: cloned, turned round. -/
namespace Go.Proofs.YtcijfaijjpkdoaaDoor
open Go.RowKit Go.Maps

theorem info_treeM : (Tryd.prog.info? 55).map (fun i => (i.zero, i.size, i.bytes)) = some (some .nilIface, 1, 16) := by kernel_rfl
theorem under_treesM : Tryd.prog.underlying 87 = some (.slice 55) := by kernel_rfl

set_option maxRecDepth 100000 in
set_option maxHeartbeats 800000 in
theorem cloneM_any (v : Value) (vals : List Value) (w : World) (h : RdV w v vals) (h1 : ∀ u ∈ vals, u.oneCell' = true) (hl : vals.length * 16 ≤ 140737488355328) :
    Calls Tryd.prog 56 #[v] w fun e w' => ∃ v', e = .returned v' ∧ w'.ownsRow w.heap.size 55 1 v' vals.length vals ∧ Below w.heap.size w w' := by
  obtain ⟨i0, hi, hz0, hz1, hz2⟩ := info_parts info_treeM
  have hq : ∀ (W : World) (a : Option Addr) (n c n' c' : Nat), (binOp .eql 87 (.slice a n c) (.slice none n' c')).run Tryd.prog W = .ok (.bool a.isNone) W := fun W a n c n' c' => Lib.run_eql_slice_nil W _ _ a n c n' c' under_treesM
  rcases h with ⟨rfl, rfl⟩ | ⟨g, off, cap, rfl, hc⟩
  · go_enter Tryd.func56, Tryd.ntmps56
    go_wp2
    go_ret
    exact ⟨_, rfl, World.ownsRow_nil _ _ _ _, Below.refl _ _⟩
  · obtain ⟨v', w', hr, ho, hb⟩ : ∃ v' w', (Builtin.append_ #[87, 87] 87 #[.slice (some ⟨w.heap.size, 0, none⟩) 0 0, .slice (some ⟨g, off, none⟩) vals.length cap]).run Tryd.prog (w.alloc (.cells #[] 55)) = .ok v' w' ∧ w'.ownsRow w.heap.size 55 1 v' vals.length vals ∧ Below w.heap.size w w' := by
      by_cases h0 : vals.length = 0
      · obtain rfl : vals = [] := List.eq_nil_of_length_eq_zero h0
        exact ⟨_, _, run_append_nothing _ 87 87 87 55 i0 under_treesM hi _ 0 0 (Nat.le_refl _) _ (Src.ofSlice _ under_treesM _ 0 _ [] (by simp) (fun j u hj => (by simp at hj)) (fun u hu => (by simp at hu))), empty_row _ (Nat.le_refl _), below_alloc _⟩
      · obtain ⟨v', w', hr, h2, h3, _, _⟩ := run_append_own_at (P := Tryd.prog) (w.alloc (.cells #[] 55)) w.heap.size 87 87 55 i0 _ 1 16 under_treesM hi hz0 hz1 hz2 rfl (by decide) _ 0 [] (empty_row _ (Nat.le_refl _)) ⟨g, off, none⟩ vals.length cap vals (by simp)
          (fun j u hj => by rw [Addr.add_lit]; exact (Kp.of_below (below_alloc _)).cell _ _ (hc j u hj)) h1 (by unfold maxLen; omega) (by omega) (below_alloc _).size
        rw [Nat.zero_add, List.nil_append] at h2
        exact ⟨v', w', hr, h2, grown_below (below_alloc _) h3 (Nat.le_refl _)⟩
    have HR := hid hr
    have HO := hid ho
    have HB := hid hb
    clear hr ho hb hc
    go_enter Tryd.func56, Tryd.ntmps56
    go_wp2_with (first
      | (at_builtin; refine wpList_append_runT rfl _ _ _ rfl _ _ rfl rfl HR.out ?_))
    go_ret
    exact ⟨_, rfl, HO.out, HB.out⟩

set_option maxRecDepth 1000000 in
set_option maxHeartbeats 1600000 in
theorem reverseM_any (v : Value) (vals : List Value) (base : Nat) (w : World) (h : w.ownsRow base 55 1 v vals.length vals) (hif : ∀ u ∈ vals, IfV u) :
    Calls Tryd.prog 57 #[v] w fun e w' => e = .returned (.tuple #[]) ∧ w'.ownsRow base 55 1 v vals.length vals.reverse ∧ w.grownBy w' v.ownBlock := by
  have hsh : ∃ ao cap, v = .slice ao vals.length cap ∧ vals.length ≤ cap ∧ cap ≤ maxLen := by
    rcases h.2 with ⟨rfl, hn⟩ | ⟨g, cap, cur, rfl, hb, hg, hc, hm, hs, ht⟩
    · exact ⟨none, 0, by rw [hn], by omega, by simp [maxLen]⟩
    · exact ⟨_, cap, rfl, hc, hm⟩
  obtain ⟨ao, cap, rfl, hc1, hc2⟩ := hsh
  unfold maxLen at hc2
  have HV := hid h
  have HIf := hid hif
  clear h hif
  have mixed : Tryd.prog.follows .mixedOrders = true := by kernel_rfl
  go_enter Tryd.func57, Tryd.ntmps57
  go_wp2
  go_loopg [2, 3] vals.length (fun k s2 s3 wr => ∃ (i jn : Nat) (jz : Int) (dk : Array Value), s2 = .int .i64 i ∧ s3 = .int .i64 jz ∧ ((i : Int) < jz → jz = jn ∧ jn < vals.length) ∧ (¬ (i : Int) < jz → ¬ i < jn) ∧ jn - i ≤ k ∧
    dk.size = vals.length ∧ (∀ u ∈ dk.toList, IfV u) ∧ wr.ownsRow base 55 1 (.slice ao vals.length cap) vals.length dk.toList ∧ w.grownBy wr (Value.slice ao vals.length cap).ownBlock ∧ Sort.reverseLoop i jn dk = Sort.reverseLoop 0 (vals.length - 1) vals.toArray)
  case atStart => exact ⟨0, vals.length - 1, (vals.length : Int) - 1, vals.toArray, rfl, rfl, fun h => ⟨by omega, by omega⟩, fun h => by omega, by omega, by simp, HIf.out, HV.out, World.grownBy.refl _ _, rfl⟩
  case round =>
    obtain ⟨i, jn, jz, dk, rfl, rfl, h1, h2, hk, hds, hifd, how, hgr, heq⟩ := hrel
    by_cases hlt : (i : Int) < jz
    · obtain ⟨rfl, hjn⟩ := h1 hlt
      have hij : i < jn := by omega
      obtain ⟨g, cp, hv⟩ := own_form (v := .slice ao vals.length cap) how (by omega)
      simp only [Value.slice.injEq] at hv
      obtain ⟨rfl, _, rfl⟩ := hv
      have ci : wr.cell? ⟨g, i, none⟩ = some dk[i]! := by
        rw [World.ownsRow.cellAt how i (by omega)]
        simp [getElem!_pos, show i < dk.size by omega]
      have cj : wr.cell? ⟨g, jn, none⟩ = some dk[jn]! := by
        rw [World.ownsRow.cellAt how jn (by omega)]
        simp [getElem!_pos, show jn < dk.size by omega]
      have fi := World.ownsRow.frozenAt how i
      have fj := World.ownsRow.frozenAt how jn
      have HOw := hid how
      have HGr := hid hgr
      have HEq := hid heq
      have hil : i < vals.length := by omega
      obtain ⟨xi, hxi⟩ : ∃ x, x = dk[i]! := ⟨_, rfl⟩
      obtain ⟨xj, hxj⟩ : ∃ x, x = dk[jn]! := ⟨_, rfl⟩
      rw [← hxi] at ci
      rw [← hxj] at cj
      obtain ⟨ti, yi, hyi⟩ : IfV xi := by rw [hxi, getElem!_pos dk i (by omega)]; exact hifd _ (Array.getElem_mem_toList (by omega))
      obtain ⟨tj, yj, hyj⟩ : IfV xj := by rw [hxj, getElem!_pos dk jn (by omega)]; exact hifd _ (Array.getElem_mem_toList (by omega))
      subst hyi
      subst hyj
      have HXi := hid hxi
      have HXj := hid hxj
      have HIf2 : Hid (∀ u ∈ (Sort.swp dk i jn).toList, IfV u) := fun u hu => hifd u (swp_mem (by omega) (by omega) hu)
      clear hifd
      clear how hgr heq hxi hxj h1 h2
      have hst := (World.ownsRow.stored HOw.out i (.iface tj yj)).1
      have hst2 := (World.ownsRow.stored hst jn (.iface ti yi)).1
      have HS2 : Hid (((wr.setCell ⟨g, i, none⟩ (.iface tj yj)).setCell ⟨g, jn, none⟩ (.iface ti yi)).drew.ownsRow base 55 1 (.slice (some ⟨g, 0, none⟩) vals.length cap) vals.length (Sort.swp dk i jn).toList) := by
        rw [swp_list (by omega) (by omega), ← HXi.out, ← HXj.out]
        exact ownsRow_later hst2 (drawn_below1 _)
      have HG2 : Hid (w.grownBy ((wr.setCell ⟨g, i, none⟩ (.iface tj yj)).setCell ⟨g, jn, none⟩ (.iface ti yi)).drew (some g)) :=
        grown_trans HGr.out (grown_trans (set_grownT wr g i (.iface tj yj)) (grown_trans (set_grownT _ g jn (.iface ti yi)) (grown_of_below (drawn_below1 _) _)))
      clear hst hst2
      go_wp2_with fail
      go_region_o
      go_wp2
      go_roundg (jn - 1 - (i + 1))
      case measure => omega
      case rel =>
        have h9 := HEq.out
        rw [Sort.reverseLoop, if_pos hij] at h9
        exact ⟨i + 1, jn - 1, (jn : Int) - 1, Sort.swp dk i jn, by simp, rfl, fun h => ⟨by omega, by omega⟩, fun h => by omega, Nat.le_refl _, by rw [Sort.size_swp]; exact hds, HIf2.out, HS2.out, HG2.out, h9⟩
    · have hnot := h2 hlt
      have HR : Hid (dk.toList = vals.reverse) := by
        show _ = _
        rw [Sort.reverseLoop, if_neg hnot] at heq
        have h9 := Lib.reverseLoop_reverse vals.toArray
        rw [show vals.toArray.size = vals.length by simp] at h9
        rw [heq, h9]
        simp
      have HOw := hid how
      have HGr := hid hgr
      clear how hgr heq
      go_wp2
      go_end0
      exact ⟨rfl, by rw [← HR.out]; exact HOw.out, HGr.out⟩

end Go.Proofs.YtcijfaijjpkdoaaDoor

/- A range over a function whose rounds are numbered: round k is handed just what the iterator hands it then. -/
namespace Go.Proofs.YtcijfaijjpkdoaaDoor
open Go.RowKit Go.Maps Go.Shelf

attribute [local go_sem] Oper.semAt_some

section
variable {P : Program} {F : Fence} {n : Nat}

/-- Rounds by their numbers. -/
theorem range_rounds {g : Operand} {ps : Array Tmp} {assign body : Code} {Q : Exit → Act → World → Prop} {a : Act} {w : World} (hro : F.round = none) (h1 : 1 ≤ n) {gf : Nat} {lb : Array Value}
    (hg : a.eval g = .func (.func gf) #[] lb) (hFg : F.fn gf) (eg : ∀ args w, (callFunc gf args).run P w = .ok (.enter gf args) w)
    (args : Nat → Array Value) (N : Nat) (hps : ∀ k, (args k).size = ps.size) (Rd : World → Prop) (I : Nat → World → Prop)
    (hput : ∀ (k : Nat) (W : World) (l : Nat) (o o' : Obj), w.heap.size ≤ l → W.heap[l]? = some o → o.isCells = false → I k W → I k (W.putObj l o'))
    (h0 : ∀ r : Loop, I 0 ((w.alloc (.deferred (some []))).alloc (.loop r))) (hRd : ∀ k W, I k W → Rd W)
    (hseq : ∀ (l : Nat) (J : Nat → World → Prop) (W : World), (∀ k W1, J k W1 → Rd W1) → (∀ k W1, k < N → J k W1 → YieldAt F (n - 1 - 1) P l (args k) W1 fun e W' => e = .returned (.bool true) ∧ J (k + 1) W') → J 0 W →
      CallsIn F (n - 1) P gf (#[.func (.yield l) #[] #[]] ++ lb) W fun e W' => (∃ v, e = .returned v) ∧ J N W')
    (a1 : Nat → Act)
    (hassign : ∀ (l k : Nat) (W : World) (K : Act → World → Prop), K (a1 k) W → assign.wpIn (F.inRound l) (n - 1 - 1) P (Exit.then K (fun _ _ _ => False)) { tmps := (ps.zip (args k)).foldl (fun t (p, v) => t.setIfInBounds p v) a.tmps, defers := [] } W)
    (hbody : ∀ (l k : Nat) (W : World), k < N → I k W → body.wpIn (F.inRound l) (n - 1 - 1) P (fun e _ W' => e = .normal ∧ KeepsFrom w.heap.size W W' ∧ I (k + 1) W') (a1 k) W)
    (hdone : ∀ (D : Nat) (W : World), w.heap.size ≤ D → I N W → W.heap[D]? = some (.deferred (some [])) → Q .normal { a with defers := { target := .collected D, args := #[] } :: a.defers } W) :
    (Code.rangeFunc g ps assign body).wpIn F n P Q a w := by
  refine wpIn_rangeFunc fun fn hfn => ?_
  rw [hro]
  -- the record of the loop, as it stands between two rounds and in one
  obtain ⟨R, hR⟩ : ∃ R : LoopState → Loop, R = fun s => { state := s, pending := none, fn, tmps := a.tmps, params := ps, assign, body, defers := w.heap.size } := ⟨_, rfl⟩
  have hRs : ∀ s, (R s).state = s := fun s => by rw [hR]
  have hRb : ∀ s s', { R s with state := s' } = R s' := fun s s' => by rw [hR]
  obtain ⟨l, hl⟩ : ∃ l, l = w.heap.size + 1 := ⟨_, rfl⟩
  obtain ⟨W1, hW1⟩ : ∃ W, W = (w.alloc (.deferred (some []))).alloc (.loop (R .ready)) := ⟨_, rfl⟩
  have hl1 : W1.heap[l]? = some (.loop (R .ready)) := by
    rw [hW1, hl]
    have := World.alloc_heap_new (w.alloc (.deferred (some []))) (.loop (R .ready))
    rwa [World.size_alloc] at this
  have hd1 : W1.heap[w.heap.size]? = some (.deferred (some [])) := by
    rw [hW1]
    exact (Below.heap_alloc _ _ _ (by simp)).trans (World.alloc_heap_new w _)
  refine ⟨l, [{ target := .collected w.heap.size, args := #[] }], W1, { target := .fn (.func gf) lb, args := #[.func (.yield l) #[] #[]] }, W1, gf, #[.func (.yield l) #[] #[]] ++ lb, W1, ?_, ?_, ?_, ?_, fun _ => h1, ?_⟩
  · rw [hl, hW1, hR]
    exact run_enterLoop_outer _ _ _ _ _
  · simp only [resolve, hg]
    simp [go_sem]
  · intro f' hf'
    simp [Target.leads] at hf'
    subst hf'
    exact hFg
  · simp [invoke, go_sem, eg]
  · refine (hseq l (fun k W => I k W ∧ W.heap[l]? = some (.loop (R .ready)) ∧ W.heap[w.heap.size]? = some (.deferred (some []))) W1 (fun k W h => hRd k W h.1) ?_ ⟨by rw [hW1]; exact h0 _, hl1, hd1⟩).mono ?_
    · rintro k W hk ⟨hi, hL, hD⟩
      have hlt := (Array.getElem?_eq_some_iff.1 hL).1
      have hy := run_yield (P := P) (args := args k) hL (by rw [hR]; exact hps k)
      refine ⟨_, _, _, _, hy, ?_⟩
      rw [show (R .ready).assign = assign by rw [hR], show (R .ready).body = body by rw [hR], show (R .ready).fn = fn by rw [hR], show (R .ready).tmps = a.tmps by rw [hR], show (R .ready).params = ps by rw [hR]]
      refine roundIn_of_wpIn hfn (hassign l k W _ ⟨_, run_beginRound hL (hRs _), ?_⟩)
      rw [hRb]
      have hL2 : (W.putObj l (.loop (R .busy))).heap[l]? = some (.loop (R .busy)) := World.putObj_heap_same hlt
      have hD2 : (W.putObj l (.loop (R .busy))).heap[w.heap.size]? = some (.deferred (some [])) := (World.putObj_heap_other (by omega)).trans hD
      refine wpIn_mono (hbody l k _ hk (hput k W l _ _ (by omega) hL rfl hi)) ?_
      rintro e a3 W3 ⟨rfl, hkf, hi3⟩
      have hL3 := hkf.same _ _ (show w.heap.size ≤ l by omega) hL2 rfl
      have hD3 := hkf.same _ _ (Nat.le_refl _) hD2 rfl
      have he := run_endRound (P := P) none hL3
      refine ⟨_, _, he, rfl, ?_, ?_, ?_⟩
      · exact hput _ W3 l _ _ (by omega) hL3 rfl hi3
      · rw [World.putObj_heap_same (Array.getElem?_eq_some_iff.1 hL3).1]
        simp only [Option.isNone_none, if_true]
        rw [hR]
      · exact (World.putObj_heap_other (by omega)).trans hD3
    · rintro e W2 ⟨⟨v, rfl⟩, hi, hL, hD⟩
      have he := run_endLoop (P := P) hL (by rw [hRs]; simp)
      rw [show (R .ready).pending = none by rw [hR]] at he
      exact ⟨none, _, he, hdone _ _ (Nat.le_refl _) (hput _ W2 l _ _ (by omega) hL rfl hi) ((World.putObj_heap_other (by omega)).trans hD)⟩

end

end Go.Proofs.YtcijfaijjpkdoaaDoor

/- slices.Backward over a row of numbers. -/
namespace Go.Proofs.YtcijfaijjpkdoaaDoor
open Go.RowKit Go.Maps Go.Shelf

attribute [local go_sem] Oper.semAt_some

/-- What round k is handed. -/
def backA (t : List Int) (k : Nat) : Array Value := #[.int .i64 ((t.length - 1 - k : Nat) : Int), .int .i64 (t.reverse[k]?.getD 0)]

/-- What the iterator reads. -/
def BackR (Bs b off cap : Nat) (t : List Int) (W : World) : Prop := W.cell? ⟨Bs, 0, none⟩ = some (.slice (some ⟨b, off, none⟩) t.length cap) ∧ ∀ (j : Nat) (c : Int), t[j]? = some c → W.cell? ⟨b, off + j, none⟩ = some (.int .i64 c)

set_option maxRecDepth 100000 in
set_option maxHeartbeats 1600000 in
theorem back_rounds (F : Fence) (n : Nat) (hF : F.fn 86) (hro : F.round = none) (hn : 1 ≤ n) (Bs b off cap : Nat) (t : List Int) (ht : t.length * 8 ≤ 140737488351232) (_hcap : t.length ≤ cap) (_hcm : cap ≤ 9223372036854775807) (l : Nat) (J : Nat → World → Prop) (W : World)
    (hR : ∀ k W1, J k W1 → BackR Bs b off cap t W1) (hY : ∀ k W1, k < t.length → J k W1 → YieldAt F (n - 1) Tryd.prog l (backA t k) W1 fun e W' => e = .returned (.bool true) ∧ J (k + 1) W') (h0 : J 0 W) :
    CallsIn F n Tryd.prog 86 (#[.func (.yield l) #[] #[]] ++ #[.pointer (some ⟨Bs, 0, none⟩)]) W fun e W' => (∃ v, e = .returned v) ∧ J t.length W' := by
  refine callsIn_of_wp Tryd.func86 rfl hF ?_ hro
  simp only [Tryd.ntmps86, List.size_toArray, List.length_cons, List.length_nil, Nat.reduceAdd, Nat.reduceSub, Array.replicate_succ, Array.replicate_zero, List.push_toArray, List.append_toArray, List.nil_append, List.cons_append]
  have hb0 := (hR 0 W h0).1
  have hw0 : IntKind.i64.wrap ((t.length : Int) - 1) = (t.length : Int) - 1 := IntWalk.i64_in _ ⟨by omega, by omega⟩
  gi_wp2
  gi_loopw [3] (fun iv wr => ∃ k : Nat, k ≤ t.length ∧ iv = .int .i64 ((t.length : Int) - 1 - k) ∧ J k wr) (fun iv _ => (intOf iv + 1).toNat)
  case atStart => exact ⟨0, Nat.zero_le _, by simp, h0⟩
  case round =>
    obtain ⟨k, hk, rfl, hJ⟩ := hrel
    obtain ⟨hb1, hb2⟩ := hR k wr hJ
    by_cases hlt : k < t.length
    · obtain ⟨j, hj⟩ : ∃ j : Nat, j = t.length - 1 - k := ⟨_, rfl⟩
      have hjl : j < t.length := by omega
      have hji : (t.length : Int) - 1 - (k : Int) = (j : Int) := by omega
      obtain ⟨c, hc⟩ : ∃ c, t[j]? = some c := ⟨_, List.getElem?_eq_getElem hjl⟩
      have hcell := hb2 j c hc
      obtain ⟨fn, tmps, assign, body, hy, hRd⟩ := hY k wr hlt hJ
      have hbk : backA t k = #[.int .i64 (j : Int), .int .i64 c] := by
        unfold backA
        rw [List.getElem?_reverse hlt, ← hj, hc]
        rfl
      rw [hbk] at hy
      rw [hji]
      clear hb2 hbk hc hj
      gi_wp2
      refine hRd.mono ?_
      rintro e W3 ⟨rfl, hJ3⟩
      have hwj : IntKind.i64.wrap ((j : Int) - 1) = (j : Int) - 1 := IntWalk.i64_in _ ⟨by omega, by omega⟩
      gi_wp2
      go_roundw
      case rel => exact ⟨k + 1, by omega, congrArg (Value.int .i64) (by omega), hJ3⟩
      case measure => simp [intOf]
    · have hke : k = t.length := by omega
      subst hke
      gi_wp2
      go_end0
      exact ⟨⟨_, rfl⟩, hJ⟩

theorem back_any (ao : Option Addr) (len cap : Nat) (w : World) (F : Fence) (n : Nat) (hF : F.fn 55) (hro : F.round = none) :
    CallsIn F n Tryd.prog 55 #[.slice ao len cap] w fun e w' => e = .returned (.func (.func 86) #[] #[.pointer (some ⟨w.heap.size, 0, none⟩)]) ∧ w' = w.alloc (.cells #[.slice ao len cap] 23) := by
  refine callsIn_of_wp Tryd.func55 rfl hF ?_ hro
  simp only [Tryd.ntmps55, List.size_toArray, List.length_cons, List.length_nil, Nat.reduceAdd, Nat.reduceSub, Array.replicate_succ, Array.replicate_zero, List.push_toArray, List.append_toArray, List.nil_append, List.cons_append]
  gi_wp2
  go_ret
  exact ⟨rfl, rfl⟩

end Go.Proofs.YtcijfaijjpkdoaaDoor

/- Binds laid, plainly; one after the other. -/
namespace Go.Proofs.YtcijfaijjpkdoaaDoor
open Go.RowKit Go.Maps

/-- What comes of a row, of whatever length. -/
def laidL (f : Int → Option (List Int)) (t : List Int) : List Int := t.flatMap (piece f)

theorem layGo_eq (f : Int → Option (List Int)) : ∀ (t a : List Int), a.length ≤ 512 → layGo f a t = if 512 < a.length + (laidL f t).length then none else some (a ++ laidL f t)
  | [], a, h => by
    unfold layGo laidL
    rw [List.flatMap_nil, List.append_nil, if_neg (by simp; omega)]
  | c :: t, a, h => by
    unfold layGo
    have hl : (laidL f (c :: t)).length = (piece f c).length + (laidL f t).length := by unfold laidL; rw [List.flatMap_cons, List.length_append]
    by_cases h5 : 512 < a.length + (piece f c).length
    · rw [if_pos h5, if_pos (by omega)]
    · rw [if_neg h5, layGo_eq f t (a ++ piece f c) (by rw [List.length_append]; omega), List.length_append]
      by_cases h6 : 512 < a.length + (piece f c).length + (laidL f t).length
      · rw [if_pos h6, if_pos (by omega)]
      · rw [if_neg h6, if_neg (by omega)]
        unfold laidL
        rw [List.flatMap_cons, List.append_assoc]

theorem lay_eq (f : Int → Option (List Int)) (t : List Int) : layE f t = (if 512 < (laidL f t).length then 2 else 0) ∧ layL f t = if 512 < (laidL f t).length then [] else laidL f t := by
  unfold layE layL
  rw [layGo_eq f t [] (by simp)]
  rw [List.length_nil, Nat.zero_add, List.nil_append]
  by_cases h : 512 < (laidL f t).length
  · rw [if_pos h, if_pos h, if_pos h]
    exact ⟨rfl, rfl⟩
  · rw [if_neg h, if_neg h, if_neg h]
    exact ⟨rfl, rfl⟩

/-- One after the other: the binds that do both. -/
theorem laid_after (f g h : Int → Option (List Int)) (hh : ∀ n, h n = match f n with | some u => some (laidL g u) | none => g n) (t : List Int) : laidL h t = laidL g (laidL f t) := by
  induction t with
  | nil => rfl
  | cons c t ih =>
    unfold laidL at ih ⊢
    rw [List.flatMap_cons, List.flatMap_cons, List.flatMap_append, ih]
    congr 1
    by_cases hc : c < 0
    · unfold piece
      rw [if_pos hc, if_pos hc, hh]
      cases hf : f (-1 - c) with
      | some u => rfl
      | none =>
        show (g (-1 - c)).getD [c] = ([c]).flatMap _
        rw [List.flatMap_cons, List.flatMap_nil, List.append_nil, if_pos hc]
    · have e : ∀ k, piece k c = [c] := fun k => by unfold piece; rw [if_neg hc]
      rw [e, e, List.flatMap_cons, List.flatMap_nil, List.append_nil, e]

end Go.Proofs.YtcijfaijjpkdoaaDoor

/- The document's names, plainly; its letters, names and marked names walked. -/
namespace Go.Proofs.YtcijfaijjpkdoaaDoor
open Go.RowKit Go.Maps Go.Lib

/-- What the runes of a text come to, one behind the other. -/
def encGo : Nat → List UInt8 → List UInt8
  | 0, _ => []
  | n + 1, l => if l = [] then [] else (Utf8.encode ((decodeL l).1 : Int)).data.toList ++ encGo n (l.drop (decodeL l).2)

theorem enc_bytes (r : Nat) : (Utf8.encode (r : Int)).data.toList = encodeRune (r : Int) := by
  have h := Go.Extern.FmtText.encode_eq r
  unfold encodeRune
  rw [← h]
  have e : (fun x : Int => x.toNat.toUInt8) ∘ (fun x : UInt8 => (x.toNat : Int)) = id := by funext x; simp
  unfold Go.Extern.FmtText.nums
  rw [List.map_map, e, List.map_id]

theorem encGo_valid : ∀ (n : Nat) (l : List UInt8), l.length ≤ n → (encGo n l = l ↔ validD l = true)
  | 0, l, h => by
    obtain rfl : l = [] := List.eq_nil_of_length_eq_zero (by omega)
    exact ⟨fun _ => rfl, fun _ => rfl⟩
  | n + 1, l, h => by
    by_cases h0 : l = []
    · subst h0
      exact ⟨fun _ => rfl, fun _ => by simp [encGo]⟩
    · have hw := decodeL_width l
      have hl : 0 < l.length := List.length_pos_iff.2 h0
      rw [validD_step l h0, encGo, if_neg h0]
      by_cases hb : (decodeL l).1 = 65533 ∧ (decodeL l).2 = 1
      · rw [if_pos hb]
        refine ⟨fun e => ?_, fun e => by cases e⟩
        exfalso
        rw [hb.1, show (Utf8.encode ((65533 : Nat) : Int)).data.toList = [239, 191, 189] by rfl] at e
        have e2 := hb.2
        rw [← e, decodeL_N] at e2
        simp [decodeN] at e2
      · rw [if_neg hb, enc_bytes, encode_decode l h0 hb]
        rw [← encGo_valid n (l.drop (decodeL l).2) (by rw [List.length_drop]; omega)]
        refine ⟨fun e => ?_, fun e => ?_⟩
        · refine (List.append_right_inj (l.take (decodeL l).2)).1 ?_
          rw [e, List.take_append_drop]
        · rw [e, List.take_append_drop]

/-- The bytes behind the first of a rune. -/
theorem rune_bytes (s : ByteArray) (pos j : Nat) (h1 : 1 ≤ j) (h2 : j < (Utf8.decode s pos).2) : 128 ≤ (s.data.toList.getD (pos + j) 0).toNat := by
  rw [decode_N] at h2
  rcases decodeN_shape (s.data.toList.length - pos) (s.data.toList.getD pos 0).toNat (s.data.toList.getD (pos + 1) 0).toNat (s.data.toList.getD (pos + 2) 0).toNat (s.data.toList.getD (pos + 3) 0).toNat with ⟨c, e⟩ | ⟨c1, c2, c3, cv, e⟩ | ⟨c1, c2, c3, c4, cv, cs, e⟩ | ⟨c1, c2, c3, c4, c5, cv, cw, e⟩ | e
  · rw [e] at h2; simp only at h2; omega
  · rw [e] at h2; simp only at h2
    obtain rfl : j = 1 := by omega
    omega
  · rw [e] at h2; simp only at h2
    have hj : j = 1 ∨ j = 2 := by omega
    rcases hj with rfl | rfl <;> omega
  · rw [e] at h2; simp only at h2
    have hj : j = 1 ∨ j = 2 ∨ j = 3 := by omega
    rcases hj with rfl | rfl | rfl <;> omega
  · rw [e] at h2; simp only at h2; omega

/-- A text that ends in a mark is no name. -/
theorem nm_hash (s : ByteArray) (hl : s.data.toList.getD (s.size - 1) 0 = 35) : ∀ (b pos : Nat), pos < s.size → s.size ≤ pos + b → nmGo s b pos = false
  | 0, pos, h1, h2 => by omega
  | b + 1, pos, h1, h2 => by
    rw [nmGo, if_pos h1]
    have hw := Lib.width_pos s pos
    by_cases h3 : pos + (Utf8.decode s pos).2 < s.size
    · rw [nm_hash s hl b _ h3 (by omega), Bool.and_false]
    · have hp : pos = s.size - 1 := by
        by_cases h4 : pos = s.size - 1
        · exact h4
        · exfalso
          have := rune_bytes s pos (s.size - 1 - pos) (by omega) (by omega)
          rw [show pos + (s.size - 1 - pos) = s.size - 1 by omega, hl] at this
          simp at this
      have hd : (Utf8.decode s pos).1 = 35 := by
        rw [decode_N, hp, hl]
        simp [decodeN]
      rw [hd]
      simp [letB, folB]

/-- A text with one sign less. -/
def init1 (s : ByteArray) : ByteArray := s.extract 0 (s.size - 1)
def lastB (s : ByteArray) : UInt8 := s.data.toList.getD (s.size - 1) 0
def markB (s : ByteArray) : Bool := decide (0 < s.size) && (decide (lastB s = 35) && nameB (validD (init1 s).data.toList) (init1 s))

theorem bare_hash (s : ByteArray) (h0 : 0 < s.size) (h : lastB s = 35) : bare s = init1 s := by
  have hl : s.data.toList.length = s.size := (size_eq s).symm
  have hx : s.data.toList.drop (s.size - 1) = [35] := by
    unfold lastB at h
    rw [List.drop_eq_getElem_cons (by omega), List.drop_of_length_le (by omega)]
    rw [List.getD_eq_getElem?_getD, List.getElem?_eq_getElem (by omega), Option.getD_some] at h
    rw [h]
  have hs : hasSuffix s.data.toList "#".toUTF8.data.toList = true := by
    show hasSuffix s.data.toList [35] = true
    unfold hasSuffix
    rw [List.isSuffixOf_iff_suffix]
    exact ⟨s.data.toList.take (s.size - 1), by rw [← hx, List.take_append_drop]⟩
  unfold bare init1 trimSuffix
  rw [if_pos hs]
  apply ByteArray.ext
  apply Array.ext'
  show s.data.toList.take (s.data.toList.length - 1) = (s.extract 0 (s.size - 1)).data.toList
  rw [ByteArray.data_extract, Array.toList_extract, hl]
  simp

theorem bare_plain (s : ByteArray) (h : ¬ (0 < s.size ∧ lastB s = 35)) : bare s = s := by
  have hl : s.data.toList.length = s.size := (size_eq s).symm
  have hs : ¬ hasSuffix s.data.toList "#".toUTF8.data.toList = true := by
    show ¬ hasSuffix s.data.toList [35] = true
    unfold hasSuffix
    rw [List.isSuffixOf_iff_suffix]
    rintro ⟨l, e⟩
    have hn := congrArg List.length e
    simp only [List.length_append, List.length_cons, List.length_nil] at hn
    refine h ⟨by omega, ?_⟩
    unfold lastB
    rw [← e, show s.size - 1 = l.length by omega]
    simp
  unfold bare trimSuffix
  rw [if_neg hs]

/-- A symbol's name is a name, or a marked one. -/
theorem sym_ref (s : ByteArray) : symB s = (nameB (validD s.data.toList) s || markB s) := by
  unfold symB markB
  by_cases h : 0 < s.size ∧ lastB s = 35
  · have hn : nameB (validD s.data.toList) s = false := by
      unfold nameB
      rw [nm_hash s h.2 s.size 0 h.1 (by omega)]
      simp
    rw [hn, bare_hash s h.1 h.2, decide_eq_true h.1, decide_eq_true h.2]
    simp
  · rw [bare_plain s h]
    by_cases h0 : 0 < s.size
    · rw [decide_eq_false (fun h1 => h ⟨h0, h1⟩)]
      simp
    · rw [decide_eq_false h0]
      simp
set_option maxRecDepth 100000 in
theorem refLetter_any (r : Int) (w : World) : Calls Tryd.prog 91 #[.int .i32 r] w fun e w' => e = .returned (.bool (letB r)) ∧ w' = w := by
  obtain ⟨B, hB⟩ : ∃ B, B = letB r := ⟨_, rfl⟩
  rw [← hB]
  have HB : Hid (B = letB r) := hB
  clear hB
  go_enter Tryd.func91, Tryd.ntmps91
  by_cases h1 : 97 ≤ r
  · by_cases h2 : r ≤ 122
    · have HF : Hid (B = true) := by show _ = _; rw [HB.out]; unfold letB; simp [h1, h2]
      clear HB
      go_wp2
      go_ret
      exact ⟨ret1b HF.out.symm, rfl⟩
    · have HF : Hid (B = decide (128 ≤ r)) := by show _ = _; rw [HB.out]; unfold letB; rw [decide_eq_false h2, decide_eq_false (show ¬ r ≤ 90 by omega)]; simp
      clear HB
      have h3 : 65 ≤ r := by omega
      have h4 : ¬ r ≤ 90 := by omega
      go_wp2
      go_ret
      exact ⟨ret1b HF.out.symm, rfl⟩
  · by_cases h3 : 65 ≤ r
    · by_cases h4 : r ≤ 90
      · have HF : Hid (B = true) := by show _ = _; rw [HB.out]; unfold letB; simp [h3, h4]
        clear HB
        go_wp2
        go_ret
        exact ⟨ret1b HF.out.symm, rfl⟩
      · have HF : Hid (B = decide (128 ≤ r)) := by show _ = _; rw [HB.out]; unfold letB; rw [decide_eq_false h1, decide_eq_false h4]; simp
        clear HB
        go_wp2
        go_ret
        exact ⟨ret1b HF.out.symm, rfl⟩
    · have HF : Hid (B = decide (128 ≤ r)) := by show _ = _; rw [HB.out]; unfold letB; rw [decide_eq_false h1, decide_eq_false h3]; simp
      clear HB
      go_wp2
      go_ret
      exact ⟨ret1b HF.out.symm, rfl⟩

def morB (r : Int) : Bool := letB r || folB r

set_option maxRecDepth 100000 in
theorem refMore_any (r : Int) (w : World) : Calls Tryd.prog 92 #[.int .i32 r] w fun e w' => e = .returned (.bool (morB r)) ∧ w' = w := by
  obtain ⟨B, hB⟩ : ∃ B, B = morB r := ⟨_, rfl⟩
  rw [← hB]
  have HB : Hid (B = morB r) := hB
  clear hB
  go_enter Tryd.func92, Tryd.ntmps92
  go_wp2_with fail
  refine (refLetter_any r w).mono ?_
  rintro e w9 ⟨rfl, hw9⟩
  have hw8 := hw9.symm
  subst hw8
  clear hw9
  cases hL : letB r
  · have HF : Hid (B = folB r) := by show _ = _; rw [HB.out]; unfold morB; rw [hL]; rfl
    clear HB hL
    by_cases h1 : 48 ≤ r
    · by_cases h2 : r ≤ 57
      · have HG : Hid (B = true) := by show _ = _; rw [HF.out]; unfold folB; simp [h1, h2]
        clear HF
        go_wp2
        go_ret
        exact ⟨ret1b HG.out.symm, rfl⟩
      · by_cases h3 : r = 95
        · have HG : Hid (B = true) := by show _ = _; rw [HF.out]; unfold folB; simp [h3]
          have h3b : (r == 95) = true := by rw [beq_iff_eq]; exact h3
          clear HF
          go_wp2
          go_ret
          exact ⟨ret1b HG.out.symm, rfl⟩
        · have HG : Hid (B = decide (r = 39)) := by show _ = _; rw [HF.out]; unfold folB; rw [decide_eq_false h2, decide_eq_false h3]; simp
          have h3b : (r == 95) = false := by rw [beq_eq_false_iff_ne]; exact h3
          clear HF
          go_wp2
          go_ret
          exact ⟨ret1b (by rw [HG.out, decide_eq_false (show ¬ r ≤ 57 by omega)]; rfl), rfl⟩
    · by_cases h3 : r = 95
      · omega
      · have HG : Hid (B = decide (r = 39)) := by show _ = _; rw [HF.out]; unfold folB; rw [decide_eq_false h1, decide_eq_false h3]; simp
        have h3b : (r == 95) = false := by rw [beq_eq_false_iff_ne]; exact h3
        clear HF
        go_wp2
        go_ret
        exact ⟨ret1b (by rw [HG.out]; rfl), rfl⟩
  · have HF : Hid (B = true) := by show _ = _; rw [HB.out]; unfold morB; rw [hL]; rfl
    clear HB hL
    go_wp2
    go_ret
    exact ⟨ret1b HF.out.symm, rfl⟩

end Go.Proofs.YtcijfaijjpkdoaaDoor
