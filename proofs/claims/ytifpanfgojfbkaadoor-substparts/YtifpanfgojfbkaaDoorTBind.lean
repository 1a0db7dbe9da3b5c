/- Binds of one's own: rows that are the call's or older ones; a bind joined, binds joined. -/
import Derived.Test.YtifpanfgojfbkaaDoorTCanonB
import Derived.Test.YtifpanfgojfbkaaDoorTShown
import Derived.Deep.Slices
namespace Go.Proofs.YtifpanfgojfbkaaDoor
open Go.RowKit Go.Maps

theorem info_bind : (Tryd.prog.info? 43).map (fun i => (i.zero, i.size, i.bytes)) = some (some (.agg #[.int .i64 0, .slice none 0 0]), 2, 32) := by kernel_rfl
theorem under_binds : Tryd.prog.underlying 23 = some (.slice 43) := by kernel_rfl

def flatB (s : List Bd) (us : List Value) : List Value := (s.zip us).flatMap fun p => [.int .i64 p.1.1, p.2]

/-- A row of a bind: the call's own, or one that was there. -/
def RowB (w0 w : World) (u : Value) (t : List Int) : Prop := OwI w w0.heap.size u t ∨ Is w0 u t

theorem RowB.is {w0 w : World} {u : Value} {t : List Int} (h : RowB w0 w u t) (hb : Below w0.heap.size w0 w) : Is w u t := by
  rcases h with h | h
  · exact h.is
  · exact h.kp (Kp.of_below hb)

theorem RowB.one {w0 w : World} {u : Value} {t : List Int} (h : RowB w0 w u t) : u.oneCell' = true := by
  rcases h with h | h
  · obtain ⟨_, _, rfl, _⟩ := h.shape
    rfl
  · obtain ⟨_, _, rfl, _⟩ := h
    rfl

def EBd (w0 w : World) (u : Value) (b : Bd) : Prop := RowB w0 w u b.2 ∧ -9223372036854775808 ≤ b.1 ∧ b.1 ≤ 9223372036854775807 ∧ b.2.length * 8 ≤ 140737488351232

/-- The slice value v is the call's own and holds the binds s. -/
def OB (w0 w : World) (v : Value) (s : List Bd) : Prop :=
  ∃ us : List Value, us.length = s.length ∧ (∀ (i : Nat) (u : Value) (b : Bd), us[i]? = some u → s[i]? = some b → EBd w0 w u b) ∧ w.ownsRow w0.heap.size 43 2 v s.length (flatB s us)

theorem flatB_get : ∀ {s : List Bd} {us : List Value} {i : Nat} {b : Bd} {u : Value}, s[i]? = some b → us[i]? = some u → (flatB s us)[i * 2]? = some (.int .i64 b.1) ∧ (flatB s us)[i * 2 + 1]? = some u
  | [], _, i, _, _, h, _ => by simp at h
  | _ :: _, [], i, _, _, _, h => by simp at h
  | a :: s, v :: us, 0, b, u, h, k => by
    simp at h k
    subst h
    subst k
    exact ⟨by simp [flatB], by simp [flatB]⟩
  | a :: s, v :: us, i + 1, b, u, h, k => by
    rw [List.getElem?_cons_succ] at h k
    obtain ⟨h1, h2⟩ := flatB_get h k
    have e : flatB (a :: s) (v :: us) = .int .i64 a.1 :: v :: flatB s us := rfl
    rw [e]
    refine ⟨?_, ?_⟩
    · rw [show (i + 1) * 2 = i * 2 + 1 + 1 by omega]; simpa using h1
    · rw [show (i + 1) * 2 + 1 = i * 2 + 1 + 1 + 1 by omega]; simpa using h2

theorem flatB_len : ∀ {s : List Bd} {us : List Value}, us.length = s.length → (flatB s us).length = s.length * 2
  | [], us, h => by simp [flatB]
  | a :: s, [], h => by simp at h
  | a :: s, u :: us, h => by
    have e : flatB (a :: s) (u :: us) = .int .i64 a.1 :: u :: flatB s us := rfl
    rw [e, List.length_cons, List.length_cons, flatB_len (by simpa using h), List.length_cons]
    omega

theorem flatB_append : ∀ {s r : List Bd} {us vs : List Value}, us.length = s.length → flatB (s ++ r) (us ++ vs) = flatB s us ++ flatB r vs := by
  intro s r us vs h
  unfold flatB
  rw [List.zip_append h.symm, List.flatMap_append]

theorem flatB_one : ∀ {s : List Bd} {us : List Value}, (∀ u ∈ us, u.oneCell' = true) → ∀ c ∈ flatB s us, c.oneCell' = true
  | [], _, _, c, hc => by simp [flatB] at hc
  | _ :: _, [], _, c, hc => by simp [flatB] at hc
  | a :: s, u :: us, h, c, hc => by
    have e : flatB (a :: s) (u :: us) = .int .i64 a.1 :: u :: flatB s us := rfl
    rw [e] at hc
    cases hc with
    | head => rfl
    | tail _ hc =>
      cases hc with
      | head => exact h u (.head _)
      | tail _ hc => exact flatB_one (fun x hx => h x (.tail _ hx)) c hc

theorem OB.bs {w0 w : World} {v : Value} {s : List Bd} (h : OB w0 w v s) (hb : Below w0.heap.size w0 w) : Bs w v s := by
  obtain ⟨us, hl, hc, ho⟩ := h
  have ho2 := ho
  rcases ho2.2 with ⟨rfl, hn⟩ | ⟨g, cap, cur, rfl, hbg, hg, hcap, hm, hs, ht⟩
  · obtain rfl := List.eq_nil_of_length_eq_zero hn
    exact Row.nil (by simp [maxLen])
  · refine ⟨_, cap, rfl, hcap, hm, fun _ => ⟨g, 0, rfl, (Array.getElem?_eq_some_iff.1 hg).1, ?_⟩⟩
    intro k b hk
    have hlt : k < s.length := (List.getElem?_eq_some_iff.1 hk).1
    have hck : us[k]? = some us[k] := List.getElem?_eq_getElem (by omega)
    obtain ⟨h1, h2⟩ := flatB_get hk hck
    obtain ⟨o1, o2, o3, o4⟩ := hc k _ b hck hk
    refine ⟨o2, o3, o4, ?_, us[k], ?_, o1.is hb⟩
    · rw [Nat.zero_add, World.ownsRow.cellAt ho2 (k * 2) (by omega)]
      exact h1
    · rw [Nat.zero_add, World.ownsRow.cellAt ho2 (k * 2 + 1) (by omega)]
      exact h2

theorem RowB.later {w0 w w' : World} {u : Value} {t : List Int} (h : RowB w0 w u t) (hb : Below w.heap.size w w') : RowB w0 w' u t := by
  rcases h with h | h
  · exact .inl (h.later hb)
  · exact .inr h

theorem OB.later {w0 w w' : World} {v : Value} {s : List Bd} (h : OB w0 w v s) (hb : Below w.heap.size w w') : OB w0 w' v s := by
  obtain ⟨us, hl, hc, ho⟩ := h
  exact ⟨us, hl, fun i u b h1 h2 => ⟨(hc i u b h1 h2).1.later hb, (hc i u b h1 h2).2⟩, ownsRow_later ho hb⟩

theorem OB.empty (w0 w : World) (hb : w0.heap.size ≤ w.heap.size) : OB w0 (w.alloc (.cells #[] 43)) (.slice (some ⟨w.heap.size, 0, none⟩) 0 0) [] :=
  ⟨[], rfl, fun i c m h => (by simp at h), rfl, .inr ⟨w.heap.size, 0, #[], rfl, hb, heap_alloc_new _ _, Nat.le_refl _, Nat.zero_le _, rfl, rfl⟩⟩

theorem OB.shape {w0 w : World} {v : Value} {s : List Bd} (h : OB w0 w v s) : ∃ ao cap, v = .slice ao s.length cap ∧ s.length ≤ cap ∧ cap ≤ maxLen := by
  obtain ⟨us, hl, hc, ho⟩ := h
  rcases ho.2 with ⟨rfl, hn⟩ | ⟨g, cap, cur, rfl, hb, hg, hc, hm, hs, ht⟩
  · exact ⟨none, 0, by rw [hn], by omega, by simp [maxLen]⟩
  · exact ⟨_, cap, rfl, hc, hm⟩

/-- Binds in memory joined to one's own. -/
theorem OB.join (ty : TypeId) {w0 w : World} {v : Value} {s r : List Bd} {us : List Value} (h : OB w0 w v s) (hb : Below w0.heap.size w0 w) {g off cap : Nat} (_hr : 0 < r.length) (hu : us.length = r.length)
    (hcell : ∀ (j : Nat) (c : Value), (flatB r us)[j]? = some c → w.cell? ⟨g, off + j, none⟩ = some c) (hE : ∀ (i : Nat) (u : Value) (b : Bd), us[i]? = some u → r[i]? = some b → EBd w0 w u b) (hlen : (s.length + r.length) * 32 ≤ 140737488355328) :
    ∃ v' w', (Builtin.append_ #[23, 23] ty #[v, .slice (some ⟨g, off, none⟩) r.length cap]).run Tryd.prog w = .ok v' w' ∧ OB w0 w' v' (s ++ r) ∧ Below w0.heap.size w0 w' := by
  obtain ⟨i1, hi1, hy0, hy1, hy2⟩ := info_parts info_bind
  obtain ⟨vs, hl, hc, ho⟩ := h
  obtain ⟨v', w', hrun, h2, h3, _, _⟩ := run_append_own_at (P := Tryd.prog) w w0.heap.size 23 ty 43 i1 _ 2 32 under_binds hi1 hy0 hy1 hy2 rfl (by decide) v s.length (flatB s vs) ho ⟨g, off, none⟩ r.length cap (flatB r us) (by rw [flatB_len hu])
    (fun j c hj => by rw [Addr.add_lit]; exact hcell j c hj)
    (flatB_one fun u hu2 => by
      obtain ⟨i, hi, rfl⟩ := List.getElem_of_mem hu2
      obtain ⟨b, hbx⟩ : ∃ b, r[i]? = some b := ⟨_, List.getElem?_eq_getElem (by omega)⟩
      exact (hE i _ b (List.getElem?_eq_getElem hi) hbx).1.one) (by unfold maxLen; omega) (by omega) hb.size
  have hk : ∀ {u : Value} {t : List Int}, RowB w0 w u t → RowB w0 w' u t := fun {u t} hu => by
    rcases hu with hu | hu
    · exact .inl (hu.kept h3 (ownsRow_apart hu.2 ho (by decide)))
    · exact .inr hu
  refine ⟨v', w', hrun, ⟨vs ++ us, by rw [List.length_append, List.length_append, hl, hu], fun i u b h1 h4 => ?_, ?_⟩, hb.grown h3 hb.size (fun j hj => own_blk ho hj)⟩
  · by_cases hi : i < vs.length
    · rw [List.getElem?_append_left hi] at h1
      rw [List.getElem?_append_left (by omega)] at h4
      exact ⟨hk (hc i u b h1 h4).1, (hc i u b h1 h4).2⟩
    · rw [List.getElem?_append_right (by omega)] at h1
      rw [List.getElem?_append_right (by omega), ← hl] at h4
      exact ⟨hk (hE _ u b h1 h4).1, (hE _ u b h1 h4).2⟩
  · rw [List.length_append, flatB_append hl]
    exact h2

/-- One bind joined. -/
theorem OB.snoc (ty : TypeId) {w0 w : World} {v u : Value} {s : List Bd} {x : Int} {t : List Int} (h : OB w0 w v s) (hb : Below w0.heap.size w0 w) (hE : EBd w0 w u (x, t)) (hlen : (s.length + 1) * 32 ≤ 140737488355328) :
    ∃ v' w', (Builtin.append_ #[23, 23] ty #[v, .slice (some ⟨w.heap.size, 0, none⟩) 1 1]).run Tryd.prog (w.alloc (.cells #[.int .i64 x, u] 43)) = .ok v' w' ∧ OB w0 w' v' (s ++ [(x, t)]) ∧ Below w0.heap.size w0 w' := by
  have ha := below_alloc (w := w) (.cells #[.int .i64 x, u] 43)
  refine (h.later ha).join ty (r := [(x, t)]) (us := [u]) (below_step hb ha) (by simp) rfl (fun j c hj => ?_) (fun i u' b h1 h2 => ?_) (by simpa using hlen)
  · rw [Nat.zero_add, cell_of_row _ _ _ _ _ _ (heap_alloc_new _ _)]
    simpa [flatB] using hj
  · have hi : i = 0 := by
      have := (List.getElem?_eq_some_iff.1 h1).1
      simp at this
      omega
    subst hi
    simp at h1 h2
    subst h1
    subst h2
    exact ⟨hE.1.later ha, hE.2⟩

/-- Binds that were there joined. -/
theorem OB.old (ty : TypeId) {w0 w : World} {v u : Value} {s r : List Bd} (h : OB w0 w v s) (hb : Below w0.heap.size w0 w) (hr : Bs w0 u r) (hlen : (s.length + r.length) * 32 ≤ 140737488355328) :
    ∃ v' w', (Builtin.append_ #[23, 23] ty #[v, u]).run Tryd.prog w = .ok v' w' ∧ OB w0 w' v' (s ++ r) ∧ Below w0.heap.size w0 w' := by
  obtain ⟨i1, hi1, hy0, hy1, hy2⟩ := info_parts info_bind
  obtain ⟨ao, cap, rfl, hc, hm, hx⟩ := hr
  by_cases h0 : r.length = 0
  · obtain rfl : r = [] := List.eq_nil_of_length_eq_zero h0
    obtain ⟨bo, bc, rfl, hbc, _⟩ := h.shape
    refine ⟨_, w, run_append_nothing w 23 23 ty 43 i1 under_binds hi1 _ s.length bc hbc _ ?_, by rw [List.append_nil]; exact h, hb⟩
    cases ao with
    | none => exact Src.ofNil w under_binds _
    | some a => exact Src.ofSlice w under_binds a 0 _ [] (by simp) (fun j u hj => (by simp at hj)) (fun u hu => (by simp at hu))
  · obtain ⟨g, off, rfl, hg, hcell⟩ := hx (by omega)
    have each : ∀ i, i < r.length → ∃ u : Value, ∀ b, r[i]? = some b → w0.cell? ⟨g, off + i * 2, none⟩ = some (.int .i64 b.1) ∧ w0.cell? ⟨g, off + i * 2 + 1, none⟩ = some u ∧ EBd w0 w u b := fun i hi => by
      obtain ⟨b, hbx⟩ : ∃ b, r[i]? = some b := ⟨_, List.getElem?_eq_getElem hi⟩
      obtain ⟨h1, h2, h3, h4, u, h5, h6⟩ := hcell i b hbx
      refine ⟨u, fun b' hb' => ?_⟩
      rw [hbx] at hb'
      cases hb'
      exact ⟨h4, h5, .inr h6, h1, h2, h3⟩
    obtain ⟨q, hq⟩ := Deep.choose_lt each
    refine h.join ty (r := r) (us := (List.range r.length).map q) hb (by omega) (by simp) (fun j c hj => ?_) (fun i u b h1 h2 => ?_) hlen
    · have hjl := (List.getElem?_eq_some_iff.1 hj).1
      rw [flatB_len (by simp)] at hjl
      obtain ⟨b, hbx⟩ : ∃ b, r[j / 2]? = some b := ⟨_, List.getElem?_eq_getElem (by omega)⟩
      have hux : ((List.range r.length).map q)[j / 2]? = some (q (j / 2)) := by simp [List.getElem?_range (show j / 2 < r.length by omega)]
      obtain ⟨f1, f2⟩ := flatB_get hbx hux
      obtain ⟨c1, c2, _⟩ := hq (j / 2) (by omega) b hbx
      by_cases hpar : j % 2 = 0
      · rw [show j / 2 * 2 = j by omega] at f1 c1
        rw [f1] at hj
        cases hj
        exact (Kp.of_below hb).cell _ _ c1
      · rw [show j / 2 * 2 + 1 = j by omega] at f2
        rw [f2] at hj
        cases hj
        rw [show off + j / 2 * 2 + 1 = off + j by omega] at c2
        exact (Kp.of_below hb).cell _ _ c2
    · have hi := (List.getElem?_eq_some_iff.1 h2).1
      rw [List.getElem?_map, List.getElem?_range hi, Option.map_some, Option.some.injEq] at h1
      subst h1
      exact (hq i hi b h2).2.2

end Go.Proofs.YtifpanfgojfbkaaDoor
