/- Texts of the proof, one behind the other. -/
import Derived.Test.YtgpbnbmjgcchfaaGreatDoorOwn18
import Derived.Test.YtgpbnbmjgcchfaaGreatDoorOwn12
import Derived.Test.YtgpbnbmjgcchfaaGreatDoorOwn17
import Derived.Test.YtgpbnbmjgcchfaaGreatDoorOwn16
import Derived.Test.YtgpbnbmjgcchfaaGreatDoorOwn6
import Derived.Test.YtgpbnbmjgcchfaaGreatDoorOwn4
/- The document's sorted of layer 5 walked. -/
namespace Go.Proofs.YtgpbnbmjgcchfaaGreatDoor
open Go.RowKit Go.Maps Go.BigFrame

def lenB : Value → Nat
  | .slice _ n _ => n
  | _ => 0

/-- Binds of one's own, their rows older ones of one's own. -/
def OBX (b1 b2 : Nat) (w : World) (v : Value) (s : List Bd) : Prop :=
  ∃ us : List Value, us.length = s.length ∧ (∀ (i : Nat) (u : Value) (b : Bd), us[i]? = some u → s[i]? = some b → EBo b1 w u b) ∧ w.ownsRow b2 121 2 v s.length (flatB s us)

theorem OBX.obw {b1 b2 b : Nat} {w : World} {v : Value} {s : List Bd} (h : OBX b1 b2 w v s) (h1 : b ≤ b1) (h2 : b ≤ b2) : OBW b w v s := by
  obtain ⟨us, hl, hc, ho⟩ := h
  refine ⟨us, hl, fun i u b h1' h2' => ⟨(hc i u b h1' h2').1.mono h1, (hc i u b h1' h2').2⟩, ho.1, ?_⟩
  rcases ho.2 with h | ⟨g, cap, cur, rfl, hg, r⟩
  · exact .inl h
  · exact .inr ⟨g, cap, cur, rfl, by omega, r⟩

theorem OBX.later {b1 b2 : Nat} {w w' : World} {v : Value} {s : List Bd} (h : OBX b1 b2 w v s) (hb : Below w.heap.size w w') : OBX b1 b2 w' v s := by
  obtain ⟨us, hl, hc, ho⟩ := h
  exact ⟨us, hl, fun i u b h1 h2 => ⟨(hc i u b h1 h2).1.later hb, (hc i u b h1 h2).2⟩, ownsRow_later ho hb⟩

theorem OBX.nil (b1 b2 : Nat) (w : World) : OBX b1 b2 w (.slice none 0 0) [] := ⟨[], rfl, fun i c m h => (by simp at h), World.ownsRow_nil _ _ _ _⟩

theorem OBX.bs {b1 b2 : Nat} {w : World} {v : Value} {s : List Bd} (h : OBX b1 b2 w v s) : Bs w v s := (h.obw (Nat.zero_le _) (Nat.zero_le _)).bs

theorem OBW.row {base : Nat} {w : World} {v : Value} {s : List Bd} (h : OBW base w v s) {k : Nat} {x : Int} {t : List Int} (hk : s[k]? = some (x, t)) :
    ∃ g cap u, v = .slice (some ⟨g, 0, none⟩) s.length cap ∧ w.cell? ⟨g, k * 2, none⟩ = some (.int .i64 x) ∧ w.cell? ⟨g, k * 2 + 1, none⟩ = some u ∧ EBo base w u (x, t) := by
  obtain ⟨us, hl, hc, ho⟩ := h
  have hlt : k < s.length := (List.getElem?_eq_some_iff.1 hk).1
  have ho2 := ho
  rcases ho2.2 with ⟨rfl, hn⟩ | ⟨g, cap, cur, rfl, hbg, hg, hcap, hm, hs, ht⟩
  · omega
  · have hck : us[k]? = some us[k] := List.getElem?_eq_getElem (by omega)
    obtain ⟨h1, h2⟩ := flatB_get hk hck
    refine ⟨g, cap, us[k], rfl, ?_, ?_, hc k _ _ hck hk⟩
    · rw [World.ownsRow.cellAt ho2 (k * 2) (by omega)]
      exact h1
    · rw [World.ownsRow.cellAt ho2 (k * 2 + 1) (by omega)]
      exact h2

theorem OBX.shape {b1 b2 : Nat} {w : World} {v : Value} {s : List Bd} (h : OBX b1 b2 w v s) : ∃ ao cap, v = .slice ao s.length cap ∧ s.length ≤ cap ∧ cap ≤ maxLen := by
  obtain ⟨us, hl, hc, ho⟩ := h
  rcases ho.2 with ⟨rfl, hn⟩ | ⟨g, cap, cur, rfl, hb, hg, hc, hm, hs, ht⟩
  · exact ⟨none, 0, by rw [hn], by omega, by simp [maxLen]⟩
  · exact ⟨_, cap, rfl, hc, hm⟩

/-- One bind joined. -/
theorem OBX.snoc (ty : TypeId) {b1 b2 : Nat} {w0 w : World} {v u : Value} {s : List Bd} {x : Int} {t : List Int} (h : OBX b1 b2 w v s) (h0 : Below w0.heap.size w0 w) (hb : b2 ≤ w.heap.size) (hb0 : w0.heap.size ≤ b2) (hE : EBo b1 w u (x, t)) (hlen : (s.length + 1) * 32 ≤ 140737488355328) :
    ∃ v' w', (Builtin.append_ #[39, 39] ty #[v, .slice (some ⟨w.heap.size, 0, none⟩) 1 1]).run Tryz.prog (w.alloc (.cells #[.int .i64 x, u] 121)) = .ok v' w' ∧ OBX b1 b2 w' v' (s ++ [(x, t)]) ∧ Below w0.heap.size w0 w' := by
  obtain ⟨i1, hi1, hy0, hy1, hy2⟩ := info_parts info_bind
  have ha := below_alloc (w := w) (.cells #[.int .i64 x, u] 121)
  have h' := h.later ha
  obtain ⟨us, hl, hc, ho0⟩ := h
  obtain ⟨vs, hl', hc', ho⟩ := h'
  have hone : u.oneCell' = true := by obtain ⟨_, _, rfl, _⟩ := hE.1.shape; rfl
  obtain ⟨v', w', hrun, h2, h3, _, _⟩ := run_append_own_at (P := Tryz.prog) (w.alloc (.cells #[.int .i64 x, u] 121)) b2 39 ty 121 i1 _ 2 32 under_binds hi1 hy0 hy1 hy2 rfl (by decide) v s.length (flatB s vs) ho ⟨w.heap.size, 0, none⟩ 1 1 [.int .i64 x, u] rfl
    (fun j c hj => by
      rw [Addr.add_lit, Nat.zero_add, cell_of_row _ _ _ _ _ _ (heap_alloc_new _ _)]
      simpa using hj)
    (fun c hc => by
      simp only [List.mem_cons, List.not_mem_nil, or_false] at hc
      rcases hc with rfl | rfl
      · rfl
      · exact hone) (by unfold maxLen; omega) (by omega) (Nat.le_trans hb ha.size)
  have hk : ∀ {y : Value} {b : Bd}, EBo b1 (w.alloc (.cells #[.int .i64 x, u] 121)) y b → EBo b1 w' y b := fun {y b} hy => ⟨hy.1.kept h3 (ownsRow_apart hy.1.2 ho (by decide)), hy.2⟩
  refine ⟨v', w', hrun, ⟨vs ++ [u], by rw [List.length_append, List.length_append, hl']; rfl, fun i y b h1 h4 => ?_, ?_⟩, ?_⟩
  · by_cases hi : i < vs.length
    · rw [List.getElem?_append_left hi] at h1
      rw [List.getElem?_append_left (by omega)] at h4
      exact hk (hc' i y b h1 h4)
    · rw [List.getElem?_append_right (by omega)] at h1
      rw [List.getElem?_append_right (by omega), ← hl'] at h4
      have hi : i - vs.length = 0 := by
        have := (List.getElem?_eq_some_iff.1 h1).1
        simp at this
        omega
      rw [hi] at h1 h4
      simp at h1 h4
      subst h1
      subst h4
      exact hk ⟨hE.1.later ha, hE.2⟩
  · rw [List.length_append, flatB_append hl']
    exact h2
  · have h9 := below_step h0 ha
    exact h9.grown h3 h9.size (fun j hj => Nat.le_trans hb0 (own_blk ho hj))

/-- Binds by rising variables. -/
def sortB (s : List Bd) : List Bd := (sortI (s.map Prod.fst)).map fun n => (n, (s.lookup n).getD [])

/-- Whether a variable comes behind the last one told. -/
def Later (S : List Int) (k : Nat) (x : Int) : Prop := ∀ j y, j + 1 = k → S[j]? = some y → y < x

theorem sortB_get {s : List Bd} {k : Nat} {b : Bd} (h : (sortB s)[k]? = some b) : (sortI (s.map Prod.fst))[k]? = some b.1 := by
  unfold sortB at h
  rw [List.getElem?_map] at h
  cases hs : (sortI (s.map Prod.fst))[k]? with
  | none => rw [hs] at h; simp at h
  | some n =>
    rw [hs] at h
    simp at h
    rw [← h]

theorem sortB_next {s : List Bd} (hn : (s.map Prod.fst).Nodup) {k m : Nat} {b : Bd} (hk : k < s.length) (hm : s[m]? = some b) (hl : Later (sortI (s.map Prod.fst)) k b.1)
    (hle : ∀ (i : Nat) (b' : Bd), i < s.length → s[i]? = some b' → Later (sortI (s.map Prod.fst)) k b'.1 → b.1 ≤ b'.1) : (sortB s)[k]? = some b := by
  have hr := sortI_rise hn
  have hlen := sortI_len (s.map Prod.fst)
  rw [List.length_map] at hlen
  obtain ⟨x, hx⟩ : ∃ x, (sortI (s.map Prod.fst))[k]? = some x := ⟨_, List.getElem?_eq_getElem (by omega)⟩
  obtain ⟨h1, h2⟩ := sel_next hr hx
  have hxm := List.mem_of_getElem? hx
  rw [sortI_mem] at hxm
  obtain ⟨b', hb', he⟩ := List.mem_map.1 hxm
  obtain ⟨i, hi⟩ := List.getElem?_of_mem hb'
  have h3 : b.1 ≤ x := by rw [← he]; exact hle i b' (List.getElem?_eq_some_iff.1 hi).1 hi (by rw [he]; exact h1)
  have h4 : x ≤ b.1 := h2 b.1 (by rw [sortI_mem]; exact List.mem_map.2 ⟨b, List.mem_of_getElem? hm, rfl⟩) hl
  have h5 : x = b.1 := by omega
  unfold sortB
  rw [List.getElem?_map, hx, h5]
  simp only [Option.map_some, Option.some.injEq]
  rw [look_has hn (List.mem_of_getElem? hm)]
  rfl

theorem sortB_some {s : List Bd} (hn : (s.map Prod.fst).Nodup) {k : Nat} (hk : k < s.length) : ∃ (i : Nat) (b : Bd), s[i]? = some b ∧ Later (sortI (s.map Prod.fst)) k b.1 := by
  have hr := sortI_rise hn
  have hlen := sortI_len (s.map Prod.fst)
  rw [List.length_map] at hlen
  obtain ⟨x, hx⟩ : ∃ x, (sortI (s.map Prod.fst))[k]? = some x := ⟨_, List.getElem?_eq_getElem (by omega)⟩
  obtain ⟨h1, _⟩ := sel_next hr hx
  have hxm := List.mem_of_getElem? hx
  rw [sortI_mem] at hxm
  obtain ⟨b, hb, he⟩ := List.mem_map.1 hxm
  obtain ⟨i, hi⟩ := List.getElem?_of_mem hb
  exact ⟨i, b, hi, by rw [he]; exact h1⟩

theorem least_first {s : List Bd} {L : Int → Prop} {j : Nat} {x : Int} {t : List Int} (hX : s[j]? = some (x, t)) (h : ∀ (i : Nat) (b : Bd), i < j → s[i]? = some b → ¬ L b.1) : ∀ (i : Nat) (b : Bd), i < j + 1 → s[i]? = some b → L b.1 → (x, t).1 ≤ b.1 := fun i b hi hb hl => by
  rcases Nat.lt_succ_iff_lt_or_eq.1 hi with h9 | h9
  · exact absurd hl (h i b h9 hb)
  · subst h9
    rw [hX] at hb
    cases hb
    exact Int.le_refl _

theorem least_less {s : List Bd} {L : Int → Prop} {j : Nat} {x z : Int} {t tz : List Int} (hX : s[j]? = some (x, t)) (h : ∀ (i : Nat) (b : Bd), i < j → s[i]? = some b → L b.1 → (z, tz).1 ≤ b.1) (hxz : x < z) : ∀ (i : Nat) (b : Bd), i < j + 1 → s[i]? = some b → L b.1 → (x, t).1 ≤ b.1 := fun i b hi hb hl => by
  rcases Nat.lt_succ_iff_lt_or_eq.1 hi with h9 | h9
  · have := h i b h9 hb hl
    simp only at this ⊢
    omega
  · subst h9
    rw [hX] at hb
    cases hb
    exact Int.le_refl _

theorem least_keep {s : List Bd} {L : Int → Prop} {j : Nat} {x z : Int} {t tz : List Int} (hX : s[j]? = some (x, t)) (h : ∀ (i : Nat) (b : Bd), i < j → s[i]? = some b → L b.1 → (z, tz).1 ≤ b.1) (hxz : ¬ x < z) : ∀ (i : Nat) (b : Bd), i < j + 1 → s[i]? = some b → L b.1 → (z, tz).1 ≤ b.1 := fun i b hi hb hl => by
  rcases Nat.lt_succ_iff_lt_or_eq.1 hi with h9 | h9
  · exact h i b h9 hb hl
  · subst h9
    rw [hX] at hb
    cases hb
    simp only
    omega

end Go.Proofs.YtgpbnbmjgcchfaaGreatDoor

/- The document's Inner and Match of layer 5 walked. -/
namespace Go.Proofs.YtgpbnbmjgcchfaaGreatDoor
open Go.RowKit Go.Maps Go.BigFrame

theorem sort_vars {L : List Bd} {p : List Int} {k : Nat} (hn : (L.map Prod.fst).Nodup) (hv : ∀ n, n ∈ L.map Prod.fst ↔ ∃ c ∈ p.take k, c < 0 ∧ n = -1 - c) (hk : p.length ≤ k) : sortB L = bindsL (fun n => L.lookup n) p := by
  unfold sortB bindsL
  rw [rise_eq (sortI_rise hn) (sortI_rise (vars_once p)) fun x => ?_]
  rw [sortI_mem, sortI_mem, hv x, mem_varsL, List.take_of_length_le hk]

end Go.Proofs.YtgpbnbmjgcchfaaGreatDoor

/- The document's right, end, matched and All of layer 8 walked. -/
namespace Go.Proofs.YtgpbnbmjgcchfaaGreatDoor
open Go.RowKit Go.Maps Go.BigFrame

/-- Each place has its end. -/
theorem place_end8 {sig : List Sy} {t : List Int} (ht : termE sig t = 0) {x : Nat} (hx : x < t.length) : ∃ y, VOk sig t (x, y) := by
  obtain ⟨vs, hpv⟩ := pv_any (sig_arOk (term_parts ht).1) t.length t 0 (Nat.le_refl _) (term_parts ht).2
  have hm : x ∈ vs.map Prod.fst := (pv_perm hpv).symm.subset (by rw [List.mem_range'_1]; omega)
  obtain ⟨v, hv, rfl⟩ := List.mem_map.1 hm
  exact ⟨v.2, pv_ok hpv t [] [] (by simp) rfl v hv⟩

end Go.Proofs.YtgpbnbmjgcchfaaGreatDoor

/- Redexes part by part and the steps at them, plainly. -/
namespace Go.Proofs.YtgpbnbmjgcchfaaGreatDoor
open Go.RowKit Go.Maps Go.BigFrame

/-- A redex moved. -/
def mvX (o : Nat) (x : Rx) : Rx := (x.1 + (o : Int), x.2)

theorem red_move {sig : List Sy} {part : List Int} (x o : Nat) : ∀ (rs : List Rl) (k : Nat), redL sig part (o + x) k rs = (redL sig part x k rs).map (mvX o)
  | [], _ => rfl
  | r :: rs, k => by
    unfold redL
    rw [List.map_append, red_move x o rs (k + 1)]
    congr 1
    split
    · simp only [List.map_cons, List.map_nil, mvX, List.cons.injEq, Prod.mk.injEq, and_true]
      omega
    · rfl

theorem sub_in {sig : List Sy} {t p u q : List Int} (ht : termE sig t = 0) (hu : rowE sig u = 0) (he : t = p ++ (u ++ q)) {x : Nat} (hx : x < u.length) :
    ∃ y, VOk sig u (x, y) ∧ VOk sig t (p.length + x, p.length + y) ∧ subL sig t ((p.length + x : Nat) : Int) = subL sig u (x : Int) := by
  have hut := term_of ht hu
  obtain ⟨y, hv⟩ := place_end8 hut hx
  have h1 := hv.1
  have h2 := hv.2.1
  simp only at h1 h2
  have e : (t.drop (p.length + x)).take (p.length + y - (p.length + x)) = (u.drop x).take (y - x) := by
    rw [he, ← List.drop_drop, List.drop_left, List.drop_append_of_le_length (by omega), List.take_append_of_le_length (by rw [List.length_drop]; omega), show p.length + y - (p.length + x) = y - x by omega]
  have hv3 : VOk sig t (p.length + x, p.length + y) := by
    refine ⟨by simp only; omega, ?_, ?_⟩
    · simp only
      rw [he, List.length_append, List.length_append]
      omega
    · simp only
      rw [e]
      exact hv.2.2
  refine ⟨y, hv, hv3, ?_⟩
  have a := part_sub hut hv
  have b := part_sub ht hv3
  simp only at a b
  rw [← a, ← b]
  exact e

/-- The redexes of parts that stand side by side from a place on. -/
noncomputable def allP (sig : List Sy) (rs : List Rl) : Nat → List (List Int) → List Rx
  | _, [] => []
  | b, u :: us => (allL sig rs u).map (mvX b) ++ allP sig rs (b + u.length) us

theorem all_in {sig : List Sy} {rs : List Rl} {t p u q : List Int} (ht : termE sig t = 0) (hu : rowE sig u = 0) (he : t = p ++ (u ++ q)) :
    ((List.range' p.length u.length).flatMap fun (x : Nat) => redL sig (subL sig t (x : Int)) x 0 rs) = (allL sig rs u).map (mvX p.length) := by
  unfold allL
  rw [List.map_flatMap, List.range'_eq_map_range, List.flatMap_map]
  refine flat_congr fun x hx => ?_
  obtain ⟨y, _, _, h3⟩ := sub_in ht hu he (List.mem_range.1 hx)
  rw [h3, red_move]

theorem all_parts {sig : List Sy} {rs : List Rl} {t : List Int} (ht : termE sig t = 0) : ∀ (us : List (List Int)) (p q : List Int), (∀ u ∈ us, rowE sig u = 0) → t = p ++ (us.flatten ++ q) →
    ((List.range' p.length us.flatten.length).flatMap fun (x : Nat) => redL sig (subL sig t (x : Int)) x 0 rs) = allP sig rs p.length us
  | [], p, q, _, _ => by simp [allP]
  | u :: us, p, q, h, he => by
    have h1 := all_in (rs := rs) ht (h u (by simp)) (p := p) (q := us.flatten ++ q) (by rw [he]; simp)
    have h2 := all_parts (rs := rs) ht us (p ++ u) q (fun v hv => h v (by simp [hv])) (by rw [he]; simp)
    rw [List.length_append] at h2
    rw [List.flatten_cons, List.length_append, ← List.range'_append_1, List.flatMap_append, h1, h2]
    rfl

theorem all_root {sig : List Sy} {rs : List Rl} {c : Int} {us : List (List Int)} (ht : termE sig (c :: us.flatten) = 0) (hu : ∀ u ∈ us, rowE sig u = 0) :
    allL sig rs (c :: us.flatten) = redL sig (c :: us.flatten) 0 0 rs ++ allP sig rs 1 us := by
  have h1 := all_parts (rs := rs) ht us [c] [] hu (by simp)
  have h2 : subL sig (c :: us.flatten) ((0 : Nat) : Int) = c :: us.flatten := (sub_at (p := []) (q := []) ht (term_parts ht).2 (by simp)).2
  unfold allL
  rw [List.length_cons, List.range_eq_range', List.range'_succ, List.flatMap_cons, h2]
  congr 1

theorem allP_app (sig : List Sy) (rs : List Rl) : ∀ (us vs : List (List Int)) (b : Nat), allP sig rs b (us ++ vs) = allP sig rs b us ++ allP sig rs (b + us.flatten.length) vs
  | [], vs, b => by simp [allP]
  | u :: us, vs, b => by
    rw [List.cons_append, allP, allP, allP_app sig rs us vs, List.append_assoc, List.flatten_cons, List.length_append, Nat.add_assoc]

theorem allP_at {sig : List Sy} {rs : List Rl} {us : List (List Int)} {i : Nat} {u : List Int} (b : Nat) (h : us[i]? = some u) :
    allP sig rs b us = allP sig rs b (us.take i) ++ ((allL sig rs u).map (mvX (b + (us.take i).flatten.length)) ++ allP sig rs (b + (us.take i).flatten.length + u.length) (us.drop (i + 1))) ∧ allP sig rs b (us.take (i + 1)) = allP sig rs b (us.take i) ++ (allL sig rs u).map (mvX (b + (us.take i).flatten.length)) := by
  have hi := (List.getElem?_eq_some_iff.1 h).1
  have hu := (List.getElem?_eq_some_iff.1 h).2
  constructor
  · have e : us = us.take i ++ u :: us.drop (i + 1) := by
      rw [← hu, List.getElem_cons_drop, List.take_append_drop]
    conv => lhs; rw [e]
    rw [allP_app]
    rfl
  · rw [List.take_add_one, h, Option.toList_some, allP_app, allP, allP, List.append_nil]

theorem redL_at {sig : List Sy} {part : List Int} {x : Nat} : ∀ (rs : List Rl) (k : Nat) {y : Rx}, y ∈ redL sig part x k rs → ∃ (j : Nat) (r : Rl), rs[j]? = some r ∧ y = ((x : Int), ((k + j : Nat) : Int)) ∧ hitB sig r.1 part = true
  | [], _, y, h => by simp [redL] at h
  | r :: rs, k, y, h => by
    unfold redL at h
    rcases List.mem_append.1 h with h | h
    · split at h
      · rename_i h9
        rw [List.mem_singleton] at h
        exact ⟨0, r, rfl, by rw [h]; rfl, h9⟩
      · cases h
    · obtain ⟨j, r', h1, h2, h3⟩ := redL_at rs (k + 1) h
      exact ⟨j + 1, r', by simpa using h1, by rw [h2]; simp only [Prod.mk.injEq, true_and]; omega, h3⟩

theorem redL_has {sig : List Sy} {part : List Int} {x : Nat} : ∀ (rs : List Rl) (k : Nat) {j : Nat} {r : Rl}, rs[j]? = some r → hitB sig r.1 part = true → ((x : Int), ((k + j : Nat) : Int)) ∈ redL sig part x k rs
  | [], _, j, r, h, _ => by simp at h
  | a :: rs, k, 0, r, h, h2 => by
    simp only [List.getElem?_cons_zero, Option.some.injEq] at h
    subst h
    unfold redL
    rw [if_pos h2]
    simp
  | a :: rs, k, j + 1, r, h, h2 => by
    have h9 := redL_has (x := x) rs (k + 1) (j := j) (r := r) (by simpa using h) h2
    unfold redL
    rw [show k + (j + 1) = k + 1 + j by omega]
    exact List.mem_append_right _ h9

theorem all_mem {sig : List Sy} {rs : List Rl} {t : List Int} {y : Rx} (h : y ∈ allL sig rs t) : ∃ (x j : Nat) (r : Rl), x < t.length ∧ rs[j]? = some r ∧ y = ((x : Int), (j : Int)) ∧ hitB sig r.1 (subL sig t (x : Int)) = true := by
  unfold allL at h
  obtain ⟨x, hx, hy⟩ := List.mem_flatMap.1 h
  obtain ⟨j, r, h1, h2, h3⟩ := redL_at rs 0 hy
  exact ⟨x, j, r, List.mem_range.1 hx, h1, by rw [h2, Nat.zero_add], h3⟩

theorem all_has {sig : List Sy} {rs : List Rl} {t : List Int} {x j : Nat} {r : Rl} (hx : x < t.length) (hr : rs[j]? = some r) (h : hitB sig r.1 (subL sig t (x : Int)) = true) : ((x : Int), (j : Int)) ∈ allL sig rs t := by
  unfold allL
  refine List.mem_flatMap.2 ⟨x, List.mem_range.2 hx, ?_⟩
  have h9 := redL_has (x := x) rs 0 hr h
  rw [Nat.zero_add] at h9
  exact h9

theorem hit_of {sig : List Sy} {l t : List Int} (h : hitB sig l t = true) : Hit sig l t := @of_decide_eq_true _ (Classical.propDecidable _) h

/-- A rule of a right system. -/
theorem rule_of {sig : List Sy} {rs : List Rl} {t : List Int} {j : Nat} {r : Rl} (he : stepE sig rs t = 0) (hr : rs[j]? = some r) : termE sig r.1 = 0 ∧ termE sig r.2 = 0 ∧ r.1.length ≤ 512 ∧ r.2.length ≤ 512 ∧ (0 : Int) ≤ (r.1[0]?).getD 0 ∧ freeB r.1 r.2 = false :=
  rule_parts ((sys_right (stepE_zero he).1).2 r (List.mem_of_getElem? hr))

theorem stepE_of {sig : List Sy} {rs : List Rl} {t u : List Int} (he : stepE sig rs t = 0) (hu : rowE sig u = 0) : stepE sig rs u = 0 := by
  obtain ⟨h1, h2⟩ := stepE_zero he
  unfold stepE
  rw [if_pos (by simpa [sysB] using h1)]
  exact term_of h2 hu

/-- What Do makes of a redex. -/
theorem do_hit {sig : List Sy} {rs : List Rl} {t : List Int} {x y j : Nat} {r : Rl} {f : Int → Option (List Int)} (he : stepE sig rs t = 0) (hv : VOk sig t (x, y)) (hr : rs[j]? = some r) (hf : Rt sig f) (hs : Sm f r.1 (subL sig t (x : Int))) :
    doR sig rs t (x : Int) (j : Int) = if 512 < x + (laidL (bnd (bindsL f r.1)) r.2).length + (t.length - y) then ([], 2) else (t.take x ++ (laidL (bnd (bindsL f r.1)) r.2 ++ t.drop y), 0) := by
  have ht := (stepE_zero he).2
  have hx : x < t.length := by
    have h1 := hv.1
    have h2 := hv.2.1
    simp only at h1 h2
    omega
  obtain ⟨hl, hr2, _⟩ := rule_of he hr
  unfold doR
  rw [if_pos he, if_pos (place_in ht hx), if_neg (by omega), Int.toNat_natCast, hr]
  exact doK_doc ht hv hl hr2 hf hs

theorem cut_term {t : List Int} {x y : Nat} (h1 : x < y) : t = t.take x ++ ((t.drop x).take (y - x) ++ t.drop y) := by
  have e1 : (t.drop x).take (y - x) ++ t.drop y = t.drop x := by
    have := List.take_append_drop (y - x) (t.drop x)
    rw [List.drop_drop, show x + (y - x) = y by omega] at this
    exact this
  rw [e1, List.take_append_drop]

/-- A term with another part is one. -/
theorem cut_right {sig : List Sy} {t u : List Int} {x y : Nat} (ht : termE sig t = 0) (hv : VOk sig t (x, y)) (hu : rowE sig u = 0) : rowE sig (t.take x ++ (u ++ t.drop y)) = 0 := by
  have h1 := hv.1
  simp only at h1
  have h9 := (term_parts ht).2
  rw [cut_term (t := t) h1] at h9
  exact right_mid (sig_arOk (term_parts ht).1) h9 hv.2.2 hu

/-- A step within a part. -/
theorem do_part {sig : List Sy} {rs : List Rl} {t p u q : List Int} (he : stepE sig rs t = 0) (hu : rowE sig u = 0) (e : t = p ++ (u ++ q)) {z : Rx} (hz : z ∈ allL sig rs u) :
    ((doR sig rs u z.1 z.2).2 = 0 ∧ doR sig rs t (z.1 + (p.length : Int)) z.2 = (replL sig t p.length (doR sig rs u z.1 z.2).1, replE sig t p.length (doR sig rs u z.1 z.2).1)) ∨ ((doR sig rs u z.1 z.2).2 = 2 ∧ (doR sig rs t (z.1 + (p.length : Int)) z.2).2 = 2) := by
  obtain ⟨x, j, r, hx, hr, rfl, hh⟩ := all_mem hz
  obtain ⟨f, hf, hs⟩ := hit_of hh
  have ht := (stepE_zero he).2
  obtain ⟨y, hv1, hv2, hsub⟩ := sub_in ht hu e hx
  have heu := stepE_of he hu
  have d1 := do_hit heu hv1 hr hf hs
  have d2 := do_hit he hv2 hr hf (by rw [hsub]; exact hs)
  obtain ⟨hl, hr2, _⟩ := rule_of he hr
  have hrow := laid_row8 (sig_arOk (term_parts ht).1) hr2 hf hs
  obtain ⟨Q, hQ⟩ : ∃ Q, Q = laidL (bnd (bindsL f r.1)) r.2 := ⟨_, rfl⟩
  rw [← hQ] at d1 d2 hrow
  simp only
  rw [show ((x : Int) + (p.length : Int)) = ((p.length + x : Nat) : Int) by omega, d1, d2]
  have h1 := hv1.1
  have h2 := hv1.2.1
  simp only at h1 h2
  have htl : t.length = p.length + (u.length + q.length) := by rw [e, List.length_append, List.length_append]
  have hwl : (u.take x ++ (Q ++ u.drop y)).length = x + Q.length + (u.length - y) := by
    rw [List.length_append, List.length_append, List.length_take, List.length_drop]
    omega
  by_cases c1 : 512 < x + Q.length + (u.length - y)
  · right
    rw [if_pos c1, if_pos (by omega)]
    exact ⟨rfl, rfl⟩
  · left
    rw [if_neg c1]
    refine ⟨rfl, ?_⟩
    simp only
    have hrr := cut_right (term_of ht hu) hv1 hrow
    have htt := ht
    rw [e] at htt
    obtain ⟨m1, m2⟩ := repl_mid htt hu hrr
    rw [← e] at m1 m2
    rw [m1, m2, hwl]
    by_cases c2 : 512 < p.length + x + Q.length + (t.length - (p.length + y))
    · rw [if_pos c2, if_pos (by omega), if_pos (by omega)]
    · rw [if_neg c2, if_neg (by omega), if_neg (by omega)]
      have a1 : t.take (p.length + x) = p ++ u.take x := by
        rw [e, List.take_append, List.take_of_length_le (by omega), show p.length + x - p.length = x by omega, List.take_append_of_le_length (by omega)]
      have a2 : t.drop (p.length + y) = u.drop y ++ q := by
        rw [e, ← List.drop_drop, List.drop_left, List.drop_append_of_le_length (by omega)]
      rw [a1, a2]
      simp

/-- Binds as a match has them. -/
theorem bnd_binds {f : Int → Option (List Int)} {l : List Int} {c : Int} (hc : c ∈ l) (h0 : c < 0) : bnd (bindsL f l) (-1 - c) = some ((f (-1 - c)).getD []) := by
  unfold bnd
  rw [← look_rise (binds_rise f l)]
  unfold bindsL
  exact binds_look (by rw [sortI_mem, mem_varsL]; exact ⟨c, hc, h0, rfl⟩)

theorem binds_laid {f : Int → Option (List Int)} {l r : List Int} (hl : ∀ c ∈ l, c < 0 → f (-1 - c) ≠ none) (hr : ∀ c ∈ r, c < 0 → c ∈ l) : laidL (bnd (bindsL f l)) r = laidL f r := by
  refine laid_congr fun c hc => ?_
  unfold piece
  by_cases h0 : c < 0
  · rw [if_pos h0, if_pos h0, bnd_binds (hr c hc h0) h0]
    obtain ⟨u, hu⟩ := Option.ne_none_iff_exists'.1 (hl c (hr c hc h0) h0)
    rw [hu]
    rfl
  · rw [if_neg h0, if_neg h0]

/-- Binds one behind the other. -/
def thenF (f g : Int → Option (List Int)) (n : Int) : Option (List Int) := match f n with | some u => some (laidL g u) | none => g n

/-- What matches goes on to match where binds are laid, with binds laid. -/
theorem hit_then {sig : List Sy} (ha : ArOk sig) {l t : List Int} {f g : Int → Option (List Int)} (hf : Rt sig f) (hg : Rt sig g) (hs : Sm f l t) : Rt sig (thenF f g) ∧ Sm (thenF f g) l (laidL g t) ∧ ∀ r : List Int, (∀ c ∈ r, c < 0 → c ∈ l) → laidL (bnd (bindsL (thenF f g) l)) r = laidL g (laidL (bnd (bindsL f l)) r) := by
  have h1 : Rt sig (thenF f g) := fun n u hu => by
    unfold thenF at hu
    cases hfn : f n with
    | none => rw [hfn] at hu; exact hg n u hu
    | some v =>
      rw [hfn] at hu
      simp only [Option.some.injEq] at hu
      rw [← hu]
      exact row_laid ha hg (hf n v hfn)
  have hl : ∀ c ∈ l, c < 0 → thenF f g (-1 - c) ≠ none := fun c hc h0 => by
    unfold thenF
    obtain ⟨u, hu⟩ := Option.ne_none_iff_exists'.1 (hs.1 c hc h0)
    rw [hu]
    simp
  have ha2 := laid_after f g (thenF f g) (fun n => rfl)
  refine ⟨h1, ⟨hl, by rw [ha2, hs.2]⟩, fun r hr => ?_⟩
  rw [binds_laid hl hr, binds_laid hs.1 hr, ha2]

theorem free_vars {l r : List Int} (h : freeB l r = false) : ∀ c ∈ r, c < 0 → c ∈ l := fun c hc h0 => by
  unfold freeB at h
  rw [List.any_eq_false] at h
  have h9 := h (-1 - c) (mem_varsL.2 ⟨c, hc, h0, rfl⟩)
  simp only [Bool.not_eq_true', decide_eq_false_iff_not, Decidable.not_not] at h9
  obtain ⟨d, hd, hd0, he⟩ := mem_varsL.1 h9
  rw [show c = d by omega]
  exact hd

theorem bnd_rightX {sig : List Sy} {b : List Bd} (hb : bindE sig b = 0) : Rt sig (bnd b) := fun n u hu => by
  unfold bindE at hb
  by_cases hs : sigE sig = 0
  · rw [if_pos hs] at hb
    unfold bnd at hu
    have hm := List.mem_reverse.1 (lookup_mem hu)
    exact (term_parts (bind_all sig b none hb _ hm).2).2
  · rw [if_neg hs] at hb
    exact absurd hb hs

theorem whole_ok {sig : List Sy} {t : List Int} (ht : termE sig t = 0) : VOk sig t (0, t.length) := by
  have h1 := right_len (term_parts ht).2
  refine ⟨h1, Nat.le_refl _, ?_⟩
  simp only [List.drop_zero, Nat.sub_zero, List.take_length]
  exact (term_parts ht).2

theorem sub_whole {sig : List Sy} {t : List Int} (ht : termE sig t = 0) : subL sig t ((0 : Nat) : Int) = t := (sub_at (p := []) (q := []) ht (term_parts ht).2 (by simp)).2

/-- A rule that matches at the root, and binds laid. -/
theorem root_binds {sig : List Sy} {rs : List Rl} {t : List Int} {b : List Bd} (he : stepE sig rs t = 0) (ha : applyE sig b t = 0) {z : Rx} (hz : z ∈ allL sig rs t) (h0 : z.1 = 0) :
    stepE sig rs (applyL sig b t) = 0 ∧ z ∈ allL sig rs (applyL sig b t) ∧ ((doR sig rs t z.1 z.2).2 = 0 → (doR sig rs (applyL sig b t) z.1 z.2).2 = 0 → applyE sig b (doR sig rs t z.1 z.2).1 = 0 ∧ applyL sig b (doR sig rs t z.1 z.2).1 = (doR sig rs (applyL sig b t) z.1 z.2).1) := by
  have ht := (stepE_zero he).2
  have hao := sig_arOk (term_parts ht).1
  obtain ⟨hb, _, hl, e⟩ := apply_ok ha
  have hg := bnd_rightX hb
  have hrow : rowE sig (laidL (bnd b) t) = 0 := row_laid hao hg (term_parts ht).2
  rw [e]
  have hes := stepE_of he hrow
  have htu := (stepE_zero hes).2
  obtain ⟨x, j, r, hx, hr, rfl, hh⟩ := all_mem hz
  simp only at h0 ⊢
  obtain rfl : x = 0 := by omega
  obtain ⟨f, hf, hs⟩ := hit_of hh
  have hs0 := hs
  rw [sub_whole ht] at hs0
  obtain ⟨hf1, hs1, hlay⟩ := hit_then hao hf hg hs0
  have hs2 : Sm (thenF f (bnd b)) r.1 (subL sig (laidL (bnd b) t) ((0 : Nat) : Int)) := by rw [sub_whole htu]; exact hs1
  refine ⟨hes, all_has (right_len hrow) hr (hitB_true ⟨_, hf1, hs2⟩), ?_⟩
  have d1 := do_hit he (whole_ok ht) hr hf hs
  have d2 := do_hit hes (whole_ok htu) hr hf1 hs2
  obtain ⟨hl1, hr2, _, _, _, hfree⟩ := rule_of he hr
  have hrw := laid_row8 hao hr2 hf hs0
  have h9 := hlay r.2 (free_vars hfree)
  rw [h9] at d2
  rw [d1, d2]
  obtain ⟨Q, hQ⟩ : ∃ Q, Q = laidL (bnd (bindsL f r.1)) r.2 := ⟨_, rfl⟩
  rw [← hQ] at hrw ⊢
  rw [Nat.sub_self, Nat.sub_self, Nat.zero_add, Nat.zero_add, Nat.add_zero, Nat.add_zero, List.take_zero, List.take_zero, List.drop_length, List.drop_length, List.nil_append, List.nil_append, List.append_nil, List.append_nil]
  by_cases c1 : 512 < Q.length
  · rw [if_pos c1]
    intro h; simp at h
  · rw [if_neg c1]
    by_cases c2 : 512 < (laidL (bnd b) Q).length
    · rw [if_pos c2]
      intro _ h; simp at h
    · rw [if_neg c2]
      intro _ _
      have hQt := term_of ht hrw
      simp only
      unfold applyE applyL
      rw [if_pos hb, if_pos hb, if_pos hQt, if_pos hQt, (lay_eq _ Q).1, (lay_eq _ Q).2, if_neg c2, if_neg c2]
      exact ⟨rfl, rfl⟩

end Go.Proofs.YtgpbnbmjgcchfaaGreatDoor

/- First of package step walked. -/
namespace Go.Proofs.YtgpbnbmjgcchfaaGreatDoor
open Go.RowKit Go.Maps Go.BigFrame

/-- The least rule that matches, from the number k on; -1: none. -/
noncomputable def idxL (sig : List Sy) (part : List Int) : Nat → List Rl → Int
  | _, [] => -1
  | k, r :: rs => if hitB sig r.1 part then (k : Int) else idxL sig part (k + 1) rs

theorem idxL_bound (sig : List Sy) (part : List Int) : ∀ (rs : List Rl) (k : Nat), -1 ≤ idxL sig part k rs ∧ idxL sig part k rs < ((k + rs.length : Nat) : Int)
  | [], k => by unfold idxL; exact ⟨by omega, by omega⟩
  | r :: rs, k => by
    have h := idxL_bound sig part rs (k + 1)
    unfold idxL
    rw [List.length_cons]
    split
    · exact ⟨by omega, by omega⟩
    · exact ⟨h.1, by omega⟩

theorem idxL_go {sig : List Sy} {part : List Int} : ∀ {rs : List Rl} {k : Nat} (n : Nat), (∀ z ∈ rs.take n, hitB sig z.1 part = false) → n ≤ rs.length → idxL sig part k rs = idxL sig part (k + n) (rs.drop n)
  | rs, k, 0, _, _ => by simp
  | [], k, n + 1, _, hl => by simp at hl
  | r :: rs, k, n + 1, h, hl => by
    have h1 : hitB sig r.1 part = false := h r (by simp)
    rw [idxL, h1, if_neg (by simp), List.drop_succ_cons, idxL_go (rs := rs) (k := k + 1) n (fun z hz => h z (by simp [hz])) (by simpa using hl), show k + 1 + n = k + (n + 1) by omega]

set_option maxRecDepth 100000 in
set_option maxHeartbeats 800000 in
theorem firstC_any (sv lv rv pv : Value) (bs bp : Nat) (sig : List Sy) (l r t : List Int) (w : World) (hs : Sg w sv sig) (hl : Is w lv l) (hr : Is w rv r) (ht : Is w pv t) (hT : Tabs w) (hc : w.cell? ⟨bs, 0, none⟩ = some sv) (hp : w.cell? ⟨bp, 0, none⟩ = some pv) (htl : termE sig l = 0) (htt : termE sig t = 0) (h1 : l.length * 32 ≤ 140737488351232) (h2 : t.length * 16 ≤ 140737488351232) :
    Calls Tryz.prog 53 #[.agg #[lv, rv], .pointer (some ⟨bs, 0, none⟩), .pointer (some ⟨bp, 0, none⟩)] w fun e w' => e = .returned (.bool (hitB sig l t)) ∧ Below w.heap.size w w' := by
  obtain ⟨so, sc, rfl, _, _, _⟩ := Row.flat hs
  obtain ⟨a1, c1, e1, _⟩ := hl.flatI
  subst e1
  obtain ⟨a2, c2, e2, _⟩ := hr.flatI
  subst e2
  obtain ⟨a3, c3, e3, _⟩ := ht.flatI
  subst e3
  obtain ⟨w0, hw0⟩ : ∃ X, X = w.alloc (.cells #[.slice a1 l.length c1, .slice a2 r.length c2] 64) := ⟨_, rfl⟩
  have hb0 : Below w.heap.size w w0 := by rw [hw0]; exact below_alloc _
  have HM := hid (matches_any (.slice so sig.length sc) (.slice a1 l.length c1) (.slice a2 r.length c2) (.slice a3 t.length c3) sig l r t w0 (hs.kp (Kp.of_below hb0)) (hl.kp (Kp.of_below hb0)) (hr.kp (Kp.of_below hb0)) (ht.kp (Kp.of_below hb0)) (hT.below hb0) htl htt h1 h2)
  have C0 := hid hb0
  have y0 := cell_old (o := .cells #[.slice a1 l.length c1, .slice a2 r.length c2] 64) hc
  have y1 := cell_old (o := .cells #[.slice a1 l.length c1, .slice a2 r.length c2] 64) hp
  obtain ⟨Hb, hHb⟩ : ∃ Hb, Hb = hitB sig l t := ⟨_, rfl⟩
  rw [← hHb] at HM ⊢
  clear hs hl hr ht hT htl htt hb0 hHb
  go_enter Tryz.func53, Tryz.ntmps53
  go_wp2_with fail
  rw [← hw0]
  clear hw0
  refine HM.out.mono ?_
  rintro e w1 ⟨rfl, hb1⟩
  have C1 := hid (below_step C0.out hb1)
  clear hb1
  go_wp2
  go_ret
  exact ⟨rfl, C1.out⟩

set_option maxRecDepth 100000 in
set_option maxHeartbeats 800000 in
theorem indexHit_any (sv rv pv : Value) (bs bp : Nat) (sig : List Sy) (rs : List Rl) (t : List Int) (w : World) (hs : Sg w sv sig) (hr : RU w rv rs) (ht : Is w pv t) (hT : Tabs w) (hc : w.cell? ⟨bs, 0, none⟩ = some sv) (hp : w.cell? ⟨bp, 0, none⟩ = some pv) (hru : ∀ r ∈ rs, ruleE sig r = 0) (htt : termE sig t = 0) (h2 : t.length * 16 ≤ 140737488351232) :
    Calls Tryz.prog 52 #[rv, .func (.func 53) #[] #[.pointer (some ⟨bs, 0, none⟩), .pointer (some ⟨bp, 0, none⟩)]] w fun e w' => e = .returned (.int .i64 (idxL sig t 0 rs)) ∧ Below w.heap.size w w' := by
  obtain ⟨ao, cap, rfl, hao, hca, _⟩ := Row.flat hr
  unfold maxLen at hca
  have HS := hid hs
  have HR := hid hr
  have HP := hid ht
  have HT := hid hT
  have Hc := hid hc
  have Hp := hid hp
  have HRu := hid hru
  have HTt := hid htt
  obtain ⟨I, hI⟩ : ∃ I, I = idxL sig t 0 rs := ⟨_, rfl⟩
  rw [← hI]
  have HI := hid hI
  clear hs hr ht hT hc hp hru htt hI
  go_enter Tryz.func52, Tryz.ntmps52
  go_wp2
  go_loopw [8] (fun i wr => ∃ k : Nat, k ≤ rs.length ∧ i = .int .i64 k ∧ (∀ z ∈ rs.take k, hitB sig z.1 t = false) ∧ Below w.heap.size w wr) (fun i _ => rs.length - (intOf i).toNat)
  case atStart => exact ⟨0, Nat.zero_le _, rfl, by simp, Below.refl _ _⟩
  case round =>
    obtain ⟨k, hk, rfl, hno, hbl⟩ := hrel
    have HNo := hid hno
    have HB := hid hbl
    clear hno
    by_cases hlt : k < rs.length
    · obtain ⟨g, off, l, r, a1, c1, a2, c2, rfl, hm, hc0, hc1, hi1, hi2, hl1, hl2⟩ := (HR.out.kp (Kp.of_below hbl)).at hlt
      have HM := hid hm
      have HI1 := hid hi1
      have HI2 := hid hi2
      have hrp := rule_parts (HRu.out _ (List.mem_of_getElem? hm))
      have HRp := hid hrp
      have h5 : l.length * 32 ≤ 140737488351232 := by have := hrp.2.2.1; simp only at this; omega
      clear hm hi1 hi2 hbl hrp
      go_wp2_with fail
      refine (firstC_any sv _ _ pv bs bp sig l r t wr (HS.out.kp (Kp.of_below HB.out)) HI1.out HI2.out (HP.out.kp (Kp.of_below HB.out)) (HT.out.below HB.out) ((Kp.of_below HB.out).cell _ _ Hc.out) ((Kp.of_below HB.out).cell _ _ Hp.out) HRp.out.1 HTt.out h5 h2).mono ?_
      rintro e w2 ⟨rfl, hb2⟩
      have HB2 := hid (below_step HB.out hb2)
      clear hb2 hc0 hc1
      cases hv : hitB sig l t with
      | true =>
        have HF : Hid (I = (k : Int)) := by
          show _ = _
          rw [HI.out, idxL_go k HNo.out (by omega), drop_get HM.out, idxL, if_pos hv]
          omega
        clear hv
        go_wp2
        go_ret
        exact ⟨ret1i HF.out.symm, HB2.out⟩
      | false =>
        have HF : Hid (∀ z ∈ rs.take (k + 1), hitB sig z.1 t = false) := fun z hz => by
          rw [take_get HM.out] at hz
          rcases List.mem_append.1 hz with hz | hz
          · exact HNo.out z hz
          · simp at hz
            subst hz
            exact hv
        clear hv
        go_wp2
        go_roundw
        case rel => exact ⟨k + 1, by omega, by go_num, HF.out, HB2.out⟩
        case measure => simp only [intOf]; omega
    · have HF : Hid (I = -1) := by
        show _ = _
        rw [HI.out, idxL_go k HNo.out hk, List.drop_of_length_le (by omega)]
        rfl
      go_wp2
      go_ret
      exact ⟨ret1i HF.out.symm, HB.out⟩

/-- The first redex, as far as places were seen. -/
noncomputable def fstV (sig : List Sy) (rs : List Rl) (t : List Int) (vs : List (Nat × Nat)) : Rx := vs.foldl (fun r v => if idxL sig (partV t v) 0 rs < 0 then r else ((v.1 : Int), idxL sig (partV t v) 0 rs)) (0, 0)

theorem fstV_snoc (sig : List Sy) (rs : List Rl) (t : List Int) (vs : List (Nat × Nat)) (v : Nat × Nat) : fstV sig rs t (vs ++ [v]) = if idxL sig (partV t v) 0 rs < 0 then fstV sig rs t vs else ((v.1 : Int), idxL sig (partV t v) 0 rs) := by
  unfold fstV
  rw [List.foldl_append]
  rfl

/-- The state of First's look. -/
def FstI (sig : List Sy) (rs : List Rl) (t : List Int) (B : Nat) (vs : List (Nat × Nat)) (W : World) : Prop := W.heap[B]? = some (.cells #[.int .i64 (fstV sig rs t vs).1, .int .i64 (fstV sig rs t vs).2] 32)

theorem FstI.later {sig : List Sy} {rs : List Rl} {t : List Int} {B : Nat} {vs : List (Nat × Nat)} {W W' : World} (h : FstI sig rs t B vs W) (hb : Below W.heap.size W W') : FstI sig rs t B vs W' :=
  ((grown_of_below hb none).block B (Array.getElem?_eq_some_iff.1 h).1 (by simp)).trans h

/-- Whether a place stops First. -/
noncomputable def stopF (sig : List Sy) (rs : List Rl) (t : List Int) (v : Nat × Nat) : Bool := !decide (idxL sig (partV t v) 0 rs < 0)

set_option maxRecDepth 100000 in
set_option maxHeartbeats 1600000 in
theorem firstLook_any {sig : List Sy} {rs : List Rl} {t : List Int} {w0 : World} {bs B x y : Nat} {sv rv pv : Value} {vs : List (Nat × Nat)} (W : World) (hs : Sg w0 sv sig) (hr : RU w0 rv rs) (hT : Tabs w0) (hc0 : w0.cell? ⟨bs, 0, none⟩ = some sv) (hc1 : w0.cell? ⟨bs, 1, none⟩ = some rv) (hw0 : w0.heap.size ≤ B) (hok : sysB sig rs = true) (htl : t.length ≤ 1048576)
    (hv : VOk sig t (x, y)) (hI : FstI sig rs t B vs W) (hB : Below w0.heap.size w0 W) (hp : Is w0 pv (partV t (x, y))) :
    Calls Tryz.prog 51 #[.int .i64 (x : Int), pv, .pointer (some ⟨bs, 0, none⟩), .pointer (some ⟨B, 0, none⟩)] W fun e w' => e = .returned (.bool (stopF sig rs t (x, y))) ∧ FstI sig rs t B (vs ++ [(x, y)]) w' ∧ Below w0.heap.size w0 w' ∧ Keep B W w' := by
  obtain ⟨so, sc, rfl, hso, hsc, _⟩ := Row.flat hs
  obtain ⟨ro, rc, rfl, hro, hrc, _⟩ := Row.flat hr
  obtain ⟨po, pc, rfl, _⟩ := hp.flatI
  obtain ⟨hah, hru⟩ := sys_right hok
  have hse := (ahead_parts hah).1
  have hpt : termE sig (partV t (x, y)) = 0 := by
    have h9 := hv.2.2
    simp only at h9
    unfold termE partV
    rw [if_pos hse]
    exact h9
  have hpl : (partV t (x, y)).length ≤ t.length := by unfold partV; rw [List.length_take, List.length_drop]; omega
  obtain ⟨W1, hW1⟩ : ∃ X, X = W.alloc (.cells #[.slice po (partV t (x, y)).length pc] 26) := ⟨_, rfl⟩
  have hb1 : Below W.heap.size W W1 := by rw [hW1]; exact below_alloc _
  have hBw := below_step hB hb1
  have HIx := hid (indexHit_any (.slice so sig.length sc) (.slice ro rs.length rc) (.slice po (partV t (x, y)).length pc) bs W.heap.size sig rs (partV t (x, y)) W1 (hs.kp (Kp.of_below hBw)) (hr.kp (Kp.of_below hBw)) (hp.kp (Kp.of_below hBw)) (hT.below hBw) ((Kp.of_below hBw).cell _ _ hc0) (by rw [hW1]; exact cell_new rfl) hru hpt (by omega))
  have z1 := (Kp.of_below hBw).cell _ _ hc1
  rw [hW1] at z1
  have HI := hid hI
  have HBW := hid hB
  have HB1 := hid hb1
  have hbd := idxL_bound sig (partV t (x, y)) rs 0
  have HSn := hid (fstV_snoc sig rs t vs (x, y))
  have HSt : Hid (stopF sig rs t (x, y) = !decide (idxL sig (partV t (x, y)) 0 rs < 0)) := rfl
  obtain ⟨I, hIe⟩ : ∃ I, I = idxL sig (partV t (x, y)) 0 rs := ⟨_, rfl⟩
  rw [← hIe] at HIx hbd HSn HSt
  have HBd := hid hbd
  clear hs hr hT hp hc0 hc1 hok hah hru hv hI hB hse hpt hb1 hBw hIe hbd
  go_enter Tryz.func51, Tryz.ntmps51
  go_wp2_with fail
  rw [← hW1]
  clear hW1 z1
  refine HIx.out.mono ?_
  rintro e w2 ⟨rfl, hb2⟩
  have HB2 := hid (below_step HB1.out hb2)
  clear hb2 HIx
  by_cases h0 : I < 0
  · have hd : decide (I < 0) = true := by simpa using h0
    have HF : Hid (stopF sig rs t (x, y) = false) := by show _ = _; rw [HSt.out, hd]; rfl
    have HN : Hid (FstI sig rs t B (vs ++ [(x, y)]) w2) := by
      have h9 := HI.out.later HB2.out
      unfold FstI at h9 ⊢
      show _ = _
      rw [HSn.out, if_pos h0]
      exact h9
    go_wp2
    go_ret
    exact ⟨ret1b HF.out.symm, HN.out, below_step HBW.out HB2.out, Keep.of_below HB2.out⟩
  · have hd : decide (I < 0) = false := by simpa using h0
    have HF : Hid (stopF sig rs t (x, y) = true) := by show _ = _; rw [HSt.out, hd]; rfl
    have hB2 : w2.heap[B]? = some (.cells #[.int .i64 (fstV sig rs t vs).1, .int .i64 (fstV sig rs t vs).2] 32) := HI.out.later HB2.out
    have q0 := cell_of_row _ _ 0 _ _ _ hB2
    have q1 := cell_of_row _ _ 1 _ _ _ hB2
    simp only [List.getElem?_toArray, List.getElem?_cons_zero, List.getElem?_cons_succ] at q0 q1
    have f0 : w2.frozen? ⟨B, 0, none⟩ = false := frozen_of_row _ _ _ _ _ hB2
    have f1 : w2.frozen? ⟨B, 1, none⟩ = false := frozen_of_row _ _ _ _ _ hB2
    obtain ⟨Z, hZ⟩ : ∃ Z, Z = (w2.setCell ⟨B, 0, none⟩ (.int .i64 (x : Int))).setCell ⟨B, 1, none⟩ (.int .i64 I) := ⟨_, rfl⟩
    have HN : Hid (FstI sig rs t B (vs ++ [(x, y)]) Z) := by
      unfold FstI
      show _ = _
      rw [HSn.out, if_neg h0, hZ]
      exact heap_setCell_same _ _ _ _ _ _ (heap_setCell_same _ _ _ _ _ _ hB2)
    have HBz : Hid (Below w0.heap.size w0 Z) := by
      rw [hZ]
      exact ((below_step HBW.out HB2.out).setCell (p := ⟨B, 0, none⟩) hw0 _).setCell (p := ⟨B, 1, none⟩) hw0 _
    have HKz : Hid (Keep B W Z) := by
      rw [hZ]
      exact ((Keep.of_below HB2.out).trans (Keep.of_set _ _ _)).trans (Keep.of_set _ _ _)
    clear hB2
    go_wp2
    rw [← hZ]
    go_ret
    exact ⟨ret1b HF.out.symm, HN.out, HBz.out, HKz.out⟩

end Go.Proofs.YtgpbnbmjgcchfaaGreatDoor

/- First of package step walked: the whole, of a right system and a right term. -/
namespace Go.Proofs.YtgpbnbmjgcchfaaGreatDoor
open Go.RowKit Go.Maps Go.BigFrame

theorem enterFirst : ∀ args w, (callFunc 51 args).run Tryz.prog w = .ok (.enter 51 args) w := enters_of Tryz.func51 (by kernel_rfl) rfl

theorem results_cell8 {P : Program} {fn : Func} {w : World} {tmps : Array Value} {t u : Tmp} {ty : TypeId} {ad : Addr} {v : Value} (h : fn.results = #[.cell t ty, .tmp u]) (ht : tmps.getD t undef = .pointer (some ad)) (hl : (loadVar ty ad).run P w = .ok v w) : (results fn tmps).run P w = .ok (.tuple #[v, tmps.getD u undef]) w := by
  have ht2 : tmps[t]?.getD undef = .pointer (some ad) := by simpa using ht
  simp [results, h, ht2, hl, asAddr]

set_option maxRecDepth 100000 in
set_option maxHeartbeats 1600000 in
theorem first_any (sv rv tv : Value) (sig : List Sy) (rs : List Rl) (t : List Int) (w : World) (hs : Sg w sv sig) (hr : RU w rv rs) (ht : Is w tv t) (hT : Tabs w) (htl : t.length ≤ 1048576) (he : stepE sig rs t = 0) {vs : List (Nat × Nat)} (hpv : Pv sig t 0 vs) :
    Calls Tryz.prog 23 #[.agg #[sv, rv], tv] w fun e w' => e = .returned (.tuple #[.agg #[.int .i64 (fstV sig rs t (upto (stopF sig rs t) vs)).1, .int .i64 (fstV sig rs t (upto (stopF sig rs t) vs)).2], .bool (vs.any (stopF sig rs t))]) ∧ Below w.heap.size w w' := by
  obtain ⟨so, sc, rfl, hso, hsc, _⟩ := Row.flat hs
  obtain ⟨ro, rc, rfl, hro, hrc, _⟩ := Row.flat hr
  have HS := hid hs
  have HR := hid hr
  have HTt := hid ht
  have HT := hid hT
  clear hs hr ht hT
  obtain ⟨w0, hw0⟩ : ∃ X, X = (w.alloc (.cells #[.slice so sig.length sc, .slice ro rs.length rc] 25)).alloc (.cells #[.int .i64 0, .int .i64 0] 32) := ⟨_, rfl⟩
  have C0 : Hid (Below w.heap.size w w0) := by rw [hw0]; exact below_step (below_alloc _) (below_alloc _)
  have HC : Hid (∀ W, Below w0.heap.size w0 W → (W.cell? ⟨w.heap.size, 0, none⟩ = some (.slice so sig.length sc) ∧ W.cell? ⟨w.heap.size, 1, none⟩ = some (.slice ro rs.length rc)) ∧ W.heap[w.heap.size + 1]? = some (.cells #[.int .i64 0, .int .i64 0] 32)) := fun W hW => by
    have hk := Kp.of_below hW
    have e9 := heap_alloc_new (w.alloc (.cells #[.slice so sig.length sc, .slice ro rs.length rc] 25)) (.cells #[.int .i64 0, .int .i64 0] 32)
    rw [World.size_alloc, ← hw0] at e9
    have h8 := ((grown_of_below hW none).block _ (Array.getElem?_eq_some_iff.1 e9).1 (by simp)).trans e9
    rw [hw0] at hk
    exact ⟨⟨hk.cell _ _ (cell_old (cell_new rfl)), hk.cell _ _ (cell_old (cell_new rfl))⟩, h8⟩
  obtain ⟨x0, x1⟩ := (HC.out w0 (Below.refl _ _)).1
  obtain ⟨hok, hte⟩ := stepE_zero he
  have HE := hid he
  have HOk := hid hok
  have HTe := hid hte
  have HPv := hid hpv
  clear he hok hte hpv
  obtain ⟨r, hrr⟩ : ∃ r, r = fstV sig rs t (upto (stopF sig rs t) vs) := ⟨_, rfl⟩
  obtain ⟨b, hbb⟩ : ∃ b, b = vs.any (stopF sig rs t) := ⟨_, rfl⟩
  rw [← hrr, ← hbb]
  have HRr := hid hrr
  have HBb := hid hbb
  clear hrr hbb
  go_enter Tryz.func23, Tryz.ntmps23
  go_wp2_with fail
  rw [← hw0]
  clear hw0
  refine (stepCheck_any _ _ _ sig rs t w0 (HS.out.kp (Kp.of_below C0.out)) (HR.out.kp (Kp.of_below C0.out)) (HTt.out.kp (Kp.of_below C0.out)) (HT.out.below C0.out) (by omega)).mono ?_
  rintro e w1 ⟨rfl, hb1⟩
  have C1 := hid (below_step C0.out hb1)
  have D1 := hid hb1
  clear hb1 x0 x1
  rw [HE.out]
  obtain ⟨x0, x1⟩ := (HC.out w1 D1.out).1
  obtain ⟨W2, hW2⟩ : ∃ X, X = w1.alloc (.cells #[.int .i64 0, .int .i64 0] 32) := ⟨_, rfl⟩
  have b2 : Below w1.heap.size w1 W2 := by rw [hW2]; exact below_alloc _
  have hi2 : FstI sig rs t w1.heap.size [] W2 := by rw [hW2]; exact heap_alloc_new _ _
  have hLk : Lk sig t w1 w1.heap.size 51 #[.pointer (some ⟨w.heap.size, 0, none⟩), .pointer (some ⟨w1.heap.size, 0, none⟩)] (stopF sig rs t) (FstI sig rs t w1.heap.size) :=
    ⟨fun vs x y pv W hv _ hI hB hp => firstLook_any W (HS.out.kp (Kp.of_below C1.out)) (HR.out.kp (Kp.of_below C1.out)) (HT.out.below C1.out) x0 x1 (Nat.le_refl _) HOk.out htl hv hI hB hp, fun vs W W' h1 h2 => h1.later h2, enterFirst⟩
  have HGo := hid (goThrough_any hLk _ _ W2 (HS.out.kp (Kp.of_below C1.out)) (HTt.out.kp (Kp.of_below C1.out)) (by omega) HPv.out hi2 b2 (by rw [hW2]; simp))
  have y0 := (Kp.of_below b2).cell _ _ x0
  rw [hW2] at y0
  clear hi2 hLk b2 x0 x1
  go_wp2_with fail
  rw [← hW2]
  clear hW2 y0
  refine HGo.out.mono ?_
  rintro e w3 ⟨rfl, hI3, hB3, _⟩
  unfold FstI at hI3
  rw [← HRr.out] at hI3
  rw [← HBb.out]
  have C3 := hid (below_step C1.out hB3)
  have h3 := (HC.out w3 (below_step D1.out hB3)).2
  have q0 := cell_of_row _ _ 0 _ _ _ hI3
  have q1 := cell_of_row _ _ 1 _ _ _ hI3
  have p0 := cell_of_row _ _ 0 _ _ _ h3
  have p1 := cell_of_row _ _ 1 _ _ _ h3
  simp only [List.getElem?_toArray, List.getElem?_cons_zero, List.getElem?_cons_succ] at q0 q1 p0 p1
  have f0 : w3.frozen? ⟨w.heap.size + 1, 0, none⟩ = false := frozen_of_row _ _ _ _ _ h3
  have f1 : w3.frozen? ⟨w.heap.size + 1, 1, none⟩ = false := frozen_of_row _ _ _ _ _ h3
  obtain ⟨Z, hZ⟩ : ∃ Z, Z = (w3.setCell ⟨w.heap.size + 1, 0, none⟩ (.int .i64 r.1)).setCell ⟨w.heap.size + 1, 1, none⟩ (.int .i64 r.2) := ⟨_, rfl⟩
  have HBz : Hid (Below w.heap.size w Z) := by
    rw [hZ]
    exact (C3.out.setCell (p := ⟨w.heap.size + 1, 0, none⟩) (by simp) _).setCell (p := ⟨w.heap.size + 1, 1, none⟩) (by simp) _
  have hz : Z.heap[w.heap.size + 1]? = some (.cells #[.int .i64 r.1, .int .i64 r.2] 32) := by
    rw [hZ]
    exact heap_setCell_same _ _ _ _ _ _ (heap_setCell_same _ _ _ _ _ _ h3)
  have z0 := cell_of_row _ _ 0 _ _ _ hz
  have z1 := cell_of_row _ _ 1 _ _ _ hz
  simp only [List.getElem?_toArray, List.getElem?_cons_zero, List.getElem?_cons_succ] at z0 z1
  clear hI3 hB3 HGo h3 hz
  go_wp2
  rw [← hZ]
  (try simp only [Exit.inBlock, Exit.then])
  clear hZ q0 q1 p0 p1 f0 f1
  refine bodyPost_ret (results_cell8 (t := 4) (u := 5) (ty := 32) (ad := ⟨w.heap.size + 1, 0, none⟩) (v := .agg #[.int .i64 r.1, .int .i64 r.2]) rfl rfl (by go_simp)) rfl ?_
  exact ⟨rfl, HBz.out⟩

end Go.Proofs.YtgpbnbmjgcchfaaGreatDoor

/- What the document's Shift answers. -/
namespace Go.Proofs.YtgpbnbmjgcchfaaGreatDoor
open Go.RowKit Go.Maps Go.BigFrame

set_option maxRecDepth 100000 in
set_option maxHeartbeats 1600000 in
theorem refShift_any (v : Value) (t : List Int) (d : Int) (w : World) (h : Is w v t) (hb : t.length * 8 ≤ 140737488351232) (hd1 : -9223372036854775808 ≤ d) (hd2 : d ≤ 9223372036854775807) :
    Calls Tryz.prog 24 #[v, .int .i64 d] w fun e w' => ∃ v', e = .returned (.tuple #[v', .int .i64 (shiftE d t)]) ∧ OwI w' w.heap.size v' (shiftL d t) ∧ Below w.heap.size w w' := by
  obtain ⟨ao, cap, rfl, hao, hca, q0⟩ := Row.flat h
  unfold maxLen at hca
  have HT := hid h
  clear h q0
  go_enter Tryz.func24, Tryz.ntmps24
  go_wp2
  go_loopw [6, 7] (fun x i wr => ∃ k : Nat, k ≤ t.length ∧ i = .int .i64 k ∧ (∀ c ∈ t.take k, c < 0 → isVarB (-1 - c + d) = true) ∧ OwI wr w.heap.size x ((t.take k).map fun c => if c < 0 then c - d else c) ∧ Below w.heap.size w wr) (fun _ i _ => t.length - (intOf i).toNat)
  case atStart => exact ⟨0, Nat.zero_le _, rfl, fun c hc => (by simp at hc), ⟨fun k x hk => (by simp at hk), empty_row _ (Nat.le_refl _)⟩, below_alloc _⟩
  case round =>
    obtain ⟨k, hk, rfl, hpre, how, hbl⟩ := hrel
    have hol : ((t.take k).map fun c => if c < 0 then c - d else c).length = k := by rw [List.length_map, List.length_take]; omega
    obtain ⟨bo, bc, hv, hbc1, hbc2⟩ := how.shape
    rw [hol] at hv hbc1
    subst hv
    unfold maxLen at hbc2
    have HPre := hid hpre
    have HOw := hid how
    have HB := hid hbl
    have HOl := hid hol
    clear hpre how hol
    by_cases hlt : k < t.length
    · obtain ⟨ga, off, c, rfl, hx1, hx2, hx3, hx4⟩ := (HT.out.kp (Kp.of_below hbl)).at hlt
      have HG := hid hx1
      have HMem : Hid (c ∈ t) := List.mem_of_getElem? hx1
      have HPre2' : (c < 0 → isVarB (-1 - c + d) = true) → ∀ x ∈ t.take (k + 1), x < 0 → isVarB (-1 - x + d) = true := fun hcv x hx h0 => by
        rw [List.take_add_one, HG.out, List.mem_append] at hx
        rcases hx with hx | hx
        · exact HPre.out x hx h0
        · simp at hx
          subst hx
          exact hcv h0
      have HPq := hid HPre2'
      clear hx1 hbl HPre2'
      obtain ⟨n, hn⟩ : ∃ n, n = -1 - c := ⟨_, rfl⟩
      have hwn : IntKind.i64.wrap (-1 - c) = n := by rw [hn]; exact IntWalk.i64_in _ ⟨by omega, by omega⟩
      by_cases hc0 : 0 ≤ c
      · have HPre2 := hid (HPq.out (fun h => absurd h (by omega)))
        have hcn : ¬ c < 0 := by omega
        obtain ⟨v4, w4, hr4, ho4, hg4⟩ := join_ints 26 (u := .slice (some ⟨wr.heap.size, 0, none⟩) 1 1) (es := [c]) (HOw.out.later (below_alloc (.cells #[.int .i64 (c)] 3))) (is_new wr [c] _ (by intro x hx; simp at hx; omega) (by simp)) (b1 HB.out).size (by rw [HOl.out]; simp; omega)
        have HR4 := hid hr4
        have HO4 : Hid (OwI w4 w.heap.size v4 ((t.take (k + 1)).map fun c => if c < 0 then c - d else c)) := by
          have h9 := ho4
          rw [List.take_add_one, HG.out, List.map_append]
          simp only [Option.toList, List.map_cons, List.map_nil, if_neg hcn]
          exact h9
        have HB4 : Hid (Below w.heap.size w w4) := (b1 HB.out).grown hg4 (b1 HB.out).size (fun j hj => own_blk HOw.out.2 hj)
        clear hr4 ho4 hg4
        go_wp2_with (first
          | (at_builtin; refine wpList_append_run rfl _ _ _ rfl _ _ rfl rfl HR4.out ?_))
        go_roundw
        case rel => exact ⟨k + 1, by omega, by go_num, HPre2.out, HO4.out, HB4.out⟩
        case measure => simp [intOf]; omega
      · have hcn : c < 0 := by omega
        by_cases hv : isVarB (-1 - c + d) = true
        · have HPre2 := hid (HPq.out (fun _ => hv))
          have hv2 := isVarB_iff.1 hv
          obtain ⟨m, hm⟩ : ∃ m, m = n + d := ⟨_, rfl⟩
          obtain ⟨y, hy⟩ : ∃ y, y = c - d := ⟨_, rfl⟩
          have hwm : IntKind.i64.wrap (n + d) = m := by rw [hm]; exact IntWalk.i64_in _ ⟨by omega, by omega⟩
          have hwy : IntKind.i64.wrap (-1 - m) = y := by rw [IntWalk.i64_in _ ⟨by omega, by omega⟩]; omega
          have hdm : ¬ 1048576 ≤ d := by omega
          have hm0 : ¬ m < 0 := by omega
          have hm1 : ¬ 1048576 ≤ m := by omega
          by_cases hd0 : 0 ≤ d
          · have hwd : IntKind.i64.wrap (1048576 - d) = 1048576 - d := IntWalk.i64_in _ ⟨by omega, by omega⟩
            have hnd : ¬ 1048576 - d ≤ n := by omega
            obtain ⟨v4, w4, hr4, ho4, hg4⟩ := join_ints 26 (u := .slice (some ⟨wr.heap.size, 0, none⟩) 1 1) (es := [y]) (HOw.out.later (below_alloc (.cells #[.int .i64 (y)] 3))) (is_new wr [y] _ (by intro x hx; simp at hx; omega) (by simp)) (b1 HB.out).size (by rw [HOl.out]; simp; omega)
            have HR4 := hid hr4
            have HO4 : Hid (OwI w4 w.heap.size v4 ((t.take (k + 1)).map fun c => if c < 0 then c - d else c)) := by
              have h9 := ho4
              rw [List.take_add_one, HG.out, List.map_append]
              simp only [Option.toList, List.map_cons, List.map_nil, if_pos hcn, ← hy]
              exact h9
            have HB4 : Hid (Below w.heap.size w w4) := (b1 HB.out).grown hg4 (b1 HB.out).size (fun j hj => own_blk HOw.out.2 hj)
            clear hr4 ho4 hg4 hn hm hy hv hv2
            go_wp2_with (first
              | (at_builtin; refine wpList_append_run rfl _ _ _ rfl _ _ rfl rfl HR4.out ?_))
            go_roundw
            case rel => exact ⟨k + 1, by omega, by go_num, HPre2.out, HO4.out, HB4.out⟩
            case measure => simp [intOf]; omega
          · have hnd : ¬ 0 ≤ d := hd0
            obtain ⟨v4, w4, hr4, ho4, hg4⟩ := join_ints 26 (u := .slice (some ⟨wr.heap.size, 0, none⟩) 1 1) (es := [y]) (HOw.out.later (below_alloc (.cells #[.int .i64 (y)] 3))) (is_new wr [y] _ (by intro x hx; simp at hx; omega) (by simp)) (b1 HB.out).size (by rw [HOl.out]; simp; omega)
            have HR4 := hid hr4
            have HO4 : Hid (OwI w4 w.heap.size v4 ((t.take (k + 1)).map fun c => if c < 0 then c - d else c)) := by
              have h9 := ho4
              rw [List.take_add_one, HG.out, List.map_append]
              simp only [Option.toList, List.map_cons, List.map_nil, if_pos hcn, ← hy]
              exact h9
            have HB4 : Hid (Below w.heap.size w w4) := (b1 HB.out).grown hg4 (b1 HB.out).size (fun j hj => own_blk HOw.out.2 hj)
            clear hr4 ho4 hg4 hn hm hy hv hv2
            go_wp2_with (first
              | (at_builtin; refine wpList_append_run rfl _ _ _ rfl _ _ rfl rfl HR4.out ?_))
            go_roundw
            case rel => exact ⟨k + 1, by omega, by go_num, HPre2.out, HO4.out, HB4.out⟩
            case measure => simp [intOf]; omega
        · have HE : Hid (shiftE d t = 40 ∧ shiftL d t = []) := by
            have hno : ¬ okShift d t = true := fun h => hv (by
              have := List.all_eq_true.1 h c HMem.out
              simpa [hcn] using this)
            exact ⟨by unfold shiftE; rw [if_neg hno], by unfold shiftL; rw [if_neg hno]⟩
          have hv2 : ¬ (0 ≤ -1 - c + d ∧ -1 - c + d < 1048576) := fun h => hv (isVarB_iff.2 h)
          obtain ⟨m, hm⟩ : ∃ m, m = n + d := ⟨_, rfl⟩
          by_cases hd9 : 1048576 ≤ d
          · go_wp2
            go_ret2
            exact ⟨_, ret2i HE.out.1.symm, by rw [HE.out.2]; exact nilI _ _, HB.out⟩
          · by_cases hd0 : 0 ≤ d
            · have hwd : IntKind.i64.wrap (1048576 - d) = 1048576 - d := IntWalk.i64_in _ ⟨by omega, by omega⟩
              have hnd : 1048576 - d ≤ n := by omega
              go_wp2
              go_ret2
              exact ⟨_, ret2i HE.out.1.symm, by rw [HE.out.2]; exact nilI _ _, HB.out⟩
            · have hwm : IntKind.i64.wrap (n + d) = m := by rw [hm]; exact IntWalk.i64_in _ ⟨by omega, by omega⟩
              by_cases hm0 : m < 0
              · go_wp2
                go_ret2
                exact ⟨_, ret2i HE.out.1.symm, by rw [HE.out.2]; exact nilI _ _, HB.out⟩
              · have hm1 : 1048576 ≤ m := by omega
                go_wp2
                go_ret2
                exact ⟨_, ret2i HE.out.1.symm, by rw [HE.out.2]; exact nilI _ _, HB.out⟩
    · have hke : k = t.length := by omega
      subst hke
      have HE : Hid (shiftE d t = 0 ∧ shiftL d t = t.map fun c => if c < 0 then c - d else c) := by
        have h9 := HPre.out
        rw [List.take_length] at h9
        have hok : okShift d t = true := List.all_eq_true.2 fun c hc => by
          by_cases h0 : c < 0
          · simp [h9 c hc h0]
          · simp [h0]
        exact ⟨by unfold shiftE; rw [if_pos hok], by unfold shiftL; rw [if_pos hok]⟩
      rw [List.take_length] at HOw
      go_wp2
      go_ret2
      exact ⟨_, ret2i HE.out.1.symm, by rw [HE.out.2]; exact HOw.out, HB.out⟩

end Go.Proofs.YtgpbnbmjgcchfaaGreatDoor


/- Shift, and back. -/
namespace Go.Proofs.YtgpbnbmjgcchfaaGreatDoor
open Go.RowKit Go.Maps

theorem isVarB_iff2 {n : Int} : isVarB n = true ↔ 0 ≤ n ∧ n < 1048576 := isVarB_iff

theorem shift_cell {d c : Int} (h : c < 0 → isVarB (-1 - c + d) = true) : (if c < 0 then c - d else c) < 0 ↔ c < 0 := by
  by_cases hc : c < 0
  · have := isVarB_iff2.1 (h hc)
    rw [if_pos hc]
    omega
  · rw [if_neg hc]

theorem okShift_cons (d c : Int) (t : List Int) : okShift d (c :: t) = true ↔ (c < 0 → isVarB (-1 - c + d) = true) ∧ okShift d t = true := by
  unfold okShift
  rw [List.all_cons, Bool.and_eq_true]
  refine and_congr_left fun _ => ?_
  by_cases hc : c < 0
  · simp [hc]
  · simp [hc]

/-- What was shifted is shifted back just if all numbers were those of variables. -/
theorem shift_back (d : Int) : ∀ t : List Int, okShift d t = true → (okShift (-d) (t.map fun c => if c < 0 then c - d else c) = true ↔ ∀ c ∈ t, -1048576 ≤ c) ∧ ((t.map fun c => if c < 0 then c - d else c).map fun c => if c < 0 then c - -d else c) = t
  | [], _ => ⟨⟨fun _ c hc => (by cases hc), fun _ => rfl⟩, rfl⟩
  | c :: t, h => by
    obtain ⟨h1, h2⟩ := (okShift_cons d c t).1 h
    obtain ⟨h3, h4⟩ := shift_back d t h2
    have hs := shift_cell h1
    refine ⟨?_, ?_⟩
    · rw [List.map_cons, okShift_cons, h3, hs]
      refine ⟨fun ⟨k1, k2⟩ x hx => ?_, fun k => ⟨fun hc => ?_, fun x hx => k x (.tail _ hx)⟩⟩
      · cases hx with
        | head =>
          by_cases hc : c < 0
          · have := k1 hc
            rw [if_pos hc, isVarB_iff2] at this
            omega
          · omega
        | tail _ hx => exact k2 x hx
      · have := k c (.head _)
        rw [if_pos hc, isVarB_iff2]
        omega
    · rw [List.map_cons, List.map_cons, h4]
      congr 1
      by_cases hc : c < 0
      · rw [if_pos (hs.2 hc), if_pos hc]
        omega
      · rw [if_neg (fun h => hc (hs.1 h)), if_neg hc]

end Go.Proofs.YtgpbnbmjgcchfaaGreatDoor
