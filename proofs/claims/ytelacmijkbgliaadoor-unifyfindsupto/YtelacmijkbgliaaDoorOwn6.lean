/- Texts of the proof, one behind the other. -/
import Derived.Test.YtelacmijkbgliaaDoorOwn5
import Derived.Test.YtelacmijkbgliaaDoorOwn4
/- Counting the nodes of classes, plainly: what holds between the rounds of count. -/
namespace Go.Proofs.YtelacmijkbgliaaDoor
open Go.RowKit Go.Maps Go.BigFrame

/-- A length, cut off. -/
def cutL (n : Nat) : Int := if n < 513 then (n : Int) else 513

theorem sumC_len {cnt : Nat → Int} {ps : List Nat} {ts : List (List Int)} (hl : ts.length = ps.length) (h : ∀ (k p : Nat) (t : List Int), ps[k]? = some p → ts[k]? = some t → cnt p = cutL t.length) : sumC cnt ps = cutL (1 + ts.flatten.length) := by
  unfold sumC
  have key : ∀ (ps : List Nat) (ts : List (List Int)) (n : Nat), 1 ≤ n → ts.length = ps.length → (∀ (k p : Nat) (t : List Int), ps[k]? = some p → ts[k]? = some t → cnt p = cutL t.length) → ps.foldl (fun s p => if s + cnt p < 513 then s + cnt p else 513) (cutL n) = cutL (n + ts.flatten.length) := by
    intro ps
    induction ps with
    | nil =>
      intro ts n _ hl _
      have : ts = [] := List.eq_nil_of_length_eq_zero (by simpa using hl)
      subst this
      simp
    | cons p ps ih =>
      intro ts n hn hl h
      cases ts with
      | nil => simp at hl
      | cons t ts =>
        have h0 := h 0 p t rfl rfl
        have e : (if cutL n + cnt p < 513 then cutL n + cnt p else 513) = cutL (n + t.length) := by
          rw [h0]
          unfold cutL
          split <;> split <;> split <;> split <;> omega
        rw [List.foldl_cons, e, ih ts (n + t.length) (by omega) (by simpa using hl) (fun k p t hk ht => h (k + 1) p t (by simpa using hk) (by simpa using ht)), List.flatten_cons, List.length_append, Nat.add_assoc]
  have h1 := key ps ts 1 (by omega) hl h
  rw [← h1]
  rfl

theorem pts_iff {M : List Nm} {root face : Nat → Nat} {q d : Nat} : d ∈ ptsN M root (face q) ↔ Pt (M.map Nm.nd) root face q d := by
  unfold ptsN Pt
  cases hm : M[face q]? with
  | none =>
    simp only [Option.map_none, List.not_mem_nil, false_iff]
    rintro ⟨s, xs, x, h1, _⟩
    rw [List.getElem?_map, hm] at h1
    cases h1
  | some m =>
    simp only [Option.map_some]
    cases hn : m.nd with
    | var n =>
      simp only [List.not_mem_nil, false_iff]
      rintro ⟨s, xs, x, h1, _⟩
      rw [List.getElem?_map, hm, Option.map_some, hn] at h1
      cases h1
    | app c xs =>
      simp only
      constructor
      · intro h
        obtain ⟨x, hx, rfl⟩ := List.mem_map.1 h
        exact ⟨c, xs, x, by rw [List.getElem?_map, hm, Option.map_some, hn], hx, rfl⟩
      · rintro ⟨s, ys, x, h1, h2, rfl⟩
        rw [List.getElem?_map, hm, Option.map_some, hn] at h1
        cases h1
        exact List.mem_map.2 ⟨x, h2, rfl⟩

/-- What holds between the rounds. -/
structure CI (M : List Nm) (root face : Nat → Nat) (r : Nat) (cnt : Nat → Int) (O : List Nat) : Prop where
  st : ∀ i, i < M.length → root i = i → cnt i = 0 ∨ cnt i = -1 ∨ ∃ t, TmC (M.map Nm.nd) root face i t ∧ cnt i = cutL t.length
  el : ∀ q ∈ O, q < M.length ∧ root q = q
  op : ∀ q, q < M.length → root q = q → cnt q = -1 → ∃ s : Nat, O[s]? = some q ∧ (∀ d, Pt (M.map Nm.nd) root face q d → 0 < cnt d ∨ ∃ s' : Nat, s < s' ∧ O[s']? = some d) ∧ ∀ (s' e : Nat), s < s' → O[s']? = some e → Rch (M.map Nm.nd) root face q e ∧ e ≠ q
  go : 0 < cnt r ∨ O[0]? = some r
  dn : ∀ q, q < M.length → root q = q → 0 < cnt q → ∀ d, Pt (M.map Nm.nd) root face q d → 0 < cnt d

theorem cut_pos {n : Nat} (h : 0 < n) : 0 < cutL n ∧ cutL n ≤ 513 := by unfold cutL; split <;> omega

theorem tm_pos {L : List Nd} {root face : Nat → Nat} {c : Nat} {t : List Int} (h : TmC L root face c t) : 0 < t.length := by
  cases h <;> simp

theorem ci_pos {M : List Nm} {root face : Nat → Nat} {r : Nat} {cnt : Nat → Int} {O : List Nat} (h : CI M root face r cnt O) {i : Nat} (hi : i < M.length) (hr : root i = i) : cnt i ≤ 513 ∧ -1 ≤ cnt i := by
  rcases h.st i hi hr with h1 | h1 | ⟨t, ht, h1⟩
  · omega
  · omega
  · have := cut_pos (tm_pos ht)
    omega

theorem last_at {O' : List Nat} {q s d : Nat} (h : (O' ++ [q])[s]? = some d) : O'[s]? = some d ∨ (s = O'.length ∧ d = q) := by
  by_cases hs : s < O'.length
  · rw [List.getElem?_append_left hs] at h
    exact .inl h
  · have hl := (List.getElem?_eq_some_iff.1 h).1
    rw [List.length_append, List.length_singleton] at hl
    have e : s = O'.length := by omega
    subst e
    rw [List.getElem?_append_right (Nat.le_refl _), Nat.sub_self] at h
    cases h
    exact .inr ⟨rfl, rfl⟩

/-- A class that is counted is taken off. -/
theorem ci_pop {M : List Nm} {root face : Nat → Nat} {r q : Nat} {cnt : Nat → Int} {O' : List Nat} (h : CI M root face r cnt (O' ++ [q])) (h0 : cnt q ≠ 0) (h1 : cnt q ≠ -1) : CI M root face r cnt O' := by
  obtain ⟨hql, hqr⟩ := h.el q (by simp)
  have hqp : 0 < cnt q := by
    rcases h.st q hql hqr with h2 | h2 | ⟨t, ht, h2⟩
    · exact absurd h2 h0
    · exact absurd h2 h1
    · have := cut_pos (tm_pos ht)
      omega
  refine ⟨h.st, fun x hx => h.el x (by simp [hx]), fun x hx hxr hxc => ?_, ?_, h.dn⟩
  · obtain ⟨s, s1, s2, s3⟩ := h.op x hx hxr hxc
    rcases last_at s1 with s1 | ⟨_, rfl⟩
    · refine ⟨s, s1, fun d hd => ?_, fun s' e hs he => s3 s' e hs (by rw [List.getElem?_append_left (List.getElem?_eq_some_iff.1 he).1]; exact he)⟩
      rcases s2 d hd with h2 | ⟨s', h3, h4⟩
      · exact .inl h2
      · rcases last_at h4 with h4 | ⟨_, rfl⟩
        · exact .inr ⟨s', h3, h4⟩
        · exact .inl hqp
    · exact absurd hxc h1
  · rcases h.go with h2 | h2
    · exact .inl h2
    · rcases last_at h2 with h2 | ⟨_, rfl⟩
      · exact .inr h2
      · exact .inl hqp

/-- The parts of a class that is to be finished. -/
theorem ci_parts {M : List Nm} {root face : Nat → Nat} {r q : Nat} {cnt : Nat → Int} {O' : List Nat} (h : CI M root face r cnt (O' ++ [q])) (h1 : cnt q = -1) : ∀ d, Pt (M.map Nm.nd) root face q d → d ≠ q ∧ 0 < cnt d := fun d hd => by
  obtain ⟨hql, hqr⟩ := h.el q (by simp)
  obtain ⟨s, s1, s2, s3⟩ := h.op q hql hqr h1
  have hs : s = O'.length := by
    rcases last_at s1 with s4 | ⟨s4, _⟩
    · have hlt := (List.getElem?_eq_some_iff.1 s4).1
      exact absurd rfl (s3 O'.length q hlt (by rw [List.getElem?_append_right (Nat.le_refl _), Nat.sub_self]; rfl)).2
    · exact s4
  have hp : 0 < cnt d := by
    rcases s2 d hd with h2 | ⟨s', h3, h4⟩
    · exact h2
    · have := (List.getElem?_eq_some_iff.1 h4).1
      rw [List.length_append, List.length_singleton] at this
      omega
  exact ⟨fun e => by subst e; omega, hp⟩

/-- A class whose parts are counted is, and is taken off. -/
theorem ci_fin {sig : List Sy} {M : List Nm} (hL : NdOk sig (M.map Nm.nd)) {root face : Nat → Nat} (hc : ClOk (M.map Nm.nd) root face) {r q : Nat} {cnt : Nat → Int} {O' : List Nat} (h : CI M root face r cnt (O' ++ [q])) (h1 : cnt q = -1) : CI M root face r (fun j => if j = q then sumC cnt (ptsN M root (face q)) else cnt j) O' := by
  have hlen : (M.map Nm.nd).length = M.length := by rw [List.length_map]
  obtain ⟨hql, hqr⟩ := h.el q (by simp)
  have hps := ci_parts h h1
  have hfl := hc.face_lt q (by omega)
  rw [hqr] at hfl
  obtain ⟨mf, hmf⟩ : ∃ m, M[face q]? = some m := ⟨_, List.getElem?_eq_getElem (by omega)⟩
  have hLf : (M.map Nm.nd)[face q]? = some mf.nd := by rw [List.getElem?_map, hmf]; rfl
  have htm : ∃ t, TmC (M.map Nm.nd) root face q t ∧ sumC cnt (ptsN M root (face q)) = cutL t.length := by
    cases hn : mf.nd with
    | var n =>
      rw [hn] at hLf
      refine ⟨_, TmC.var hLf, ?_⟩
      unfold ptsN
      rw [hmf]
      simp only [Option.map_some, hn]
      rfl
    | app c xs =>
      rw [hn] at hLf
      have hall : ∀ x ∈ xs, ∃ t, TmC (M.map Nm.nd) root face (root x) t ∧ cnt (root x) = cutL t.length := fun x hx => by
        have hxl := Nat.lt_trans (hL.ahead _ _ _ hLf x hx) (List.getElem?_eq_some_iff.1 hLf).1
        obtain ⟨p1, p2⟩ := hps (root x) ⟨c, xs, x, hLf, hx, rfl⟩
        rcases h.st (root x) (by have := hc.lt x hxl; omega) (hc.idem x hxl) with h2 | h2 | h2
        · omega
        · omega
        · exact h2
      obtain ⟨ts, hts1, hts2⟩ : ∃ ts : List (List Int), ts.length = xs.length ∧ ∀ (k x : Nat) (t : List Int), xs[k]? = some x → ts[k]? = some t → TmC (M.map Nm.nd) root face (root x) t ∧ cnt (root x) = cutL t.length := by
        clear hLf hn hmf
        induction xs with
        | nil => exact ⟨[], rfl, fun k x t hk => by simp at hk⟩
        | cons x xs ih =>
          obtain ⟨t, ht⟩ := hall x (by simp)
          obtain ⟨ts, i1, i2⟩ := ih (fun y hy => hall y (by simp [hy]))
          refine ⟨t :: ts, by simp [i1], fun k y u hk hu => ?_⟩
          cases k with
          | zero =>
            simp only [List.getElem?_cons_zero, Option.some.injEq] at hk hu
            subst hk hu
            exact ht
          | succ k => exact i2 k y u (by simpa using hk) (by simpa using hu)
      refine ⟨c :: ts.flatten, TmC.app hLf hts1 (fun k x t hx ht => (hts2 k x t hx ht).1), ?_⟩
      unfold ptsN
      rw [hmf]
      simp only [Option.map_some, hn]
      rw [sumC_len (ts := ts) (by rw [List.length_map]; exact hts1) (fun k p t hp ht => by
        rw [List.getElem?_map] at hp
        cases hx : xs[k]? with
        | none => rw [hx] at hp; cases hp
        | some x =>
          rw [hx] at hp
          cases hp
          exact (hts2 k x t hx ht).2), List.length_cons, Nat.add_comm]
  obtain ⟨t, ht, hst⟩ := htm
  have hpos : 0 < sumC cnt (ptsN M root (face q)) := by rw [hst]; exact (cut_pos (tm_pos ht)).1
  have hup : ∀ d, 0 < cnt d → 0 < (if d = q then sumC cnt (ptsN M root (face q)) else cnt d) := fun d hd => by
    split
    · exact hpos
    · exact hd
  refine ⟨fun i hi hr => ?_, fun x hx => h.el x (by simp [hx]), fun x hx hxr hxc => ?_, ?_, fun x hx hxr hxc d hd => ?_⟩
  · by_cases e : i = q
    · subst e
      simp only [if_true]
      exact .inr (.inr ⟨t, ht, hst⟩)
    · simp only [if_neg e]
      exact h.st i hi hr
  · by_cases e : x = q
    · simp only [if_pos e] at hxc
      omega
    · simp only [if_neg e] at hxc
      obtain ⟨s, s1, s2, s3⟩ := h.op x hx hxr hxc
      rcases last_at s1 with s1 | ⟨_, rfl⟩
      · refine ⟨s, s1, fun d hd => ?_, fun s' e hs he => s3 s' e hs (by rw [List.getElem?_append_left (List.getElem?_eq_some_iff.1 he).1]; exact he)⟩
        rcases s2 d hd with h2 | ⟨s', h3, h4⟩
        · exact .inl (hup d h2)
        · rcases last_at h4 with h4 | ⟨_, rfl⟩
          · exact .inr ⟨s', h3, h4⟩
          · simp only [if_true]
            exact .inl hpos
      · exact absurd rfl e
  · rcases h.go with h2 | h2
    · exact .inl (hup r h2)
    · rcases last_at h2 with h2 | ⟨_, rfl⟩
      · exact .inr h2
      · simp only [if_true]
        exact .inl hpos
  · by_cases e : x = q
    · subst e
      exact hup d (hps d hd).2
    · rw [if_neg e] at hxc
      exact hup d (h.dn x hx hxr hxc d hd)

/-- A class is opened: its parts wait. -/
theorem ci_push {sig : List Sy} {M : List Nm} (hL : NdOk sig (M.map Nm.nd)) {root face : Nat → Nat} (hc : ClOk (M.map Nm.nd) root face) {r q : Nat} {cnt : Nat → Int} {O' : List Nat} (h : CI M root face r cnt (O' ++ [q])) (h0 : cnt q = 0) (hn : ∀ d ∈ ptsN M root (face q), (if d = q then (-1 : Int) else cnt d) ≠ -1) : CI M root face r (fun j => if j = q then -1 else cnt j) (O' ++ [q] ++ ptsN M root (face q)) := by
  have hlen : (M.map Nm.nd).length = M.length := by rw [List.length_map]
  obtain ⟨hql, hqr⟩ := h.el q (by simp)
  have hpr : ∀ d, Pt (M.map Nm.nd) root face q d → d < M.length ∧ root d = d := fun d ⟨s, xs, x, h1, h2, e⟩ => by
    have hxl := Nat.lt_trans (hL.ahead _ _ _ h1 x h2) (List.getElem?_eq_some_iff.1 h1).1
    subst e
    exact ⟨by have := hc.lt x hxl; omega, hc.idem x hxl⟩
  have hup : ∀ d, 0 < cnt d → 0 < (if d = q then (-1 : Int) else cnt d) := fun d hd => by
    split
    · rename_i e
      subst e
      omega
    · exact hd
  have hl1 : (O' ++ [q]).length = O'.length + 1 := by simp
  refine ⟨fun i hi hr => ?_, fun x hx => ?_, fun x hx hxr hxc => ?_, ?_, fun x hx hxr hxc d hd => ?_⟩
  · by_cases e : i = q
    · simp only [if_pos e]
      exact .inr (.inl trivial)
    · simp only [if_neg e]
      exact h.st i hi hr
  · rcases List.mem_append.1 hx with hx | hx
    · exact h.el x hx
    · exact hpr x (pts_iff.1 hx)
  · by_cases e : x = q
    · subst e
      refine ⟨O'.length, by rw [List.getElem?_append_left (by omega), List.getElem?_append_right (Nat.le_refl _), Nat.sub_self]; rfl, fun d hd => ?_, fun s' e9 hs he => ?_⟩
      · obtain ⟨k, hk⟩ := List.getElem?_of_mem (pts_iff.2 hd)
        exact .inr ⟨O'.length + 1 + k, by omega, by rw [List.getElem?_append_right (by omega), hl1, show O'.length + 1 + k - (O'.length + 1) = k by omega]; exact hk⟩
      · rw [List.getElem?_append_right (by omega)] at he
        have hm := List.mem_of_getElem? he
        refine ⟨.one (pts_iff.1 hm), fun e => ?_⟩
        subst e
        exact hn _ hm (by rw [if_pos rfl])
    · simp only [if_neg e] at hxc
      obtain ⟨s, s1, s2, s3⟩ := h.op x hx hxr hxc
      have hsl := (List.getElem?_eq_some_iff.1 s1).1
      have hsq : s < O'.length := by
        rcases last_at s1 with s4 | ⟨_, s4⟩
        · exact (List.getElem?_eq_some_iff.1 s4).1
        · exact absurd s4 e
      have hrq := (s3 O'.length q hsq (by rw [List.getElem?_append_right (Nat.le_refl _), Nat.sub_self]; rfl)).1
      refine ⟨s, by rw [List.getElem?_append_left hsl]; exact s1, fun d hd => ?_, fun s' e9 hs he => ?_⟩
      · rcases s2 d hd with h2 | ⟨s', h3, h4⟩
        · exact .inl (hup d h2)
        · exact .inr ⟨s', h3, by rw [List.getElem?_append_left (List.getElem?_eq_some_iff.1 h4).1]; exact h4⟩
      · by_cases hs2 : s' < (O' ++ [q]).length
        · rw [List.getElem?_append_left hs2] at he
          exact s3 s' e9 hs he
        · rw [List.getElem?_append_right (by omega)] at he
          have hm := List.mem_of_getElem? he
          refine ⟨.more hrq (pts_iff.1 hm), fun e8 => ?_⟩
          subst e8
          exact hn _ hm (by rw [if_neg e]; exact hxc)
  · rcases h.go with h2 | h2
    · exact .inl (hup r h2)
    · exact .inr (by rw [List.getElem?_append_left (List.getElem?_eq_some_iff.1 h2).1]; exact h2)
  · by_cases e : x = q
    · rw [if_pos e] at hxc
      omega
    · rw [if_neg e] at hxc
      exact hup d (h.dn x hx hxr hxc d hd)

/-- A part that is open: a circle. -/
theorem ci_circle {sig : List Sy} {M : List Nm} (hL : NdOk sig (M.map Nm.nd)) {root face : Nat → Nat} (hc : ClOk (M.map Nm.nd) root face) {r q d : Nat} {cnt : Nat → Int} {O' : List Nat} (h : CI M root face r cnt (O' ++ [q])) (hd : d ∈ ptsN M root (face q)) (hn : (if d = q then (-1 : Int) else cnt d) = -1) : ∃ c, c < M.length ∧ root c = c ∧ Rch (M.map Nm.nd) root face c c := by
  have hlen : (M.map Nm.nd).length = M.length := by rw [List.length_map]
  obtain ⟨hql, hqr⟩ := h.el q (by simp)
  have hp := pts_iff.1 hd
  by_cases e : d = q
  · subst e
    exact ⟨d, hql, hqr, .one hp⟩
  · rw [if_neg e] at hn
    obtain ⟨s9, xs, x, h1, h2, e9⟩ := hp
    have hxl := Nat.lt_trans (hL.ahead _ _ _ h1 x h2) (List.getElem?_eq_some_iff.1 h1).1
    have hdl : d < M.length ∧ root d = d := by subst e9; exact ⟨by have := hc.lt x hxl; omega, hc.idem x hxl⟩
    obtain ⟨s, s1, s2, s3⟩ := h.op d hdl.1 hdl.2 hn
    have hsq : s < O'.length := by
      rcases last_at s1 with s4 | ⟨_, s4⟩
      · exact (List.getElem?_eq_some_iff.1 s4).1
      · exact absurd s4 e
    have hrq := (s3 O'.length q hsq (by rw [List.getElem?_append_right (Nat.le_refl _), Nat.sub_self]; rfl)).1
    exact ⟨d, hdl.1, hdl.2, .more hrq (pts_iff.1 hd)⟩

/-- How many are not counted. -/
def nZero (n : Nat) (cnt : Nat → Int) : Nat := ((List.range n).filter fun i => decide (cnt i = 0)).length

theorem nZero_mark {n q : Nat} {cnt : Nat → Int} (hq : q < n) (h0 : cnt q = 0) : nZero n (fun j => if j = q then -1 else cnt j) < nZero n cnt := by
  unfold nZero
  refine filter_lt (fun i _ hp => ?_) (List.mem_range.2 hq) (decide_eq_true h0) (decide_eq_false (by simp only [if_true]; omega))
  have h1 := of_decide_eq_true hp
  by_cases e : i = q
  · simp only [if_pos e] at h1
    omega
  · simp only [if_neg e] at h1
    exact decide_eq_true h1

theorem nZero_less {n q : Nat} {cnt : Nat → Int} {x : Int} (hx : x ≠ 0) : nZero n (fun j => if j = q then x else cnt j) ≤ nZero n cnt := by
  unfold nZero
  refine filter_less fun i _ hp => ?_
  have h1 := of_decide_eq_true hp
  by_cases e : i = q
  · simp only [if_pos e] at h1
    exact absurd h1 hx
  · simp only [if_neg e] at h1
    exact decide_eq_true h1

theorem nZero_le (n : Nat) (cnt : Nat → Int) : nZero n cnt ≤ n := by
  unfold nZero
  have := List.length_filter_le (fun i => decide (cnt i = 0)) (List.range n)
  simpa using this

end Go.Proofs.YtelacmijkbgliaaDoor

/- The nodes of a right term, grown from its back to its front: plain. -/
namespace Go.Proofs.YtelacmijkbgliaaDoor

theorem snoc_old {α : Type} {L : List α} {x y : α} {i : Nat} (h : L[i]? = some y) : (L ++ [x])[i]? = some y := by
  rw [List.getElem?_append_left (List.getElem?_eq_some_iff.1 h).1]
  exact h

theorem snoc_new {α : Type} (L : List α) (x : α) : (L ++ [x])[L.length]? = some x := by simp

theorem snoc_parts {α : Type} {L : List α} {x y : α} {i : Nat} (h : (L ++ [x])[i]? = some y) : L[i]? = some y ∨ (i = L.length ∧ y = x) := by
  have hi := (List.getElem?_eq_some_iff.1 h).1
  rw [List.length_append, List.length_singleton] at hi
  by_cases e : i < L.length
  · rw [List.getElem?_append_left e] at h
    exact .inl h
  · obtain rfl : i = L.length := by omega
    rw [snoc_new] at h
    exact .inr ⟨rfl, (Option.some.inj h).symm⟩

theorem ndOk_var {sig : List Sy} {L : List Nd} (h : NdOk sig L) {n : Int} (h0 : 0 ≤ n) (h1 : n < 1048576) (hn : ∀ i : Nat, L[i]? ≠ some (Nd.var n)) : NdOk sig (L ++ [.var n]) := by
  refine ⟨fun i m hm => ?_, fun i c xs hm => ?_, fun i c xs hm => ?_, fun i j m hi hj => ?_⟩
  · rcases snoc_parts hm with hm | ⟨_, hm⟩
    · exact h.num i m hm
    · cases hm
      exact ⟨h0, h1⟩
  · rcases snoc_parts hm with hm | ⟨_, hm⟩
    · exact h.sym i c xs hm
    · cases hm
  · rcases snoc_parts hm with hm | ⟨_, hm⟩
    · exact h.ahead i c xs hm
    · cases hm
  · rcases snoc_parts hi with hi | ⟨e1, hi⟩ <;> rcases snoc_parts hj with hj | ⟨e2, hj⟩
    · exact h.once i j m hi hj
    · cases hj
      exact (hn i hi).elim
    · cases hi
      exact (hn j hj).elim
    · rw [e1, e2]

theorem ndOk_app {sig : List Sy} {L : List Nd} (h : NdOk sig L) {c : Int} {xs : List Nat} (h0 : ¬ c < 0) (h1 : c.toNat < sig.length) (h2 : xs.length = arN sig c) (hx : ∀ x ∈ xs, x < L.length) : NdOk sig (L ++ [.app c xs]) := by
  refine ⟨fun i m hm => ?_, fun i c' xs' hm => ?_, fun i c' xs' hm => ?_, fun i j m hi hj => ?_⟩
  · rcases snoc_parts hm with hm | ⟨_, hm⟩
    · exact h.num i m hm
    · cases hm
  · rcases snoc_parts hm with hm | ⟨_, hm⟩
    · exact h.sym i c' xs' hm
    · cases hm
      exact ⟨h0, h1, h2⟩
  · rcases snoc_parts hm with hm | ⟨e, hq⟩
    · exact h.ahead i c' xs' hm
    · cases hq
      rw [e]
      exact hx
  · rcases snoc_parts hi with hi | ⟨_, hi⟩
    · rcases snoc_parts hj with hj | ⟨_, hj⟩
      · exact h.once i j m hi hj
      · cases hj
    · cases hi

theorem tmC_ext {L L' : List Nd} (he : ∀ (j : Nat) (d : Nd), L[j]? = some d → L'[j]? = some d) {i : Nat} {t : List Int} (h : TmC L id id i t) : TmC L' id id i t := by
  induction h with
  | var h => exact .var (he _ _ h)
  | app h hl _ ih => exact .app (he _ _ h) hl ih

theorem tmC_lt {L : List Nd} {i : Nat} {t : List Int} (h : TmC L id id i t) : i < L.length := by
  cases h with
  | var h => exact (List.getElem?_eq_some_iff.1 h).1
  | app h _ _ => exact (List.getElem?_eq_some_iff.1 h).1

theorem Bel.ext {L L' : List Nd} (he : ∀ (j : Nat) (d : Nd), L[j]? = some d → L'[j]? = some d) {r i : Nat} (h : Bel L r i) : Bel L' r i := by
  induction h with
  | here => exact .here _
  | arg _ hx hy ih => exact .arg ih (he _ _ hx) hy

theorem Bel.trans {L : List Nd} {r x y : Nat} (h : Bel L r x) (k : Bel L x y) : Bel L r y := by
  induction k with
  | here => exact h
  | arg _ hx hy ih => exact .arg ih hx hy

/-- Nodes grown for a row's end u, of L the first n0 are older: the stack has the terms that u is made of, the first one last. -/
structure Gr (sig : List Sy) (n0 : Nat) (L : List Nd) (st : List Nat) (u : List Int) : Prop where
  ok : NdOk sig L
  len : st.length = (growR sig u).length
  tms : ∃ ts : List (List Int), ts.length = st.length ∧ (∀ (k x : Nat) (t : List Int), st[k]? = some x → ts[k]? = some t → TmC L id id x t) ∧ ts.reverse.flatten = u
  cov : ∀ i, n0 ≤ i → i < L.length → ∃ x ∈ st, Bel L x i
  few : L.length ≤ n0 + u.length

theorem gr_start {sig : List Sy} {L : List Nd} (h : NdOk sig L) : Gr sig L.length L [] [] :=
  ⟨h, rfl, ⟨[], rfl, fun k x t h => (by simp at h), rfl⟩, fun i h1 h2 => by omega, by simp⟩

theorem Gr.lt {sig : List Sy} {n0 : Nat} {L : List Nd} {st : List Nat} {u : List Int} (h : Gr sig n0 L st u) {x : Nat} (hx : x ∈ st) : x < L.length := by
  obtain ⟨ts, hl, ht, _⟩ := h.tms
  obtain ⟨k, hk⟩ := List.getElem?_of_mem hx
  have hkl := (List.getElem?_eq_some_iff.1 hk).1
  exact tmC_lt (ht k x _ hk (List.getElem?_eq_getElem (by omega)))

theorem growStep_len (sig : List Sy) (u : List Int) (c : Int) : (growR sig (c :: u)).length = if c < 0 then (growR sig u).length + 1 else (growR sig u).length - arN sig c + 1 := by
  show (growStep sig (growR sig u) c).length = _
  unfold growStep
  split
  · simp
  · rw [List.length_append, List.length_take]
    simp only [List.length_cons, List.length_nil]
    omega

/-- A variable that has its node. -/
theorem gr_old {sig : List Sy} {n0 : Nat} {L : List Nd} {st : List Nat} {u : List Int} (h : Gr sig n0 L st u) {i : Nat} {n : Int} (hi : L[i]? = some (Nd.var n)) : Gr sig n0 L (st ++ [i]) ((-1 - n) :: u) := by
  have hn := h.ok.num i n hi
  obtain ⟨ts, hl, ht, hf⟩ := h.tms
  refine ⟨h.ok, ?_, ⟨ts ++ [[-1 - n]], by simp [hl], fun k x t hk hkt => ?_, by simp [hf]⟩, fun j h1 h2 => ?_, ?_⟩
  · rw [growStep_len, if_pos (by omega), List.length_append, h.len]
    rfl
  · rcases snoc_parts hk with hk | ⟨e, rfl⟩
    · rcases snoc_parts hkt with hkt | ⟨e2, _⟩
      · exact ht k x t hk hkt
      · have := (List.getElem?_eq_some_iff.1 hk).1
        omega
    · rcases snoc_parts hkt with hkt | ⟨_, rfl⟩
      · have := (List.getElem?_eq_some_iff.1 hkt).1
        omega
      · exact .var hi
  · obtain ⟨x, hx, hb⟩ := h.cov j h1 h2
    exact ⟨x, List.mem_append_left _ hx, hb⟩
  · have := h.few
    simp only [List.length_cons]
    omega

/-- More nodes. -/
theorem gr_more {sig : List Sy} {n0 : Nat} {L : List Nd} {st : List Nat} {u : List Int} (h : Gr sig n0 L st u) {d : Nd} (hk : NdOk sig (L ++ [d])) {st' : List Nat} {c : Int} (hl : st'.length = (growR sig (c :: u)).length) (ht : ∃ ts : List (List Int), ts.length = st'.length ∧ (∀ (k x : Nat) (t : List Int), st'[k]? = some x → ts[k]? = some t → TmC (L ++ [d]) id id x t) ∧ ts.reverse.flatten = c :: u)
    (hc : ∀ x ∈ st, ∃ y ∈ st', Bel (L ++ [d]) y x) (hn : L.length ∈ st') : Gr sig n0 (L ++ [d]) st' (c :: u) := by
  refine ⟨hk, hl, ht, fun i h1 h2 => ?_, ?_⟩
  · by_cases e : i < L.length
    · obtain ⟨x, hx, hb⟩ := h.cov i h1 e
      obtain ⟨y, hy, hb2⟩ := hc x hx
      exact ⟨y, hy, hb2.trans (hb.ext fun j d hj => snoc_old hj)⟩
    · rw [List.length_append, List.length_singleton] at h2
      obtain rfl : i = L.length := by omega
      exact ⟨_, hn, .here _⟩
  · have := h.few
    rw [List.length_append]
    simp only [List.length_cons, List.length_nil]
    omega

/-- A variable met first. -/
theorem gr_new {sig : List Sy} {n0 : Nat} {L : List Nd} {st : List Nat} {u : List Int} (h : Gr sig n0 L st u) {n : Int} (h0 : 0 ≤ n) (h1 : n < 1048576) (hn : ∀ i : Nat, L[i]? ≠ some (Nd.var n)) : Gr sig n0 (L ++ [.var n]) (st ++ [L.length]) ((-1 - n) :: u) := by
  obtain ⟨ts, hl, ht, hf⟩ := h.tms
  refine gr_more h (ndOk_var h.ok h0 h1 hn) ?_ ⟨ts ++ [[-1 - n]], by simp [hl], fun k x t hk hkt => ?_, by simp [hf]⟩ (fun x hx => ⟨x, List.mem_append_left _ hx, .here _⟩) (by simp)
  · rw [growStep_len, if_pos (by omega), List.length_append, h.len]
    rfl
  · rcases snoc_parts hk with hk | ⟨e, rfl⟩
    · rcases snoc_parts hkt with hkt | ⟨e2, _⟩
      · exact tmC_ext (fun j d hj => snoc_old hj) (ht k x t hk hkt)
      · have := (List.getElem?_eq_some_iff.1 hk).1
        omega
    · rcases snoc_parts hkt with hkt | ⟨_, rfl⟩
      · have := (List.getElem?_eq_some_iff.1 hkt).1
        omega
      · exact .var (snoc_new _ _)

/-- A symbol: its arguments leave the stack. -/
theorem gr_app {sig : List Sy} {n0 : Nat} {L : List Nd} {st : List Nat} {u : List Int} (h : Gr sig n0 L st u) {c : Int} (h0 : ¬ c < 0) (h1 : c.toNat < sig.length) (h2 : arN sig c ≤ st.length) :
    Gr sig n0 (L ++ [.app c (st.drop (st.length - arN sig c)).reverse]) (st.take (st.length - arN sig c) ++ [L.length]) (c :: u) := by
  obtain ⟨ts, hl, ht, hf⟩ := h.tms
  generalize hr : st.length - arN sig c = r
  have hrl : r ≤ st.length := by omega
  have htl : (st.take r).length = r := by rw [List.length_take]; omega
  refine gr_more h (ndOk_app h.ok h0 h1 (by rw [List.length_reverse, List.length_drop]; omega) (fun x hx => h.lt (List.mem_of_mem_drop (List.mem_reverse.1 hx)))) ?_
    ⟨ts.take r ++ [c :: (ts.drop r).reverse.flatten], by rw [List.length_append, List.length_append, List.length_take, List.length_take, hl]; rfl, fun k x t hk hkt => ?_, ?_⟩ (fun x hx => ?_) (by simp)
  · rw [growStep_len, if_neg h0, List.length_append, htl, ← h.len, hr]
    rfl
  · have htr : (ts.take r).length = r := by rw [List.length_take]; omega
    rcases snoc_parts hk with hk | ⟨e, rfl⟩
    · rcases snoc_parts hkt with hkt | ⟨e2, _⟩
      · have hkr := (List.getElem?_eq_some_iff.1 hk).1
        rw [htl] at hkr
        rw [List.getElem?_take_of_lt hkr] at hk hkt
        exact tmC_ext (fun j d hj => snoc_old hj) (ht k x t hk hkt)
      · have := (List.getElem?_eq_some_iff.1 hk).1
        omega
    · rcases snoc_parts hkt with hkt | ⟨_, rfl⟩
      · have := (List.getElem?_eq_some_iff.1 hkt).1
        omega
      · refine .app (snoc_new _ _) (by simp [hl]) (fun j y t hy hyt => ?_)
        have hj := (List.getElem?_eq_some_iff.1 hy).1
        rw [List.length_reverse, List.length_drop] at hj
        rw [List.getElem?_reverse (by rw [List.length_drop]; omega), List.length_drop, List.getElem?_drop] at hy hyt
        rw [hl] at hyt
        exact tmC_ext (fun j d hj => snoc_old hj) (ht _ y t hy hyt)
  · rw [List.reverse_append, List.flatten_append]
    simp only [List.reverse_cons, List.reverse_nil, List.nil_append, List.flatten_cons, List.flatten_nil, List.append_nil, List.cons_append]
    rw [← List.flatten_append, ← List.reverse_append, List.take_append_drop, hf]
  · rw [← List.take_append_drop r st] at hx
    rcases List.mem_append.1 hx with hx | hx
    · exact ⟨x, List.mem_append_left _ hx, .here _⟩
    · exact ⟨L.length, by simp, .arg (.here _) (snoc_new _ _) (List.mem_reverse.2 hx)⟩

/-- The whole of a right term: one node. -/
theorem gr_done {sig : List Sy} (ha : ArOk sig) {n0 : Nat} {L : List Nd} {st : List Nat} {u : List Int} (h : Gr sig n0 L st u) (hu : rowE sig u = 0) : ∃ r, st = [r] ∧ TmC L id id r u ∧ ∀ i, n0 ≤ i → i < L.length → Bel L r i := by
  obtain ⟨T, hT, _⟩ := grow_one ha hu
  have hl := h.len
  rw [hT] at hl
  obtain ⟨r, rfl⟩ := List.length_eq_one_iff.1 hl
  obtain ⟨ts, h1, h2, h3⟩ := h.tms
  obtain ⟨t, rfl⟩ := List.length_eq_one_iff.1 h1
  simp at h3
  subst h3
  refine ⟨r, rfl, h2 0 r t rfl rfl, fun i hi1 hi2 => ?_⟩
  obtain ⟨x, hx, hb⟩ := h.cov i hi1 hi2
  rw [List.mem_singleton] at hx
  rw [← hx]
  exact hb

end Go.Proofs.YtelacmijkbgliaaDoor

/- When two terms unify, by their nodes: plain. -/
namespace Go.Proofs.YtelacmijkbgliaaDoor

/-- Some binds make two terms one. -/
def Unif (sig : List Sy) (a b : List Int) : Prop := ∃ f : Int → Option (List Int), (∀ n u, f n = some u → rowE sig u = 0) ∧ laidL f a = laidL f b

/-- Each node stands for a term. -/
theorem tmC_all {sig : List Sy} {L : List Nd} (hL : NdOk sig L) : ∀ (m i : Nat), i < m → i < L.length → ∃ t, TmC L id id i t
  | 0, i, h, _ => by omega
  | m + 1, i, h, hi => by
    have hLi : L[i]? = some L[i] := List.getElem?_eq_getElem hi
    cases hd : L[i] with
    | var n => exact ⟨_, .var (by rw [← hd]; exact hLi)⟩
    | app c xs =>
      have hx : L[i]? = some (Nd.app c xs) := by rw [← hd]; exact hLi
      refine ⟨c :: (xs.map (vC L id id)).flatten, .app hx (by rw [List.length_map]) (fun k x t hk ht => ?_)⟩
      have hxi := hL.ahead i c xs hx x (List.mem_of_getElem? hk)
      obtain ⟨t', ht'⟩ := tmC_all hL m x (by omega) (by omega)
      rw [List.getElem?_map, hk, Option.map_some, Option.some.injEq] at ht
      rw [← ht, vC_eq (root := id) (face := id) (i := x) (by exact ht')]
      exact ht'

theorem laid_sym {f : Int → Option (List Int)} {c : Int} (hc : ¬ c < 0) (u : List Int) : laidL f (c :: u) = c :: laidL f u := by
  unfold laidL
  rw [List.flatMap_cons]
  unfold piece
  rw [if_neg hc]
  rfl

/-- Where no valuation makes the two nodes one, no binds make the two terms one. -/
theorem unif_no {sig : List Sy} (ha : ArOk sig) {L : List Nd} (hL : NdOk sig L) {a b : List Int} {ra rb : Nat} (hta : TmC L id id ra a) (htb : TmC L id id rb b) (hno : ∀ V, Val sig L V → V ra ≠ V rb) : ¬ Unif sig a b := by
  rintro ⟨f, hf, he⟩
  have hcl : Closed L id id := closed_of (wait_start L [])
  have hT : ∀ i, i < L.length → ∃ t, TmC L id id (id i) t := fun i hi => tmC_all hL (i + 1) i (by omega) hi
  have hV := vC_val ha hL (cl_start hL) hcl hT
  refine hno (fun i => laidL f (vC L id id i)) (fun i hi => ⟨row_laid ha hf (hV i hi).1, fun c xs hx => ?_⟩) ?_
  · show laidL f (vC L id id i) = _
    rw [(hV i hi).2 c xs hx, laid_sym (hL.sym i c xs hx).1, laid_flat, List.map_map]
    rfl
  · show laidL f (vC L id id ra) = laidL f (vC L id id rb)
    rw [vC_eq (root := id) (face := id) (i := ra) (by exact hta), vC_eq (root := id) (face := id) (i := rb) (by exact htb)]
    exact he

/-- What the classes become. -/
structure Sol6 (sig : List Sy) (L : List Nd) (root face : Nat → Nat) (ra rb : Nat) : Prop where
  ok : ClOk L root face
  clo : Closed L root face
  tm : ∀ i, i < L.length → ∃ t, TmC L root face (root i) t
  one : root ra = root rb
  jn : ∀ V, Val sig L V → V ra = V rb → Slv L.length root V

/-- The binds of the classes make the two terms one. -/
theorem unif_yes {sig : List Sy} (ha : ArOk sig) {L : List Nd} (hL : NdOk sig L) {a b : List Int} {ra rb : Nat} {root face : Nat → Nat} (hta : TmC L id id ra a) (htb : TmC L id id rb b) (h : Sol6 sig L root face ra rb) :
    (∀ n u, gV L (vC L root face) n = some u → rowE sig u = 0) ∧ laidL (gV L (vC L root face)) a = vC L root face ra ∧ laidL (gV L (vC L root face)) b = vC L root face rb ∧ vC L root face ra = vC L root face rb := by
  have hV := vC_val ha hL h.ok h.clo h.tm
  have hs0 : Slv L.length id (vC L root face) := fun i _ => rfl
  refine ⟨fun n u hu => ?_, (slv_laid hL (cl_start hL) hV hs0 hta (tmC_lt hta) rfl).symm, (slv_laid hL (cl_start hL) hV hs0 htb (tmC_lt htb) rfl).symm, ?_⟩
  · unfold gV at hu
    split at hu
    · rename_i h9
      cases hu
      exact (hV _ (List.getElem?_eq_some_iff.1 (Classical.choose_spec h9)).1).1
    · cases hu
  · have h1 := vC_slv (face := face) h.ok ra (tmC_lt hta)
    have h2 := vC_slv (face := face) h.ok rb (tmC_lt htb)
    rw [h1, h2, h.one]

theorem unif_iff_yes {sig : List Sy} (ha : ArOk sig) {L : List Nd} (hL : NdOk sig L) {a b : List Int} {ra rb : Nat} {root face : Nat → Nat} (hta : TmC L id id ra a) (htb : TmC L id id rb b) (h : Sol6 sig L root face ra rb) : Unif sig a b := by
  obtain ⟨h1, h2, h3, h4⟩ := unif_yes ha hL hta htb h
  exact ⟨_, h1, by rw [h2, h3, h4]⟩

end Go.Proofs.YtelacmijkbgliaaDoor

/- The document's board of two terms, plainly: places, classes, what is joined; when two terms unify. -/
namespace Go.Proofs.YtelacmijkbgliaaDoor
open Go.RowKit

/-- A board: codes, and of each place those of its arguments, which stand behind it. -/
structure BOk6 (sig : List Sy) (X : List Int) (K : List (List Nat)) : Prop where
  len : K.length = X.length
  code : ∀ (i : Nat) (c : Int), X[i]? = some c → -1048576 ≤ c ∧ (¬ c < 0 → c.toNat < sig.length)
  kids : ∀ (i : Nat) (c : Int) (ks : List Nat), X[i]? = some c → K[i]? = some ks → (c < 0 → ks = []) ∧ (¬ c < 0 → ks.length = arN sig c)
  lt : ∀ (i : Nat) (ks : List Nat), K[i]? = some ks → ∀ j ∈ ks, i < j ∧ j < X.length

/-- What places become. -/
def ValB (sig : List Sy) (X : List Int) (K : List (List Nat)) (V : Nat → List Int) : Prop :=
  (∀ i, i < X.length → rowE sig (V i) = 0) ∧ (∀ (i : Nat) (c : Int) (ks : List Nat), X[i]? = some c → K[i]? = some ks → ¬ c < 0 → V i = c :: (ks.map V).flatten) ∧ ∀ (i j : Nat) (c : Int), c < 0 → X[i]? = some c → X[j]? = some c → V i = V j

/-- The term at a place. -/
inductive TmB (X : List Int) (K : List (List Nat)) : Nat → List Int → Prop
  | var {i : Nat} {c : Int} (h : X[i]? = some c) (hc : c < 0) : TmB X K i [c]
  | app {i : Nat} {c : Int} {ks : List Nat} {ts : List (List Int)} (h : X[i]? = some c) (hc : ¬ c < 0) (hk : K[i]? = some ks) (hl : ts.length = ks.length) (ht : ∀ (k x : Nat) (t : List Int), ks[k]? = some x → ts[k]? = some t → TmB X K x t) : TmB X K i (c :: ts.flatten)

theorem tmB_lt {X : List Int} {K : List (List Nat)} {i : Nat} {t : List Int} (h : TmB X K i t) : i < X.length := by
  cases h with
  | var h _ => exact (List.getElem?_eq_some_iff.1 h).1
  | app h _ _ _ _ => exact (List.getElem?_eq_some_iff.1 h).1

theorem tmB_one {X : List Int} {K : List (List Nat)} {i : Nat} {t : List Int} (h : TmB X K i t) : ∀ t', TmB X K i t' → t = t' := by
  induction h with
  | var h hc =>
    intro t' h'
    cases h' with
    | var h' _ => rw [h] at h'; cases h'; rfl
    | app h' hc' _ _ _ => rw [h] at h'; cases h'; exact absurd hc hc'
  | app h hc hk hl ht ih =>
    rename_i i c ks ts
    intro t' h'
    cases h' with
    | var h' hc' => rw [h] at h'; cases h'; exact absurd hc' hc
    | app h' hc2 hk' hl' ht' =>
      rw [h] at h'
      cases h'
      rw [hk] at hk'
      cases hk'
      rename_i ts'
      have e : ts = ts' := by
        apply List.ext_getElem (by omega)
        intro k h1 h2
        have hx : ks[k]? = some ks[k] := List.getElem?_eq_getElem (by omega)
        exact ih k _ _ hx (List.getElem?_eq_getElem h1) _ (ht' k _ _ hx (List.getElem?_eq_getElem h2))
      rw [e]

theorem tmB_right {sig : List Sy} (ha : ArOk sig) {X : List Int} {K : List (List Nat)} (hB : BOk6 sig X K) {i : Nat} {t : List Int} (h : TmB X K i t) : rowE sig t = 0 := by
  induction h with
  | var h hc => exact row_var hc (hB.code _ _ h).1
  | app h hc hk hl ht ih =>
    refine row_parts ha hc ((hB.code _ _ h).2 hc) (by rw [hl]; exact (hB.kids _ _ _ h hk).2 hc) (fun u hu => ?_)
    obtain ⟨k, hk'⟩ := List.getElem?_of_mem hu
    have hkl := (List.getElem?_eq_some_iff.1 hk').1
    exact ih k _ u (List.getElem?_eq_getElem (by omega)) hk'

noncomputable def tB (X : List Int) (K : List (List Nat)) (i : Nat) : List Int := @dite _ (∃ t, TmB X K i t) (Classical.propDecidable _) (fun h => Classical.choose h) (fun _ => [])

theorem tB_eq {X : List Int} {K : List (List Nat)} {i : Nat} {t : List Int} (h : TmB X K i t) : tB X K i = t := by
  have h9 : ∃ t, TmB X K i t := ⟨t, h⟩
  unfold tB
  rw [dif_pos h9]
  exact tmB_one (Classical.choose_spec h9) t h

theorem tmB_all {sig : List Sy} {X : List Int} {K : List (List Nat)} (hB : BOk6 sig X K) : ∀ (m i : Nat), X.length - i < m → i < X.length → ∃ t, TmB X K i t
  | 0, i, h, _ => by omega
  | m + 1, i, h, hi => by
    have hx : X[i]? = some X[i] := List.getElem?_eq_getElem hi
    by_cases hc : X[i] < 0
    · exact ⟨_, .var hx hc⟩
    · have hk : K[i]? = some (K[i]'(by rw [hB.len]; exact hi)) := List.getElem?_eq_getElem _
      refine ⟨_, .app (ts := (K[i]'(by rw [hB.len]; exact hi)).map (tB X K)) hx hc hk (by rw [List.length_map]) (fun k x t h1 h2 => ?_)⟩
      have h3 := hB.lt i _ hk x (List.mem_of_getElem? h1)
      obtain ⟨t', ht'⟩ := tmB_all hB m x (by omega) h3.2
      rw [List.getElem?_map, h1, Option.map_some, Option.some.injEq] at h2
      rw [← h2, tB_eq ht']
      exact ht'

/-- Where nothing makes two places one, no binds make the two terms one. -/
theorem unifB_no {sig : List Sy} (ha : ArOk sig) {X : List Int} {K : List (List Nat)} (hB : BOk6 sig X K) {a b : List Int} {ra rb : Nat} (hta : TmB X K ra a) (htb : TmB X K rb b) (hno : ∀ V, ValB sig X K V → V ra ≠ V rb) : ¬ Unif sig a b := by
  rintro ⟨f, hf, he⟩
  have hT : ∀ i, i < X.length → TmB X K i (tB X K i) := fun i hi => by
    obtain ⟨t, ht⟩ := tmB_all hB (X.length - i + 1) i (by omega) hi
    rw [tB_eq ht]
    exact ht
  refine hno (fun i => laidL f (tB X K i)) ⟨fun i hi => row_laid ha hf (tmB_right ha hB (hT i hi)), fun i c ks hx hk hc => ?_, fun i j c hc hi hj => ?_⟩ ?_
  · have hil := (List.getElem?_eq_some_iff.1 hx).1
    show laidL f (tB X K i) = _
    have h9 : TmB X K i (c :: (ks.map (tB X K)).flatten) := .app hx hc hk (by rw [List.length_map]) (fun k x t h1 h2 => by
      rw [List.getElem?_map, h1, Option.map_some, Option.some.injEq] at h2
      rw [← h2]
      exact hT x (hB.lt i ks hk x (List.mem_of_getElem? h1)).2)
    rw [tB_eq h9, laid_sym hc, laid_flat, List.map_map]
    rfl
  · show laidL f (tB X K i) = laidL f (tB X K j)
    rw [tB_eq (TmB.var hi hc), tB_eq (TmB.var hj hc)]
  · show laidL f (tB X K ra) = laidL f (tB X K rb)
    rw [tB_eq hta, tB_eq htb]
    exact he

/-- Classes: each by the place of a member that stands no later; all places of a variable are in one. -/
structure ClB (X : List Int) (C : List Nat) : Prop where
  len : C.length = X.length
  id : ∀ (i c : Nat), C[i]? = some c → c ≤ i ∧ C[c]? = some c
  var : ∀ (i j : Nat) (c : Int), c < 0 → X[i]? = some c → X[j]? = some c → C[i]? = C[j]?

/-- Whatever makes the two places one makes all of a class one. -/
def JnB (sig : List Sy) (X : List Int) (K : List (List Nat)) (C : List Nat) (ra rb : Nat) : Prop :=
  ∀ V, ValB sig X K V → V ra = V rb → ∀ i j, i < X.length → j < X.length → C[i]? = C[j]? → V i = V j

/-- Class b is joined to class a. -/
def joinC (C : List Nat) (a b : Nat) : List Nat := C.map fun c => if c = b then a else c

theorem joinC_at {C : List Nat} {a b i : Nat} : (joinC C a b)[i]? = (C[i]?).map fun c => if c = b then a else c := by
  unfold joinC
  rw [List.getElem?_map]

theorem clB_join {X : List Int} {C : List Nat} (h : ClB X C) {a b : Nat} (ha : C[a]? = some a) (_hb : C[b]? = some b) (hab : a < b) : ClB X (joinC C a b) := by
  refine ⟨by unfold joinC; rw [List.length_map, h.len], fun i c hc => ?_, fun i j c hc hi hj => ?_⟩
  · rw [joinC_at] at hc ⊢
    cases hd : C[i]? with
    | none => rw [hd] at hc; cases hc
    | some d =>
      rw [hd] at hc
      obtain ⟨h1, h2⟩ := h.id i d hd
      simp only [Option.map_some, Option.some.injEq] at hc
      by_cases hdb : d = b
      · rw [if_pos hdb] at hc
        subst hc
        rw [ha]
        exact ⟨by omega, by simp only [Option.map_some]; rw [if_neg (by omega)]⟩
      · rw [if_neg hdb] at hc
        subst hc
        rw [h2]
        exact ⟨h1, by simp only [Option.map_some]; rw [if_neg hdb]⟩
  · rw [joinC_at, joinC_at, h.var i j c hc hi hj]

theorem jnB_join {sig : List Sy} {X : List Int} {K : List (List Nat)} {C : List Nat} {ra rb : Nat} (h : JnB sig X K C ra rb) (hC : ClB X C) {a b i k : Nat} (hi : i < X.length) (hk : k < X.length) (hik : (C[i]? = some a ∧ C[k]? = some b) ∨ (C[i]? = some b ∧ C[k]? = some a)) (hv : ∀ V, ValB sig X K V → V ra = V rb → V i = V k) : JnB sig X K (joinC C a b) ra rb := fun V hV he x y hx hy hxy => by
  have h0 := h V hV he
  have h1 := hv V hV he
  have hab : ∀ x, x < X.length → (C[x]? = some a ∨ C[x]? = some b) → V x = V i := fun x hx hd => by
    rcases hik with ⟨e1, e2⟩ | ⟨e1, e2⟩ <;> rcases hd with hd | hd
    · exact h0 x i hx hi (by rw [hd, e1])
    · rw [h1]; exact h0 x k hx hk (by rw [hd, e2])
    · rw [h1]; exact h0 x k hx hk (by rw [hd, e2])
    · exact h0 x i hx hi (by rw [hd, e1])
  rw [joinC_at, joinC_at] at hxy
  have ex : C[x]? = some (C[x]'(by rw [hC.len]; exact hx)) := List.getElem?_eq_getElem _
  have ey : C[y]? = some (C[y]'(by rw [hC.len]; exact hy)) := List.getElem?_eq_getElem _
  generalize C[x]'(by rw [hC.len]; exact hx) = c at ex
  generalize C[y]'(by rw [hC.len]; exact hy) = d at ey
  rw [ex, ey] at hxy
  simp only [Option.map_some, Option.some.injEq] at hxy
  by_cases hc : c = b
  · rw [if_pos hc] at hxy
    by_cases hd : d = b
    · exact h0 x y hx hy (by rw [ex, ey, hc, hd])
    · rw [if_neg hd] at hxy
      rw [hab x hx (.inr (by rw [ex, hc])), hab y hy (.inl (by rw [ey, hxy]))]
  · rw [if_neg hc] at hxy
    by_cases hd : d = b
    · rw [if_pos hd] at hxy
      rw [hab x hx (.inl (by rw [ex, hxy])), hab y hy (.inr (by rw [ey, hd]))]
    · rw [if_neg hd] at hxy
      exact h0 x y hx hy (by rw [ex, ey, hxy])

/-- Arguments of two places of one symbol that become one. -/
theorem argsB_same {sig : List Sy} {X : List Int} {K : List (List Nat)} (hB : BOk6 sig X K) {V : Nat → List Int} (hV : ValB sig X K V) {i h : Nat} {c d : Int} {ks ls : List Nat} (hi : X[i]? = some c) (hh : X[h]? = some d) (hki : K[i]? = some ks) (hkh : K[h]? = some ls) (hc : ¬ c < 0) (hd : ¬ d < 0) (he : V i = V h) : c = d ∧ ks.map V = ls.map V := by
  have f1 := hV.2.1 i c ks hi hki hc
  have f2 := hV.2.1 h d ls hh hkh hd
  rw [he, f2] at f1
  simp only [List.cons.injEq] at f1
  obtain ⟨rfl, f3⟩ := f1
  refine ⟨rfl, (rows_one6 (sig := sig) _ _ (fun u hu => ?_) (fun u hu => ?_) ?_ f3).symm⟩
  · obtain ⟨j, hj, rfl⟩ := List.mem_map.1 hu
    exact hV.1 j (hB.lt h ls hkh j hj).2
  · obtain ⟨j, hj, rfl⟩ := List.mem_map.1 hu
    exact hV.1 j (hB.lt i ks hki j hj).2
  · rw [List.length_map, List.length_map, (hB.kids i _ ks hi hki).2 hc, (hB.kids h _ ls hh hkh).2 hd]

/-- The first place of a class that is no variable. -/
def headB (X : List Int) (C : List Nat) (c : Nat) : Option Nat := (List.range X.length).find? fun i => decide (C[i]? = some c) && decide (0 ≤ (X[i]?).getD (-1))

theorem headB_some {X : List Int} {C : List Nat} {c h : Nat} (hh : headB X C c = some h) : h < X.length ∧ C[h]? = some c ∧ ∃ d, X[h]? = some d ∧ ¬ d < 0 := by
  unfold headB at hh
  have h1 := List.find?_some hh
  have h2 := List.mem_of_find?_eq_some hh
  rw [List.mem_range] at h2
  simp only [Bool.and_eq_true, decide_eq_true_eq] at h1
  refine ⟨h2, h1.1, X[h], List.getElem?_eq_getElem h2, ?_⟩
  rw [List.getElem?_eq_getElem h2, Option.getD_some] at h1
  omega

theorem headB_of {X : List Int} {C : List Nat} {c i : Nat} {d : Int} (hi : X[i]? = some d) (hd : ¬ d < 0) (hc : C[i]? = some c) : ∃ h, headB X C c = some h := by
  cases hh : headB X C c with
  | some h => exact ⟨h, rfl⟩
  | none =>
    unfold headB at hh
    rw [List.find?_eq_none] at hh
    have := hh i (List.mem_range.2 (List.getElem?_eq_some_iff.1 hi).1)
    rw [hi, hc, Option.getD_some] at this
    simp at this
    omega

/-- All is joined that must be: applications of one class have one symbol, and their arguments are in one class. -/
def CloB (X : List Int) (K : List (List Nat)) (C : List Nat) : Prop := ∀ (i c h : Nat) (s : Int) (ks : List Nat), X[i]? = some s → ¬ s < 0 → K[i]? = some ks → C[i]? = some c → headB X C c = some h → X[h]? = some s ∧ ∀ ls, K[h]? = some ls → ∀ (k x y : Nat), ks[k]? = some x → ls[k]? = some y → C[x]? = C[y]?

/-- The variable of the least number in a class. -/
def lstS (c : Nat) (a : Int) (p : Int × Nat) : Int := if p.2 = c ∧ p.1 < 0 ∧ (a = 0 ∨ a < p.1) then p.1 else a

def lstB (X : List Int) (C : List Nat) (c : Nat) : Int := (X.zip C).foldl (lstS c) 0

/-- What a class becomes. -/
inductive TmK (X : List Int) (K : List (List Nat)) (C : List Nat) : Nat → List Int → Prop
  | var {c : Nat} (h : headB X C c = none) : TmK X K C c [lstB X C c]
  | app {c h : Nat} {s : Int} {ks : List Nat} {ts : List (List Int)} (hh : headB X C c = some h) (hx : X[h]? = some s) (hk : K[h]? = some ks) (hl : ts.length = ks.length) (ht : ∀ (k x d : Nat) (t : List Int), ks[k]? = some x → C[x]? = some d → ts[k]? = some t → TmK X K C d t) : TmK X K C c (s :: ts.flatten)

theorem lst_some (c : Nat) : ∀ (l : List (Int × Nat)) (a : Int), a < 0 → (l.foldl (lstS c) a = a ∨ ∃ p ∈ l, p.2 = c ∧ p.1 < 0 ∧ l.foldl (lstS c) a = p.1) ∧ l.foldl (lstS c) a < 0 ∧ a ≤ l.foldl (lstS c) a ∧ ∀ p ∈ l, p.2 = c → p.1 < 0 → p.1 ≤ l.foldl (lstS c) a
  | [], a, h => ⟨.inl rfl, h, Int.le_refl _, fun p hp => by cases hp⟩
  | p :: l, a, h => by
    rw [List.foldl_cons]
    by_cases hp : p.2 = c ∧ p.1 < 0 ∧ (a = 0 ∨ a < p.1)
    · have e : lstS c a p = p.1 := by unfold lstS; rw [if_pos hp]
      rw [e]
      obtain ⟨h1, h2, h3, h4⟩ := lst_some c l p.1 hp.2.1
      refine ⟨.inr ?_, h2, by omega, fun q hq hqc hq0 => ?_⟩
      · rcases h1 with h1 | ⟨q, hq, h5, h6, h7⟩
        · exact ⟨p, by simp, hp.1, hp.2.1, h1⟩
        · exact ⟨q, by simp [hq], h5, h6, h7⟩
      · rcases List.mem_cons.1 hq with rfl | hq
        · exact h3
        · exact h4 q hq hqc hq0
    · have e : lstS c a p = a := by unfold lstS; rw [if_neg hp]
      rw [e]
      obtain ⟨h1, h2, h3, h4⟩ := lst_some c l a h
      refine ⟨?_, h2, h3, fun q hq hqc hq0 => ?_⟩
      · rcases h1 with h1 | ⟨q, hq, h5, h6, h7⟩
        · exact .inl h1
        · exact .inr ⟨q, by simp [hq], h5, h6, h7⟩
      · rcases List.mem_cons.1 hq with rfl | hq
        · have : q.1 ≤ a := by
            by_cases h9 : a < q.1
            · exact absurd ⟨hqc, hq0, .inr h9⟩ hp
            · omega
          omega
        · exact h4 q hq hqc hq0

theorem lst_zero (c : Nat) : ∀ (l : List (Int × Nat)), (∃ p ∈ l, p.2 = c ∧ p.1 < 0) → ∃ p ∈ l, p.2 = c ∧ p.1 < 0 ∧ l.foldl (lstS c) 0 = p.1 ∧ ∀ q ∈ l, q.2 = c → q.1 < 0 → q.1 ≤ p.1
  | [], h => by obtain ⟨p, hp, _⟩ := h; cases hp
  | p :: l, h => by
    rw [List.foldl_cons]
    by_cases hp : p.2 = c ∧ p.1 < 0 ∧ ((0 : Int) = 0 ∨ 0 < p.1)
    · have e : lstS c 0 p = p.1 := by unfold lstS; rw [if_pos hp]
      rw [e]
      obtain ⟨h1, h2, h3, h4⟩ := lst_some c l p.1 hp.2.1
      rcases h1 with h1 | ⟨q, hq, h5, h6, h7⟩
      · refine ⟨p, by simp, hp.1, hp.2.1, h1, fun q hq hqc hq0 => ?_⟩
        rcases List.mem_cons.1 hq with rfl | hq
        · exact Int.le_refl _
        · rw [← h1]; exact h4 q hq hqc hq0
      · refine ⟨q, by simp [hq], h5, h6, h7, fun z hz hzc hz0 => ?_⟩
        rcases List.mem_cons.1 hz with rfl | hz
        · omega
        · rw [← h7]; exact h4 z hz hzc hz0
    · have e : lstS c 0 p = 0 := by unfold lstS; rw [if_neg hp]
      rw [e]
      have hp2 : ¬ (p.2 = c ∧ p.1 < 0) := fun h9 => hp ⟨h9.1, h9.2, .inl rfl⟩
      obtain ⟨q, hq, h5, h6⟩ := h
      have hql : q ∈ l := by
        rcases List.mem_cons.1 hq with rfl | hq
        · exact absurd ⟨h5, h6⟩ hp2
        · exact hq
      obtain ⟨z, hz, h7, h8, h9, h10⟩ := lst_zero c l ⟨q, hql, h5, h6⟩
      refine ⟨z, by simp [hz], h7, h8, h9, fun y hy hyc hy0 => ?_⟩
      rcases List.mem_cons.1 hy with rfl | hy
      · exact absurd ⟨hyc, hy0⟩ hp2
      · exact h10 y hy hyc hy0

/-- The least of a class without a symbol. -/
theorem lstB_of {X : List Int} {C : List Nat} (hC : ClB X C) {c : Nat} (hid : C[c]? = some c) (hn : headB X C c = none) : ∃ i : Nat, X[i]? = some (lstB X C c) ∧ C[i]? = some c ∧ lstB X C c < 0 ∧ ∀ (j : Nat) (d : Int), X[j]? = some d → d < 0 → C[j]? = some c → d ≤ lstB X C c := by
  have hcl : c < X.length := by rw [← hC.len]; exact (List.getElem?_eq_some_iff.1 hid).1
  have hx : X[c]? = some X[c] := List.getElem?_eq_getElem hcl
  have h0 : X[c] < 0 := by
    by_cases h9 : X[c] < 0
    · exact h9
    · obtain ⟨h, hh⟩ := headB_of hx h9 hid
      rw [hn] at hh
      cases hh
  have hz : ∀ (j : Nat) (d : Int), X[j]? = some d → C[j]? = some c → (d, c) ∈ X.zip C := fun j d h1 h2 => List.mem_of_getElem? (i := j) (by rw [List.getElem?_zip_eq_some]; exact ⟨h1, h2⟩)
  obtain ⟨p, hp, h1, h2, h3, h4⟩ := lst_zero c (X.zip C) ⟨_, hz c _ hx hid, rfl, h0⟩
  obtain ⟨i, hi⟩ := List.getElem?_of_mem hp
  rw [List.getElem?_zip_eq_some] at hi
  have e : lstB X C c = p.1 := h3
  rw [e]
  exact ⟨i, hi.1, by rw [hi.2, h1], h2, fun j d h5 h6 h7 => h4 _ (hz j d h5 h7) rfl h6⟩

theorem tmK_one {X : List Int} {K : List (List Nat)} {C : List Nat} (hlt : ∀ (i : Nat) (ks : List Nat), K[i]? = some ks → ∀ j ∈ ks, j < C.length) {c : Nat} {t : List Int} (h : TmK X K C c t) : ∀ t', TmK X K C c t' → t = t' := by
  induction h with
  | var h =>
    intro t' h'
    cases h' with
    | var _ => rfl
    | app hh _ _ _ _ => rw [h] at hh; cases hh
  | app hh hx hk hl ht ih =>
    rename_i c h s ks ts
    intro t' h'
    cases h' with
    | var h' => rw [hh] at h'; cases h'
    | app hh' hx' hk' hl' ht' =>
      rw [hh] at hh'
      cases hh'
      rw [hx] at hx'
      cases hx'
      rw [hk] at hk'
      cases hk'
      rename_i ts'
      have e : ts = ts' := by
        apply List.ext_getElem (by omega)
        intro k h1 h2
        have hx : ks[k]? = some ks[k] := List.getElem?_eq_getElem (by omega)
        have hd : C[ks[k]]? = some (C[ks[k]]'(hlt _ _ hk _ (List.getElem_mem _))) := List.getElem?_eq_getElem _
        exact ih k _ _ _ hx hd (List.getElem?_eq_getElem h1) _ (ht' k _ _ _ hx hd (List.getElem?_eq_getElem h2))
      rw [e]

theorem tmK_right {sig : List Sy} (ha : ArOk sig) {X : List Int} {K : List (List Nat)} (hB : BOk6 sig X K) {C : List Nat} (hC : ClB X C) {c : Nat} {t : List Int} (h : TmK X K C c t) : C[c]? = some c → rowE sig t = 0 := by
  induction h with
  | var h =>
    intro hid
    obtain ⟨i, h1, _, h3, _⟩ := lstB_of hC hid h
    exact row_var h3 (hB.code _ _ h1).1
  | app hh hx hk hl ht ih =>
    rename_i c h s ks ts
    intro hid
    obtain ⟨_, _, d, h3, h4⟩ := headB_some hh
    rw [hx] at h3
    cases h3
    refine row_parts ha h4 ((hB.code _ _ hx).2 h4) (by rw [hl]; exact (hB.kids _ _ _ hx hk).2 h4) (fun u hu => ?_)
    obtain ⟨k, hk'⟩ := List.getElem?_of_mem hu
    have hkl := (List.getElem?_eq_some_iff.1 hk').1
    have hxk : ks[k]? = some ks[k] := List.getElem?_eq_getElem (by omega)
    have hlt := (hB.lt _ _ hk _ (List.mem_of_getElem? hxk)).2
    have hd : C[ks[k]]? = some (C[ks[k]]'(by rw [hC.len]; exact hlt)) := List.getElem?_eq_getElem _
    exact ih k _ _ u hxk hd hk' (hC.id _ _ hd).2

/-- What classes become, at hand. -/
structure SolB (sig : List Sy) (X : List Int) (K : List (List Nat)) (C : List Nat) (ra rb : Nat) : Prop where
  ok : ClB X C
  clo : CloB X K C
  tm : ∀ (i c : Nat), C[i]? = some c → ∃ t, TmK X K C c t
  one : C[ra]? = C[rb]?
  jn : JnB sig X K C ra rb

noncomputable def tK (X : List Int) (K : List (List Nat)) (C : List Nat) (i : Nat) : List Int := @dite _ (∃ c t, C[i]? = some c ∧ TmK X K C c t) (Classical.propDecidable _) (fun h => Classical.choose (Classical.choose_spec h)) (fun _ => [])

theorem tK_eq {sig : List Sy} {X : List Int} {K : List (List Nat)} (hB : BOk6 sig X K) {C : List Nat} (hC : ClB X C) {i c : Nat} {t : List Int} (hi : C[i]? = some c) (h : TmK X K C c t) : tK X K C i = t := by
  have h9 : ∃ c t, C[i]? = some c ∧ TmK X K C c t := ⟨c, t, hi, h⟩
  unfold tK
  rw [dif_pos h9]
  have h8 := Classical.choose_spec (Classical.choose_spec h9)
  have e : Classical.choose h9 = c := Option.some.inj (h8.1.symm.trans hi)
  refine tmK_one (fun i ks hk j hj => by rw [hC.len]; exact (hB.lt i ks hk j hj).2) h8.2 t ?_
  rw [e]
  exact h

/-- The binds of the classes. -/
noncomputable def gB6 (X : List Int) (K : List (List Nat)) (C : List Nat) (n : Int) : Option (List Int) := @dite _ (∃ i : Nat, X[i]? = some (-1 - n) ∧ -1 - n < 0) (Classical.propDecidable _) (fun h => some (tK X K C (Classical.choose h))) (fun _ => none)

theorem gB6_eq {sig : List Sy} {X : List Int} {K : List (List Nat)} {C : List Nat} {ra rb : Nat} (hB : BOk6 sig X K) (h : SolB sig X K C ra rb) {i : Nat} {n : Int} (hi : X[i]? = some (-1 - n)) (h0 : -1 - n < 0) : gB6 X K C n = some (tK X K C i) := by
  have h9 : ∃ i : Nat, X[i]? = some (-1 - n) ∧ -1 - n < 0 := ⟨i, hi, h0⟩
  unfold gB6
  rw [dif_pos h9]
  have h8 := Classical.choose_spec h9
  generalize Classical.choose h9 = j at h8 ⊢
  have e := h.ok.var i j _ h0 hi h8.1
  have hil : i < C.length := by rw [h.ok.len]; exact (List.getElem?_eq_some_iff.1 hi).1
  have hc : C[i]? = some C[i] := List.getElem?_eq_getElem hil
  obtain ⟨t, ht⟩ := h.tm i _ hc
  rw [tK_eq hB h.ok hc ht, tK_eq hB h.ok (by rw [← e]; exact hc) ht]

/-- Binds laid into a place's term give its class's. -/
theorem solB_laid {sig : List Sy} {X : List Int} {K : List (List Nat)} {C : List Nat} {ra rb : Nat} (hB : BOk6 sig X K) (h : SolB sig X K C ra rb) {i : Nat} {t : List Int} (ht : TmB X K i t) : laidL (gB6 X K C) t = tK X K C i := by
  induction ht with
  | var hx hc =>
    rename_i i c
    rw [laidL_cons]
    unfold piece
    rw [if_pos hc, gB6_eq hB h (i := i) (by rw [hx]; congr 1; omega) (by omega)]
    simp [laidL]
  | app hx hc hk hl ht ih =>
    rename_i i c ks ts
    have hil : i < C.length := by rw [h.ok.len]; exact (List.getElem?_eq_some_iff.1 hx).1
    have hci : C[i]? = some C[i] := List.getElem?_eq_getElem hil
    obtain ⟨hd, hhd⟩ := headB_of hx hc hci
    obtain ⟨hdl, hdc, d, hxd, hd0⟩ := headB_some hhd
    obtain ⟨e1, e2⟩ := h.clo i _ hd c ks hx hc hk hci hhd
    have hkd : K[hd]? = some (K[hd]'(by rw [hB.len]; exact hdl)) := List.getElem?_eq_getElem _
    generalize K[hd]'(by rw [hB.len]; exact hdl) = ls at hkd
    have hll : ls.length = ks.length := by rw [(hB.kids _ _ _ e1 hkd).2 hc, (hB.kids _ _ _ hx hk).2 hc]
    have hT : TmK X K C C[i] (c :: (ks.map (tK X K C)).flatten) := .app hhd e1 hkd (by rw [List.length_map, hll]) (fun k y e u h1 h2 h3 => by
      have hkl := (List.getElem?_eq_some_iff.1 h1).1
      have hk1 : ks[k]? = some ks[k] := List.getElem?_eq_getElem (by omega)
      rw [List.getElem?_map, hk1, Option.map_some, Option.some.injEq] at h3
      have h4 := e2 ls hkd k _ y hk1 h1
      obtain ⟨u', hu'⟩ := h.tm y e h2
      rw [← h3, tK_eq hB h.ok (by rw [h4]; exact h2) hu']
      exact hu')
    rw [tK_eq hB h.ok hci hT, laid_sym hc, laid_flat]
    congr 2
    exact (map_of (by rw [List.length_map, hl]) (fun k x y h1 h2 => by
      rw [List.getElem?_map] at h2
      cases h3 : ts[k]? with
      | none => rw [h3] at h2; cases h2
      | some u =>
        rw [h3, Option.map_some, Option.some.injEq] at h2
        rw [← h2]
        exact (ih k x u h1 h3).symm)).symm

theorem gB6_right {sig : List Sy} (ha : ArOk sig) {X : List Int} {K : List (List Nat)} {C : List Nat} {ra rb : Nat} (hB : BOk6 sig X K) (h : SolB sig X K C ra rb) : ∀ n u, gB6 X K C n = some u → rowE sig u = 0 := fun n u hu => by
  have hu0 := hu
  unfold gB6 at hu
  split at hu
  · rename_i h9
    obtain ⟨i, hi, h0⟩ := h9
    rw [gB6_eq hB h hi h0] at hu0
    cases hu0
    have hil : i < C.length := by rw [h.ok.len]; exact (List.getElem?_eq_some_iff.1 hi).1
    have hci : C[i]? = some C[i] := List.getElem?_eq_getElem hil
    obtain ⟨t, ht⟩ := h.tm i _ hci
    rw [tK_eq hB h.ok hci ht]
    exact tmK_right ha hB h.ok ht (h.ok.id _ _ hci).2
  · cases hu

theorem unifB_yes {sig : List Sy} (ha : ArOk sig) {X : List Int} {K : List (List Nat)} {C : List Nat} {ra rb : Nat} (hB : BOk6 sig X K) (h : SolB sig X K C ra rb) {a b : List Int} (hta : TmB X K ra a) (htb : TmB X K rb b) : Unif sig a b := by
  refine ⟨gB6 X K C, gB6_right ha hB h, ?_⟩
  rw [solB_laid hB h hta, solB_laid hB h htb]
  have hal : ra < C.length := by rw [h.ok.len]; exact tmB_lt hta
  have hca : C[ra]? = some C[ra] := List.getElem?_eq_getElem hal
  obtain ⟨t, ht⟩ := h.tm ra _ hca
  rw [tK_eq hB h.ok hca ht, tK_eq hB h.ok (by rw [← h.one]; exact hca) ht]

/-- Classes without an end: nothing solves. -/
theorem circleB {sig : List Sy} {X : List Int} {K : List (List Nat)} {C : List Nat} {ra rb : Nat} (hB : BOk6 sig X K) (hC : ClB X C) (hj : JnB sig X K C ra rb) (Z : Nat → Prop) (hZ : ∀ c, Z c → C[c]? = some c ∧ ∃ (h x d : Nat) (s : Int) (ks : List Nat), C[h]? = some c ∧ X[h]? = some s ∧ ¬ s < 0 ∧ K[h]? = some ks ∧ x ∈ ks ∧ C[x]? = some d ∧ Z d) {V : Nat → List Int} (hV : ValB sig X K V) (he : V ra = V rb) : ∀ (m c : Nat), (V c).length ≤ m → ¬ Z c
  | 0, c, hm, hz => by
    obtain ⟨hid, h, x, d, s, ks, h1, h2, h3, h4, h5, h6, h7⟩ := hZ c hz
    have hcl : c < X.length := by rw [← hC.len]; exact (List.getElem?_eq_some_iff.1 hid).1
    have hhl := (List.getElem?_eq_some_iff.1 h2).1
    have e := hj V hV he c h hcl hhl (by rw [hid, h1])
    rw [e, hV.2.1 h s ks h2 h4 h3] at hm
    simp at hm
  | m + 1, c, hm, hz => by
    obtain ⟨hid, h, x, d, s, ks, h1, h2, h3, h4, h5, h6, h7⟩ := hZ c hz
    have hcl : c < X.length := by rw [← hC.len]; exact (List.getElem?_eq_some_iff.1 hid).1
    have hhl := (List.getElem?_eq_some_iff.1 h2).1
    have e := hj V hV he c h hcl hhl (by rw [hid, h1])
    have hxl := (hB.lt h ks h4 x h5).2
    have hd := (hC.id x d h6).2
    have hdl : d < X.length := by rw [← hC.len]; exact (List.getElem?_eq_some_iff.1 hd).1
    have e2 := hj V hV he x d hxl hdl (by rw [h6, hd])
    rw [e, hV.2.1 h s ks h2 h4 h3, List.length_cons] at hm
    have h8 : (V x).length ≤ ((ks.map V).flatten).length := by
      obtain ⟨p, q, rfl⟩ := List.append_of_mem h5
      rw [List.map_append, List.map_cons, List.flatten_append, List.flatten_cons, List.length_append, List.length_append]
      omega
    exact circleB hB hC hj Z hZ hV he m d (by rw [← e2]; omega) h7

end Go.Proofs.YtelacmijkbgliaaDoor
