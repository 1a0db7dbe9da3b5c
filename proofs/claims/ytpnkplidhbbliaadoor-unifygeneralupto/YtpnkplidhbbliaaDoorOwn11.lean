/- Texts of the proof, one behind the other. -/
import Derived.Test.YtpnkplidhbbliaaDoorOwn10
import Derived.Test.YtpnkplidhbbliaaDoorOwn9
import Derived.Test.YtpnkplidhbbliaaDoorOwn5
/- Counting the nodes of classes, plainly: what holds between the rounds of count. -/
namespace Go.Proofs.YtpnkplidhbbliaaDoor
open Go.RowKit Go.Maps Go.BigFrame

/-- A length, cut off. -/
def cutL (n : Nat) : Int := if n < 513 then (n : Int) else 513

theorem sumC_len {cnt : Nat → Int} {ps : List Nat} {ts : List (List Int)} (hl : ts.length = ps.length) (h : ∀ (k p : Nat) (t : List Int), ps[k]? = some p → ts[k]? = some t → cnt p = cutL t.length) : sumC cnt ps = cutL (1 + ts.flatten.length) := by
  unfold sumC
  have key : ∀ (ps : List Nat) (ts : List (List Int)) (n : Nat), 1 ≤ n → ts.length = ps.length → (∀ (k p : Nat) (t : List Int), ps[k]? = some p → ts[k]? = some t → cnt p = cutL t.length) → ps.foldl (fun s p => if s + cnt p < 513 then s + cnt p else 513) (cutL n) = cutL (n + ts.flatten.length) := by
    intro ps
    induction ps with
    | nil =>
      intro ts n _ hl _
      have : ts = [] := List.eq_nil_of_length_eq_zero (by simpa using hl)
      subst this
      simp
    | cons p ps ih =>
      intro ts n hn hl h
      cases ts with
      | nil => simp at hl
      | cons t ts =>
        have h0 := h 0 p t rfl rfl
        have e : (if cutL n + cnt p < 513 then cutL n + cnt p else 513) = cutL (n + t.length) := by
          rw [h0]
          unfold cutL
          split <;> split <;> split <;> split <;> omega
        rw [List.foldl_cons, e, ih ts (n + t.length) (by omega) (by simpa using hl) (fun k p t hk ht => h (k + 1) p t (by simpa using hk) (by simpa using ht)), List.flatten_cons, List.length_append, Nat.add_assoc]
  have h1 := key ps ts 1 (by omega) hl h
  rw [← h1]
  rfl

theorem pts_iff {M : List Nm} {root face : Nat → Nat} {q d : Nat} : d ∈ ptsN M root (face q) ↔ Pt (M.map Nm.nd) root face q d := by
  unfold ptsN Pt
  cases hm : M[face q]? with
  | none =>
    simp only [Option.map_none, List.not_mem_nil, false_iff]
    rintro ⟨s, xs, x, h1, _⟩
    rw [List.getElem?_map, hm] at h1
    cases h1
  | some m =>
    simp only [Option.map_some]
    cases hn : m.nd with
    | var n =>
      simp only [List.not_mem_nil, false_iff]
      rintro ⟨s, xs, x, h1, _⟩
      rw [List.getElem?_map, hm, Option.map_some, hn] at h1
      cases h1
    | app c xs =>
      simp only
      constructor
      · intro h
        obtain ⟨x, hx, rfl⟩ := List.mem_map.1 h
        exact ⟨c, xs, x, by rw [List.getElem?_map, hm, Option.map_some, hn], hx, rfl⟩
      · rintro ⟨s, ys, x, h1, h2, rfl⟩
        rw [List.getElem?_map, hm, Option.map_some, hn] at h1
        cases h1
        exact List.mem_map.2 ⟨x, h2, rfl⟩

/-- What holds between the rounds. -/
structure CI (M : List Nm) (root face : Nat → Nat) (r : Nat) (cnt : Nat → Int) (O : List Nat) : Prop where
  st : ∀ i, i < M.length → root i = i → cnt i = 0 ∨ cnt i = -1 ∨ ∃ t, TmC (M.map Nm.nd) root face i t ∧ cnt i = cutL t.length
  el : ∀ q ∈ O, q < M.length ∧ root q = q
  op : ∀ q, q < M.length → root q = q → cnt q = -1 → ∃ s : Nat, O[s]? = some q ∧ (∀ d, Pt (M.map Nm.nd) root face q d → 0 < cnt d ∨ ∃ s' : Nat, s < s' ∧ O[s']? = some d) ∧ ∀ (s' e : Nat), s < s' → O[s']? = some e → Rch (M.map Nm.nd) root face q e ∧ e ≠ q
  go : 0 < cnt r ∨ O[0]? = some r
  dn : ∀ q, q < M.length → root q = q → 0 < cnt q → ∀ d, Pt (M.map Nm.nd) root face q d → 0 < cnt d

theorem cut_pos {n : Nat} (h : 0 < n) : 0 < cutL n ∧ cutL n ≤ 513 := by unfold cutL; split <;> omega

theorem tm_pos {L : List Nd} {root face : Nat → Nat} {c : Nat} {t : List Int} (h : TmC L root face c t) : 0 < t.length := by
  cases h <;> simp

theorem ci_pos {M : List Nm} {root face : Nat → Nat} {r : Nat} {cnt : Nat → Int} {O : List Nat} (h : CI M root face r cnt O) {i : Nat} (hi : i < M.length) (hr : root i = i) : cnt i ≤ 513 ∧ -1 ≤ cnt i := by
  rcases h.st i hi hr with h1 | h1 | ⟨t, ht, h1⟩
  · omega
  · omega
  · have := cut_pos (tm_pos ht)
    omega

theorem last_at {O' : List Nat} {q s d : Nat} (h : (O' ++ [q])[s]? = some d) : O'[s]? = some d ∨ (s = O'.length ∧ d = q) := by
  by_cases hs : s < O'.length
  · rw [List.getElem?_append_left hs] at h
    exact .inl h
  · have hl := (List.getElem?_eq_some_iff.1 h).1
    rw [List.length_append, List.length_singleton] at hl
    have e : s = O'.length := by omega
    subst e
    rw [List.getElem?_append_right (Nat.le_refl _), Nat.sub_self] at h
    cases h
    exact .inr ⟨rfl, rfl⟩

/-- A class that is counted is taken off. -/
theorem ci_pop {M : List Nm} {root face : Nat → Nat} {r q : Nat} {cnt : Nat → Int} {O' : List Nat} (h : CI M root face r cnt (O' ++ [q])) (h0 : cnt q ≠ 0) (h1 : cnt q ≠ -1) : CI M root face r cnt O' := by
  obtain ⟨hql, hqr⟩ := h.el q (by simp)
  have hqp : 0 < cnt q := by
    rcases h.st q hql hqr with h2 | h2 | ⟨t, ht, h2⟩
    · exact absurd h2 h0
    · exact absurd h2 h1
    · have := cut_pos (tm_pos ht)
      omega
  refine ⟨h.st, fun x hx => h.el x (by simp [hx]), fun x hx hxr hxc => ?_, ?_, h.dn⟩
  · obtain ⟨s, s1, s2, s3⟩ := h.op x hx hxr hxc
    rcases last_at s1 with s1 | ⟨_, rfl⟩
    · refine ⟨s, s1, fun d hd => ?_, fun s' e hs he => s3 s' e hs (by rw [List.getElem?_append_left (List.getElem?_eq_some_iff.1 he).1]; exact he)⟩
      rcases s2 d hd with h2 | ⟨s', h3, h4⟩
      · exact .inl h2
      · rcases last_at h4 with h4 | ⟨_, rfl⟩
        · exact .inr ⟨s', h3, h4⟩
        · exact .inl hqp
    · exact absurd hxc h1
  · rcases h.go with h2 | h2
    · exact .inl h2
    · rcases last_at h2 with h2 | ⟨_, rfl⟩
      · exact .inr h2
      · exact .inl hqp

/-- The parts of a class that is to be finished. -/
theorem ci_parts {M : List Nm} {root face : Nat → Nat} {r q : Nat} {cnt : Nat → Int} {O' : List Nat} (h : CI M root face r cnt (O' ++ [q])) (h1 : cnt q = -1) : ∀ d, Pt (M.map Nm.nd) root face q d → d ≠ q ∧ 0 < cnt d := fun d hd => by
  obtain ⟨hql, hqr⟩ := h.el q (by simp)
  obtain ⟨s, s1, s2, s3⟩ := h.op q hql hqr h1
  have hs : s = O'.length := by
    rcases last_at s1 with s4 | ⟨s4, _⟩
    · have hlt := (List.getElem?_eq_some_iff.1 s4).1
      exact absurd rfl (s3 O'.length q hlt (by rw [List.getElem?_append_right (Nat.le_refl _), Nat.sub_self]; rfl)).2
    · exact s4
  have hp : 0 < cnt d := by
    rcases s2 d hd with h2 | ⟨s', h3, h4⟩
    · exact h2
    · have := (List.getElem?_eq_some_iff.1 h4).1
      rw [List.length_append, List.length_singleton] at this
      omega
  exact ⟨fun e => by subst e; omega, hp⟩

/-- A class whose parts are counted is, and is taken off. -/
theorem ci_fin {sig : List Sy} {M : List Nm} (hL : NdOk sig (M.map Nm.nd)) {root face : Nat → Nat} (hc : ClOk (M.map Nm.nd) root face) {r q : Nat} {cnt : Nat → Int} {O' : List Nat} (h : CI M root face r cnt (O' ++ [q])) (h1 : cnt q = -1) : CI M root face r (fun j => if j = q then sumC cnt (ptsN M root (face q)) else cnt j) O' := by
  have hlen : (M.map Nm.nd).length = M.length := by rw [List.length_map]
  obtain ⟨hql, hqr⟩ := h.el q (by simp)
  have hps := ci_parts h h1
  have hfl := hc.face_lt q (by omega)
  rw [hqr] at hfl
  obtain ⟨mf, hmf⟩ : ∃ m, M[face q]? = some m := ⟨_, List.getElem?_eq_getElem (by omega)⟩
  have hLf : (M.map Nm.nd)[face q]? = some mf.nd := by rw [List.getElem?_map, hmf]; rfl
  have htm : ∃ t, TmC (M.map Nm.nd) root face q t ∧ sumC cnt (ptsN M root (face q)) = cutL t.length := by
    cases hn : mf.nd with
    | var n =>
      rw [hn] at hLf
      refine ⟨_, TmC.var hLf, ?_⟩
      unfold ptsN
      rw [hmf]
      simp only [Option.map_some, hn]
      rfl
    | app c xs =>
      rw [hn] at hLf
      have hall : ∀ x ∈ xs, ∃ t, TmC (M.map Nm.nd) root face (root x) t ∧ cnt (root x) = cutL t.length := fun x hx => by
        have hxl := Nat.lt_trans (hL.ahead _ _ _ hLf x hx) (List.getElem?_eq_some_iff.1 hLf).1
        obtain ⟨p1, p2⟩ := hps (root x) ⟨c, xs, x, hLf, hx, rfl⟩
        rcases h.st (root x) (by have := hc.lt x hxl; omega) (hc.idem x hxl) with h2 | h2 | h2
        · omega
        · omega
        · exact h2
      obtain ⟨ts, hts1, hts2⟩ : ∃ ts : List (List Int), ts.length = xs.length ∧ ∀ (k x : Nat) (t : List Int), xs[k]? = some x → ts[k]? = some t → TmC (M.map Nm.nd) root face (root x) t ∧ cnt (root x) = cutL t.length := by
        clear hLf hn hmf
        induction xs with
        | nil => exact ⟨[], rfl, fun k x t hk => by simp at hk⟩
        | cons x xs ih =>
          obtain ⟨t, ht⟩ := hall x (by simp)
          obtain ⟨ts, i1, i2⟩ := ih (fun y hy => hall y (by simp [hy]))
          refine ⟨t :: ts, by simp [i1], fun k y u hk hu => ?_⟩
          cases k with
          | zero =>
            simp only [List.getElem?_cons_zero, Option.some.injEq] at hk hu
            subst hk hu
            exact ht
          | succ k => exact i2 k y u (by simpa using hk) (by simpa using hu)
      refine ⟨c :: ts.flatten, TmC.app hLf hts1 (fun k x t hx ht => (hts2 k x t hx ht).1), ?_⟩
      unfold ptsN
      rw [hmf]
      simp only [Option.map_some, hn]
      rw [sumC_len (ts := ts) (by rw [List.length_map]; exact hts1) (fun k p t hp ht => by
        rw [List.getElem?_map] at hp
        cases hx : xs[k]? with
        | none => rw [hx] at hp; cases hp
        | some x =>
          rw [hx] at hp
          cases hp
          exact (hts2 k x t hx ht).2), List.length_cons, Nat.add_comm]
  obtain ⟨t, ht, hst⟩ := htm
  have hpos : 0 < sumC cnt (ptsN M root (face q)) := by rw [hst]; exact (cut_pos (tm_pos ht)).1
  have hup : ∀ d, 0 < cnt d → 0 < (if d = q then sumC cnt (ptsN M root (face q)) else cnt d) := fun d hd => by
    split
    · exact hpos
    · exact hd
  refine ⟨fun i hi hr => ?_, fun x hx => h.el x (by simp [hx]), fun x hx hxr hxc => ?_, ?_, fun x hx hxr hxc d hd => ?_⟩
  · by_cases e : i = q
    · subst e
      simp only [if_true]
      exact .inr (.inr ⟨t, ht, hst⟩)
    · simp only [if_neg e]
      exact h.st i hi hr
  · by_cases e : x = q
    · simp only [if_pos e] at hxc
      omega
    · simp only [if_neg e] at hxc
      obtain ⟨s, s1, s2, s3⟩ := h.op x hx hxr hxc
      rcases last_at s1 with s1 | ⟨_, rfl⟩
      · refine ⟨s, s1, fun d hd => ?_, fun s' e hs he => s3 s' e hs (by rw [List.getElem?_append_left (List.getElem?_eq_some_iff.1 he).1]; exact he)⟩
        rcases s2 d hd with h2 | ⟨s', h3, h4⟩
        · exact .inl (hup d h2)
        · rcases last_at h4 with h4 | ⟨_, rfl⟩
          · exact .inr ⟨s', h3, h4⟩
          · simp only [if_true]
            exact .inl hpos
      · exact absurd rfl e
  · rcases h.go with h2 | h2
    · exact .inl (hup r h2)
    · rcases last_at h2 with h2 | ⟨_, rfl⟩
      · exact .inr h2
      · simp only [if_true]
        exact .inl hpos
  · by_cases e : x = q
    · subst e
      exact hup d (hps d hd).2
    · rw [if_neg e] at hxc
      exact hup d (h.dn x hx hxr hxc d hd)

/-- A class is opened: its parts wait. -/
theorem ci_push {sig : List Sy} {M : List Nm} (hL : NdOk sig (M.map Nm.nd)) {root face : Nat → Nat} (hc : ClOk (M.map Nm.nd) root face) {r q : Nat} {cnt : Nat → Int} {O' : List Nat} (h : CI M root face r cnt (O' ++ [q])) (h0 : cnt q = 0) (hn : ∀ d ∈ ptsN M root (face q), (if d = q then (-1 : Int) else cnt d) ≠ -1) : CI M root face r (fun j => if j = q then -1 else cnt j) (O' ++ [q] ++ ptsN M root (face q)) := by
  have hlen : (M.map Nm.nd).length = M.length := by rw [List.length_map]
  obtain ⟨hql, hqr⟩ := h.el q (by simp)
  have hpr : ∀ d, Pt (M.map Nm.nd) root face q d → d < M.length ∧ root d = d := fun d ⟨s, xs, x, h1, h2, e⟩ => by
    have hxl := Nat.lt_trans (hL.ahead _ _ _ h1 x h2) (List.getElem?_eq_some_iff.1 h1).1
    subst e
    exact ⟨by have := hc.lt x hxl; omega, hc.idem x hxl⟩
  have hup : ∀ d, 0 < cnt d → 0 < (if d = q then (-1 : Int) else cnt d) := fun d hd => by
    split
    · rename_i e
      subst e
      omega
    · exact hd
  have hl1 : (O' ++ [q]).length = O'.length + 1 := by simp
  refine ⟨fun i hi hr => ?_, fun x hx => ?_, fun x hx hxr hxc => ?_, ?_, fun x hx hxr hxc d hd => ?_⟩
  · by_cases e : i = q
    · simp only [if_pos e]
      exact .inr (.inl trivial)
    · simp only [if_neg e]
      exact h.st i hi hr
  · rcases List.mem_append.1 hx with hx | hx
    · exact h.el x hx
    · exact hpr x (pts_iff.1 hx)
  · by_cases e : x = q
    · subst e
      refine ⟨O'.length, by rw [List.getElem?_append_left (by omega), List.getElem?_append_right (Nat.le_refl _), Nat.sub_self]; rfl, fun d hd => ?_, fun s' e9 hs he => ?_⟩
      · obtain ⟨k, hk⟩ := List.getElem?_of_mem (pts_iff.2 hd)
        exact .inr ⟨O'.length + 1 + k, by omega, by rw [List.getElem?_append_right (by omega), hl1, show O'.length + 1 + k - (O'.length + 1) = k by omega]; exact hk⟩
      · rw [List.getElem?_append_right (by omega)] at he
        have hm := List.mem_of_getElem? he
        refine ⟨.one (pts_iff.1 hm), fun e => ?_⟩
        subst e
        exact hn _ hm (by rw [if_pos rfl])
    · simp only [if_neg e] at hxc
      obtain ⟨s, s1, s2, s3⟩ := h.op x hx hxr hxc
      have hsl := (List.getElem?_eq_some_iff.1 s1).1
      have hsq : s < O'.length := by
        rcases last_at s1 with s4 | ⟨_, s4⟩
        · exact (List.getElem?_eq_some_iff.1 s4).1
        · exact absurd s4 e
      have hrq := (s3 O'.length q hsq (by rw [List.getElem?_append_right (Nat.le_refl _), Nat.sub_self]; rfl)).1
      refine ⟨s, by rw [List.getElem?_append_left hsl]; exact s1, fun d hd => ?_, fun s' e9 hs he => ?_⟩
      · rcases s2 d hd with h2 | ⟨s', h3, h4⟩
        · exact .inl (hup d h2)
        · exact .inr ⟨s', h3, by rw [List.getElem?_append_left (List.getElem?_eq_some_iff.1 h4).1]; exact h4⟩
      · by_cases hs2 : s' < (O' ++ [q]).length
        · rw [List.getElem?_append_left hs2] at he
          exact s3 s' e9 hs he
        · rw [List.getElem?_append_right (by omega)] at he
          have hm := List.mem_of_getElem? he
          refine ⟨.more hrq (pts_iff.1 hm), fun e8 => ?_⟩
          subst e8
          exact hn _ hm (by rw [if_neg e]; exact hxc)
  · rcases h.go with h2 | h2
    · exact .inl (hup r h2)
    · exact .inr (by rw [List.getElem?_append_left (List.getElem?_eq_some_iff.1 h2).1]; exact h2)
  · by_cases e : x = q
    · rw [if_pos e] at hxc
      omega
    · rw [if_neg e] at hxc
      exact hup d (h.dn x hx hxr hxc d hd)

/-- A part that is open: a circle. -/
theorem ci_circle {sig : List Sy} {M : List Nm} (hL : NdOk sig (M.map Nm.nd)) {root face : Nat → Nat} (hc : ClOk (M.map Nm.nd) root face) {r q d : Nat} {cnt : Nat → Int} {O' : List Nat} (h : CI M root face r cnt (O' ++ [q])) (hd : d ∈ ptsN M root (face q)) (hn : (if d = q then (-1 : Int) else cnt d) = -1) : ∃ c, c < M.length ∧ root c = c ∧ Rch (M.map Nm.nd) root face c c := by
  have hlen : (M.map Nm.nd).length = M.length := by rw [List.length_map]
  obtain ⟨hql, hqr⟩ := h.el q (by simp)
  have hp := pts_iff.1 hd
  by_cases e : d = q
  · subst e
    exact ⟨d, hql, hqr, .one hp⟩
  · rw [if_neg e] at hn
    obtain ⟨s9, xs, x, h1, h2, e9⟩ := hp
    have hxl := Nat.lt_trans (hL.ahead _ _ _ h1 x h2) (List.getElem?_eq_some_iff.1 h1).1
    have hdl : d < M.length ∧ root d = d := by subst e9; exact ⟨by have := hc.lt x hxl; omega, hc.idem x hxl⟩
    obtain ⟨s, s1, s2, s3⟩ := h.op d hdl.1 hdl.2 hn
    have hsq : s < O'.length := by
      rcases last_at s1 with s4 | ⟨_, s4⟩
      · exact (List.getElem?_eq_some_iff.1 s4).1
      · exact absurd s4 e
    have hrq := (s3 O'.length q hsq (by rw [List.getElem?_append_right (Nat.le_refl _), Nat.sub_self]; rfl)).1
    exact ⟨d, hdl.1, hdl.2, .more hrq (pts_iff.1 hd)⟩

/-- How many are not counted. -/
def nZero (n : Nat) (cnt : Nat → Int) : Nat := ((List.range n).filter fun i => decide (cnt i = 0)).length

theorem nZero_mark {n q : Nat} {cnt : Nat → Int} (hq : q < n) (h0 : cnt q = 0) : nZero n (fun j => if j = q then -1 else cnt j) < nZero n cnt := by
  unfold nZero
  refine filter_lt (fun i _ hp => ?_) (List.mem_range.2 hq) (decide_eq_true h0) (decide_eq_false (by simp only [if_true]; omega))
  have h1 := of_decide_eq_true hp
  by_cases e : i = q
  · simp only [if_pos e] at h1
    omega
  · simp only [if_neg e] at h1
    exact decide_eq_true h1

theorem nZero_less {n q : Nat} {cnt : Nat → Int} {x : Int} (hx : x ≠ 0) : nZero n (fun j => if j = q then x else cnt j) ≤ nZero n cnt := by
  unfold nZero
  refine filter_less fun i _ hp => ?_
  have h1 := of_decide_eq_true hp
  by_cases e : i = q
  · simp only [if_pos e] at h1
    exact absurd h1 hx
  · simp only [if_neg e] at h1
    exact decide_eq_true h1

theorem nZero_le (n : Nat) (cnt : Nat → Int) : nZero n cnt ≤ n := by
  unfold nZero
  have := List.length_filter_le (fun i => decide (cnt i = 0)) (List.range n)
  simpa using this

end Go.Proofs.YtpnkplidhbbliaaDoor

/- count of package unify walked. -/
namespace Go.Proofs.YtpnkplidhbbliaaDoor
open Go.RowKit Go.Maps Go.BigFrame

theorem snoc7 {α : Type} (l : List α) : l = [] ∨ ∃ xs x, l = xs ++ [x] := by
  rcases List.eq_nil_or_concat l with h | ⟨xs, x, h⟩
  · exact .inl h
  · exact .inr ⟨xs, x, by rw [h, List.concat_eq_append]⟩

set_option maxRecDepth 100000 in
set_option maxHeartbeats 3200000 in
theorem uCount_any {sig : List Sy} (har : ArOk sig) {w : World} {B T : Nat} {M : List Nm} {into : Nat → Option Nat} {face : Nat → Nat} {cnt : Nat → Int} {root rk : Nat → Nat} {r : Nat} {mr : Nm} (hL : NdOk sig (M.map Nm.nd)) (hok : ClOk (M.map Nm.nd) root face) (hn : M.length ≤ 4194304) (hlow : T ≤ w.heap.size) (hb : Bd6 w B T M into face cnt) (hf : Fr6 M.length into root rk) (hci : CI M root face r cnt [r]) (hmr : M[r]? = some mr) :
    Calls Tryd.prog 39 #[.pointer (some ⟨mr.cls, 0, none⟩)] w fun e w' => ∃ ok into' cnt', e = .returned (.bool ok) ∧ Bd6 w' B T M into' face cnt' ∧ Fr6 M.length into' root rk ∧ Ch6 M w w' ∧ (ok = false → ∃ c, c < M.length ∧ root c = c ∧ Rch (M.map Nm.nd) root face c c) ∧ (ok = true → CI M root face r cnt' []) := by
  have hlen : (M.map Nm.nd).length = M.length := by rw [List.length_map]
  obtain ⟨hwf, hsym⟩ := nd_wf har hL
  have hrl : ∀ i, i < M.length → root i < M.length := fun i hi => by have := hok.lt i (by omega); omega
  have hfl : ∀ i, i < M.length → root i = i → face i < M.length := fun i hi hr => by have := hok.face_lt i (by omega); rw [hr] at this; omega
  have HB := hid hb
  have HF := hid hf
  have HCI := hid hci
  have HLo := hid hlow
  have HL := hid hL
  have HOk := hid hok
  have HWf := hid hwf
  have HRl := hid hrl
  have HFl := hid hfl
  have HMr := hid hmr
  have hcw : ∀ m ∈ M, m.cls < w.heap.size := fun m hm => Nat.lt_of_lt_of_le (hb.low m hm).1.2 hlow
  have HCw := hid hcw
  clear hb hf hci hlow hL hok hwf hsym hrl hfl hmr har hlen hcw
  go_enter Tryd.func39, Tryd.ntmps39
  go_wp2
  go_loopg [3] (M.length * 1001 + 1) (fun k v wr => ∃ (O : List Nat) (into' : Nat → Option Nat) (cnt' : Nat → Int), OwC6 wr w.heap.size M v O ∧ Bd6 wr B T M into' face cnt' ∧ Fr6 M.length into' root rk ∧ CI M root face r cnt' O ∧ Ch6 M w wr ∧ nZero M.length cnt' * 1001 + O.length ≤ k ∧ k ≤ M.length * 1001 + 1)
  case atStart =>
    have hbA : Below w.heap.size w (w.alloc (.cells #[.pointer (some ⟨mr.cls, 0, none⟩)] 68)) := below_alloc _
    refine ⟨[r], into, cnt, ?_, HB.out.later hbA, HF.out, HCI.out, Ch6.of_below hbA, ?_, Nat.le_refl _⟩
    · refine ⟨rfl, .inr ⟨w.heap.size, 1, #[.pointer (some ⟨mr.cls, 0, none⟩)], rfl, Nat.le_refl _, heap_alloc_new _ _, Nat.le_refl _, by simp [maxLen], rfl, ?_⟩⟩
      simp only [List.map_cons, List.map_nil]
      rw [clV_eq HMr.out]
      rfl
    · have := nZero_le M.length cnt
      simp only [List.length_cons, List.length_nil]
      omega
  case round =>
    obtain ⟨O, into', cnt', how, hb', hf', hc', hch, hk1, hk2⟩ := hrel
    have HB' := hid hb'
    have HF' := hid hf'
    have HC' := hid hc'
    have HCh := hid hch
    rcases snoc7 O with rfl | ⟨Q, q, rfl⟩
    · obtain ⟨ao, cp, rfl⟩ : ∃ ao cp, u3 = .slice ao 0 cp := by
        rcases how.2 with ⟨h8, _⟩ | ⟨g8, c8, _, h8, _⟩
        · exact ⟨_, _, h8⟩
        · exact ⟨_, _, h8⟩
      clear how hb' hf' hc' hch hk1 hk2
      go_wp2
      go_ret
      exact ⟨true, into', cnt', rfl, HB'.out, HF'.out, HCh.out, fun h => (by cases h), fun _ => HC'.out⟩
    · obtain ⟨hql, hqr⟩ := hc'.el q (by simp)
      obtain ⟨mq, hmq⟩ : ∃ m, M[q]? = some m := ⟨_, List.getElem?_eq_getElem hql⟩
      obtain ⟨g, cp, hv, hge, hcp1, hcp2, hca⟩ := own_last6 how (k := Q.length) (x := q) (by simp)
      have hll : (Q ++ [q]).length = Q.length + 1 := by simp
      rw [hll] at hv hcp1
      subst hv
      have hct := own_cut6 (k := Q.length) (by rw [hll]; exact how) (by rw [hll]; omega)
      rw [List.take_left] at hct
      have HOw : Hid (OwC6 wr w.heap.size M (.slice (some ⟨g, 0, none⟩) (Q.length + 1) cp) (Q ++ [q])) := by rw [← hll]; rw [hll]; exact how
      obtain ⟨N, hN⟩ : ∃ N, N = Q.length := ⟨_, rfl⟩
      rw [← hN] at hca hct hcp1 HOw ⊢
      have HCt := hid hct
      have HMq := hid hmq
      have HN := hid hN
      have hNb : N ≤ 4294967296 := by rw [hN]; rw [hll] at hk1; omega
      have hw1 : IntKind.i64.wrap ((N : Int) + 1 - 1) = (N : Int) := by rw [IntWalk.i64_in _ ⟨by omega, by omega⟩]; omega
      have hw1' : IntKind.i64.wrap (N : Int) = (N : Int) := IntWalk.i64_in _ ⟨by omega, by omega⟩
      have hxc : N ≤ cp := by omega
      rw [clV_eq hmq] at hca
      obtain ⟨k9, hk9, _, _, _, x3⟩ := hb'.clc hmq
      have HQl := hid hql
      have HQr := hid hqr
      have HK1 : Hid (nZero M.length cnt' * 1001 + (Q.length + 1) ≤ gk) := by rw [hll] at hk1; exact hk1
      have HK2 := hid hk2
      have HFq := hid (HFl.out q hql hqr)
      by_cases h0 : cnt' q = 0
      · rw [h0] at x3
        have f3 : wr.frozen? ⟨mq.cls, 3, none⟩ = false := frozen_of_row _ _ _ _ _ hk9
        obtain ⟨W1, hW1⟩ : ∃ X, X = wr.setCell ⟨mq.cls, 3, none⟩ (.int .i64 (-1)) := ⟨_, rfl⟩
        obtain ⟨hb1, hc1⟩ := hb'.put hmq (o := into' q) (f := face q) (n := -1) (w' := W1) (by rw [hW1]; exact set_grown _ _ _ _) ⟨k9, by rw [hW1]; exact heap_setCell_same _ _ _ _ _ _ hk9⟩
        rw [if_self6, if_self6] at hb1
        have HC1 := hid (hch.trans hc1)
        have HO1 : Hid (OwC6 W1 w.heap.size M (.slice (some ⟨g, 0, none⟩) (N + 1) cp) (Q ++ [q])) := own_ch6 HOw.out hc1 HCw.out
        have HPa := hid (parts_any hb1 hf' (Nat.le_trans HLo.out (hch.trans hc1).size) HWf.out hmq HFq.out)
        obtain ⟨ps, hps⟩ : ∃ ps, ps = ptsN M root (face q) := ⟨_, rfl⟩
        rw [← hps] at HPa
        have HPs := hid hps
        obtain ⟨hpl, hpn⟩ := ptsN_lt HWf.out HRl.out (f := face q)
        rw [← hps] at hpl hpn
        have HPl := hid hpl
        have H0 := hid h0
        obtain ⟨cnt1, hcnt1⟩ : ∃ c : Nat → Int, c = fun j => if j = q then -1 else cnt' j := ⟨_, rfl⟩
        rw [← hcnt1] at HPa
        have HCn1 := hid hcnt1
        clear how hb' hf' hc' hch hk1 hk2 hll hct hmq hk9 hb1 hc1 hps hpl h0 hcnt1 hN hql hqr
        go_upto_region 8 with fail
        rw [← hW1]
        clear hW1 x3 f3 hca hw1 hw1'
        go_wp2_with fail
        refine HPa.out.mono ?_
        rintro e w2 ⟨v2, into2, rfl, o2, hb2, hf2, hc2⟩
        obtain ⟨ao, cap, hv2, hcap1, hcap2⟩ := o2.shape
        subst hv2
        unfold maxLen at hcap2
        have HO2 := hid o2
        have HB2 := hid hb2
        have HF2 := hid hf2
        have HC2 := hid (HC1.out.trans hc2)
        have HV2 : Hid (OwC6 w2 w.heap.size M (.slice (some ⟨g, 0, none⟩) (N + 1) cp) (Q ++ [q])) := own_ch6 HO1.out hc2 HCw.out
        have HW1s := hid HC1.out.size
        have HS12 := hid hc2.size
        have HNb : Hid (∀ j, Value.ownBlock (.slice (some ⟨g, 0, none⟩) (N + 1) cp) = some j → Value.ownBlock (.slice ao ps.length cap) ≠ some j) := fun j hj e => by
          have h1 := own_blk_lt HO1.out hj
          have h2 := own_blk HO2.out e
          omega
        clear o2 hb2 hf2 hc2 HPa HO1
        go_wp2
        go_loopw [3, 36] (fun v kv wy => ∃ k : Nat, k ≤ ps.length ∧ kv = .int .i64 k ∧ OwC6 wy w.heap.size M v (Q ++ [q] ++ ps.take k) ∧ OwC6 wy W1.heap.size M (.slice ao ps.length cap) ps ∧ Bd6 wy B T M into2 face cnt1 ∧ Ch6 M w wy ∧ W1.heap.size ≤ wy.heap.size ∧ (∀ j, v.ownBlock = some j → Value.ownBlock (.slice ao ps.length cap) ≠ some j) ∧ ∀ d ∈ ps.take k, cnt1 d ≠ -1) (fun _ kv _ => ps.length - (intOf kv).toNat)
        case atStart => exact ⟨0, Nat.zero_le _, rfl, by rw [List.take_zero, List.append_nil]; exact HV2.out, HO2.out, HB2.out, HC2.out, HS12.out, HNb.out, fun d hd => (by cases hd)⟩
        case round =>
          obtain ⟨k, hk, rfl, hov, hop, hby, hcy, hsy, hnb, hnm⟩ := hrel
          have HOv := hid hov
          have HOp := hid hop
          have HBy := hid hby
          have HCy := hid hcy
          have HNb2 := hid hnb
          have HNm := hid hnm
          by_cases hlt : k < ps.length
          · have hdk : decide ((k : Int) < (ps.length : Int)) = true := by simpa using hlt
            obtain ⟨p, hpk⟩ : ∃ p, ps[k]? = some p := ⟨_, List.getElem?_eq_getElem hlt⟩
            have hpm := List.mem_of_getElem? hpk
            obtain ⟨mp, hmp⟩ : ∃ m, M[p]? = some m := ⟨_, List.getElem?_eq_getElem (HPl.out p hpm)⟩
            obtain ⟨g2, cp2, hv, hge2, hcl1, hcl2, hcell⟩ := own_last6 hop hpk
            simp only [Value.slice.injEq] at hv
            obtain ⟨rfl, _, rfl⟩ := hv
            rw [clV_eq hmp] at hcell
            obtain ⟨kp, _, _, _, _, q3⟩ := hby.clc hmp
            obtain ⟨ao3, cap3, hv3, hcp31, hcp32⟩ := hov.shape
            have hlen3 : (Q ++ [q] ++ ps.take k).length = N + 1 + k := by rw [List.length_append, List.length_append, List.length_take, List.length_singleton, HN.out]; omega
            rw [hlen3] at hv3 hcp31
            subst hv3
            unfold maxLen at hcp32
            by_cases hm : cnt1 p = -1
            · rw [hm] at q3
              have HCi : Hid (∃ c, c < M.length ∧ root c = c ∧ Rch (M.map Nm.nd) root face c c) := ci_circle HL.out HOk.out HC'.out (d := p) (by rw [← HPs.out]; exact hpm) (by rw [HCn1.out] at hm; exact hm)
              clear hov hop hby hcy hnb hnm hpk hpm hmp hlen3 hm
              go_wp2
              go_ret
              exact ⟨false, into2, cnt1, rfl, HBy.out, HF2.out, HCy.out, fun _ => HCi.out, fun h => (by cases h)⟩
            · have hmb : (cnt1 p == -1) = false := by rw [beq_eq_false_iff_ne]; exact hm
              obtain ⟨WA, hWA⟩ : ∃ X, X = wr.alloc (.cells #[.pointer (some ⟨mp.cls, 0, none⟩)] 68) := ⟨_, rfl⟩
              have bA : Below wr.heap.size wr WA := by rw [hWA]; exact below_alloc _
              obtain ⟨v5, w5, hr5, o5, g5, d5⟩ := join_cls6 102 (ao := some ⟨wr.heap.size, 0, none⟩) (cap := 1) (ys := [p]) (own_ch6 hov (Ch6.of_below (M := M) bA) HCw.out) (.inr ⟨wr.heap.size, 0, rfl, fun j y hj => by
                match j, hj with
                | 0, hj =>
                  cases hj
                  rw [clV_eq hmp, hWA]
                  exact cell_new rfl
                | j + 1, hj => simp at hj⟩) (Nat.le_trans hcy.size bA.size) (by rw [hlen3]; simp only [List.length_cons, List.length_nil]; omega)
              have hnx : Q ++ [q] ++ ps.take (k + 1) = (Q ++ [q] ++ ps.take k) ++ [p] := by rw [take_get hpk, List.append_assoc (Q ++ [q])]
              rw [← hnx] at o5
              have hB5 : ∀ b, b < w.heap.size → w5.heap[b]? = wr.heap[b]? := fun b hb9 => by
                refine (g5.block b (Nat.lt_of_lt_of_le hb9 (Nat.le_trans hcy.size bA.size)) (fun e9 => ?_)).trans (bA.block b (Nat.lt_of_lt_of_le hb9 hcy.size))
                have := own_blk hov e9.symm
                omega
              have hpb : ∀ j, Value.ownBlock (.slice (some ⟨g2, 0, none⟩) ps.length cap) = some j → j < wr.heap.size := fun j hj => own_blk_lt hop hj
              have HO5p : Hid (OwC6 w5 W1.heap.size M (.slice (some ⟨g2, 0, none⟩) ps.length cap) ps) := own_grown6 (own_ch6 hop (Ch6.of_below (M := M) bA) (fun m hm9 => Nat.lt_of_lt_of_le (HCw.out m hm9) HW1s.out)) g5 (.inr fun e => by
                cases h9 : Value.ownBlock (.slice ao3 (N + 1 + k) cap3) with
                | none => rw [h9] at e; cases e
                | some j => exact hnb j h9 (e.trans h9))
              have HB5 := hid (hby.keep fun b hb9 => hB5 b (Nat.lt_of_lt_of_le hb9 HLo.out))
              have HC5 : Hid (Ch6 M w w5) := ⟨(g5.os.trans bA.os).trans hcy.os, (g5.tape.trans bA.tape).trans hcy.tape, (g5.output.trans bA.output).trans hcy.output, Nat.le_trans hcy.size (Nat.le_trans bA.size g5.size), fun b hb9 hm9 => (hB5 b hb9).trans (hcy.block b hb9 hm9)⟩
              have HS5 : Hid (W1.heap.size ≤ w5.heap.size) := Nat.le_trans hsy (Nat.le_trans bA.size g5.size)
              have HN5 : Hid (∀ j, v5.ownBlock = some j → Value.ownBlock (.slice (some ⟨g2, 0, none⟩) ps.length cap) ≠ some j) := fun j hj e => by
                rcases d5 with d5 | d5
                · exact hnb j (d5.symm.trans hj) e
                · rw [d5] at hj
                  have := hpb j e
                  have h8 := bA.size
                  cases hj
                  omega
              have HM5 : Hid (∀ d ∈ ps.take (k + 1), cnt1 d ≠ -1) := fun d hd => by
                rw [take_get hpk] at hd
                rcases List.mem_append.1 hd with hd | hd
                · exact hnm d hd
                · rw [List.mem_singleton] at hd
                  subst hd
                  exact hm
              have HR5 := hid hr5
              have HO5 := hid o5
              clear hov hop hby hcy hnb hnm hpk hpm hmp hlen3 hm hr5 o5 g5 d5 hnx hB5 hpb bA
              go_wp2_with (first
                | (rw [← hWA]; at_builtin; refine wpList_append_run rfl _ _ _ rfl _ _ rfl rfl HR5.out ?_))
              go_roundw
              case rel => exact ⟨k + 1, hlt, by go_num, HO5.out, HO5p.out, HB5.out, HC5.out, HS5.out, HN5.out, HM5.out⟩
              case measure => simp [intOf]; omega
          · have hdk : decide ((k : Int) < (ps.length : Int)) = false := by simpa using (show ¬ (k : Int) < (ps.length : Int) by omega)
            have hke : ps.take k = ps := List.take_of_length_le (by omega)
            rw [hke] at HOv HNm
            have HCi2 : Hid (CI M root face r cnt1 (Q ++ [q] ++ ps)) := by
              have h9 := ci_push HL.out HOk.out HC'.out H0.out (fun d hd => by have h8 := HNm.out d (by rw [HPs.out]; exact hd); rw [HCn1.out] at h8; exact h8)
              rw [← HPs.out, ← HCn1.out] at h9
              exact h9
            have HNz : Hid (nZero M.length cnt1 < nZero M.length cnt') := by
              have h9 := nZero_mark (n := M.length) HQl.out H0.out
              rw [← HCn1.out] at h9
              exact h9
            clear hov hop hby hcy hnb hnm hke
            go_wp2
            go_roundg (nZero M.length cnt1 * 1001 + (Q ++ [q] ++ ps).length)
            case measure => have h1 := HK1.out; have h2 := HNz.out; rw [List.length_append, List.length_append, List.length_singleton]; omega
            case rel => exact ⟨Q ++ [q] ++ ps, into2, cnt1, HOv.out, HBy.out, HF2.out, HCi2.out, HCy.out, Nat.le_refl _, by have h1 := HK1.out; have h2 := HNz.out; have h3 := HK2.out; rw [List.length_append, List.length_append, List.length_singleton]; omega⟩
      · have hne0 : (cnt' q != 0) = true := by rw [bne_iff_ne]; exact h0
        have HPt : Hid (cnt' q = -1 → ∀ p ∈ ptsN M root (face q), p ≠ q ∧ 0 ≤ cnt' p ∧ cnt' p ≤ 513) := fun h1 p hp => by
          obtain ⟨a1, a2⟩ := ci_parts hc' h1 p (pts_iff.1 hp)
          have hpl := (ptsN_lt HWf.out HRl.out (f := face q)).1 p hp
          have hpr : root p = p := by
            obtain ⟨s, xs, x, e1, e2, rfl⟩ := pts_iff.1 hp
            exact HOk.out.idem x (Nat.lt_trans (HL.out.ahead _ _ _ e1 x e2) (List.getElem?_eq_some_iff.1 e1).1)
          exact ⟨a1, by omega, (ci_pos hc' hpl hpr).1⟩
        have HFi := hid (finish_any hb' hf' (Nat.le_trans HLo.out hch.size) HWf.out HRl.out hmq HFq.out HPt.out)
        have H0 := hid h0
        clear how hb' hf' hc' hch hk1 hk2 hll hct hmq hk9 h0 hN hql hqr
        go_wp2_with fail
        refine HFi.out.mono ?_
        rintro e w2 ⟨rfl, into2, hb2, hf2, hc2⟩
        have HO2 : Hid (OwC6 w2 w.heap.size M (.slice (some ⟨g, 0, none⟩) N cp) Q) := own_ch6 HCt.out hc2 HCw.out
        have HC2 := hid (HCh.out.trans hc2)
        have HF2 := hid hf2
        have HNew : Hid (∃ cnt2, Bd6 w2 B T M into2 face cnt2 ∧ CI M root face r cnt2 Q ∧ nZero M.length cnt2 ≤ nZero M.length cnt') := by
          by_cases h1 : cnt' q = -1
          · rw [if_pos h1] at hb2
            have hci2 := ci_fin HL.out HOk.out HC'.out h1
            refine ⟨_, hb2, hci2, nZero_less ?_⟩
            have := (sumC_bnd (cnt := cnt') (ps := ptsN M root (face q)) (fun p hp => ⟨(HPt.out h1 p hp).2.1, (HPt.out h1 p hp).2.2⟩)).1
            omega
          · rw [if_neg h1, if_self6] at hb2
            exact ⟨cnt', hb2, ci_pop HC'.out H0.out h1, Nat.le_refl _⟩
        clear hb2 hf2 hc2 HFi hca x3 hw1 hw1' hne0
        go_wp2
        obtain ⟨cnt2, n1, n2, n3⟩ := HNew.out
        go_roundg (nZero M.length cnt2 * 1001 + Q.length)
        case measure => have := HK1.out; omega
        case rel => exact ⟨Q, into2, cnt2, by rw [← HN.out] at *; exact HO2.out, n1, HF2.out, n2, HC2.out, Nat.le_refl _, by have h1 := HK1.out; have h2 := HK2.out; omega⟩

end Go.Proofs.YtpnkplidhbbliaaDoor

/- row of package unify walked. -/
namespace Go.Proofs.YtpnkplidhbbliaaDoor
open Go.RowKit Go.Maps Go.BigFrame

/-- Classes and what they become. -/
def TmL (M : List Nm) (root face : Nat → Nat) (O : List Nat) (us : List (List Int)) : Prop := us.length = O.length ∧ ∀ (k c : Nat) (u : List Int), O[k]? = some c → us[k]? = some u → TmC (M.map Nm.nd) root face c u ∧ c < M.length ∧ root c = c

theorem TmL.app {M : List Nm} {root face : Nat → Nat} {O P : List Nat} {us vs : List (List Int)} (h : TmL M root face O us) (h' : TmL M root face P vs) : TmL M root face (O ++ P) (us ++ vs) := by
  refine ⟨by rw [List.length_append, List.length_append, h.1, h'.1], fun k c u hc hu => ?_⟩
  by_cases hk : k < O.length
  · rw [List.getElem?_append_left hk] at hc
    rw [List.getElem?_append_left (by rw [h.1]; exact hk)] at hu
    exact h.2 k c u hc hu
  · rw [List.getElem?_append_right (by omega)] at hc
    rw [List.getElem?_append_right (by rw [h.1]; omega), h.1] at hu
    exact h'.2 _ c u hc hu

theorem TmL.rev {M : List Nm} {root face : Nat → Nat} : ∀ {O : List Nat} {us : List (List Int)}, TmL M root face O us → TmL M root face O.reverse us.reverse
  | [], us, h => by
    have : us = [] := List.eq_nil_of_length_eq_zero (by simpa using h.1)
    subst this
    exact h
  | c :: O, us, h => by
    cases us with
    | nil => have := h.1; simp at this
    | cons u us =>
      have h1 : TmL M root face O us := ⟨by have := h.1; simpa using this, fun k x y hx hy => h.2 (k + 1) x y (by simpa using hx) (by simpa using hy)⟩
      have h2 : TmL M root face [c] [u] := ⟨rfl, fun k x y hx hy => by
        match k, hx, hy with
        | 0, hx, hy =>
          simp only [List.getElem?_cons_zero, Option.some.injEq] at hx hy
          subst hx hy
          exact h.2 0 c u rfl rfl
        | k + 1, hx, _ => simp at hx⟩
      rw [List.reverse_cons, List.reverse_cons]
      exact (TmL.rev h1).app h2

theorem TmL.pop {M : List Nm} {root face : Nat → Nat} {Q : List Nat} {q : Nat} {us : List (List Int)} (h : TmL M root face (Q ++ [q]) us) : ∃ us' u, us = us' ++ [u] ∧ TmL M root face Q us' ∧ TmC (M.map Nm.nd) root face q u ∧ q < M.length ∧ root q = q := by
  rcases snoc7 us with rfl | ⟨us', u, rfl⟩
  · have := h.1
    simp at this
  · have hl : us'.length = Q.length := by have := h.1; simpa using this
    refine ⟨us', u, rfl, ⟨hl, fun k c x hc hx => h.2 k c x (by rw [List.getElem?_append_left (List.getElem?_eq_some_iff.1 hc).1]; exact hc) (by rw [List.getElem?_append_left (List.getElem?_eq_some_iff.1 hx).1]; exact hx)⟩, h.2 Q.length q u (by simp) (by rw [← hl]; simp)⟩

/-- The parts of a class and what they become. -/
theorem tm_parts {sig : List Sy} {M : List Nm} (hL : NdOk sig (M.map Nm.nd)) {root face : Nat → Nat} (hc : ClOk (M.map Nm.nd) root face) {q f : Nat} {mf : Nm} {c : Int} {xs : List Nat} {u : List Int} (h : TmC (M.map Nm.nd) root face q u) (hf : face q = f) (hmf : M[f]? = some mf) (hn : mf.nd = .app c xs) : ∃ ts, u = c :: ts.flatten ∧ TmL M root face (xs.map root) ts := by
  have hLf : (M.map Nm.nd)[face q]? = some (Nd.app c xs) := by rw [hf, List.getElem?_map, hmf, Option.map_some, hn]
  cases h with
  | var h9 => rw [hLf] at h9; cases h9
  | app h9 hl ht =>
    rename_i c' xs' ts
    rw [hLf] at h9
    cases h9
    refine ⟨ts, rfl, by rw [List.length_map]; exact hl, fun k x t hx ht9 => ?_⟩
    rw [List.getElem?_map] at hx
    cases hy : xs[k]? with
    | none => rw [hy] at hx; cases hx
    | some y =>
      rw [hy] at hx
      cases hx
      have hyl := Nat.lt_trans (hL.ahead _ _ _ hLf y (List.mem_of_getElem? hy)) (List.getElem?_eq_some_iff.1 hLf).1
      exact ⟨ht k y t hy ht9, by have := hc.lt y hyl; rw [List.length_map] at this; exact this, hc.idem y hyl⟩

set_option maxRecDepth 100000 in
set_option maxHeartbeats 3200000 in
theorem uRow_any {sig : List Sy} (har : ArOk sig) {w : World} {B T : Nat} {M : List Nm} {into : Nat → Option Nat} {face : Nat → Nat} {cnt : Nat → Int} {root rk : Nat → Nat} {r : Nat} {mr : Nm} {t : List Int} (hsl : sig.length ≤ 9223372036854775807) (hL : NdOk sig (M.map Nm.nd)) (hok : ClOk (M.map Nm.nd) root face) (hlow : T ≤ w.heap.size) (hb : Bd6 w B T M into face cnt) (hf : Fr6 M.length into root rk) (hmr : M[r]? = some mr) (hrr : root r = r) (ht : TmC (M.map Nm.nd) root face r t) (htl : t.length ≤ 512) :
    Calls Tryd.prog 44 #[.pointer (some ⟨mr.cls, 0, none⟩)] w fun e w' => ∃ v' into', e = .returned v' ∧ OwI w' w.heap.size v' t ∧ Bd6 w' B T M into' face cnt ∧ Fr6 M.length into' root rk ∧ Ch6 M w w' := by
  have hlen : (M.map Nm.nd).length = M.length := by rw [List.length_map]
  obtain ⟨hwf, hsym⟩ := nd_wf har hL
  have hfl : ∀ i, i < M.length → root i = i → face i < M.length := fun i hi hr => by have := hok.face_lt i (by omega); rw [hr] at this; omega
  have hcw : ∀ m ∈ M, m.cls < w.heap.size := fun m hm => Nat.lt_of_lt_of_le (hb.low m hm).1.2 hlow
  have HB := hid hb
  have HF := hid hf
  have HLo := hid hlow
  have HL := hid hL
  have HOk := hid hok
  have HWf := hid hwf
  have HFl := hid hfl
  have HMr := hid hmr
  have HRr := hid hrr
  have HTm := hid ht
  have HCw := hid hcw
  have HTl := hid htl
  clear hb hf hlow hL hok hwf hsym hfl hmr har hlen hcw hrr ht htl
  go_enter Tryd.func44, Tryd.ntmps44
  go_wp2
  go_loopg [3, 4] t.length (fun g v x wr => ∃ (acc : List Int) (O : List Nat) (us : List (List Int)) (into' : Nat → Option Nat), OwI wr w.heap.size v acc ∧ OwC6 wr w.heap.size M x O ∧ TmL M root face O us ∧ t = acc ++ us.reverse.flatten ∧ us.flatten.length ≤ g ∧ (∀ j, v.ownBlock = some j → x.ownBlock ≠ some j) ∧ Bd6 wr B T M into' face cnt ∧ Fr6 M.length into' root rk ∧ Ch6 M w wr)
  case atStart =>
    have hbA : Below w.heap.size w (w.alloc (.cells #[.pointer (some ⟨mr.cls, 0, none⟩)] 68)) := below_alloc _
    refine ⟨[], [r], [t], into, ⟨fun k x hk => (by simp at hk), World.ownsRow_nil _ _ _ _⟩, ?_, ⟨rfl, fun k c u hc hu => ?_⟩, by simp, by simp, fun j hj => (by cases hj), HB.out.later hbA, HF.out, Ch6.of_below hbA⟩
    · refine ⟨rfl, .inr ⟨w.heap.size, 1, #[.pointer (some ⟨mr.cls, 0, none⟩)], rfl, Nat.le_refl _, heap_alloc_new _ _, Nat.le_refl _, by simp [maxLen], rfl, ?_⟩⟩
      simp only [List.map_cons, List.map_nil]
      rw [clV_eq HMr.out]
      rfl
    · match k, hc, hu with
      | 0, hc, hu =>
        simp only [List.getElem?_cons_zero, Option.some.injEq] at hc hu
        subst hc hu
        exact ⟨HTm.out, (List.getElem?_eq_some_iff.1 HMr.out).1, HRr.out⟩
      | k + 1, hc, _ => simp at hc
  case round =>
    obtain ⟨acc, O, us, into', hov, how, htm, hte, hgk, hap, hb', hf', hch⟩ := hrel
    have HOv := hid hov
    have HTe := hid hte
    have HAp := hid hap
    have HB' := hid hb'
    have HF' := hid hf'
    have HCh := hid hch
    rcases snoc7 O with rfl | ⟨Q, q, rfl⟩
    · obtain ⟨ao, cp, rfl⟩ : ∃ ao cp, u4 = .slice ao 0 cp := by
        rcases how.2 with ⟨h8, _⟩ | ⟨g8, c8, _, h8, _⟩
        · exact ⟨_, _, h8⟩
        · exact ⟨_, _, h8⟩
      have HEt : Hid (acc = t) := by
        have h9 : us = [] := List.eq_nil_of_length_eq_zero (by simpa using htm.1)
        subst h9
        show _ = _
        rw [hte]
        simp
      rw [HEt.out] at HOv
      clear hov how htm hte hgk hap hb' hf' hch
      go_wp2
      go_ret
      exact ⟨_, into', rfl, HOv.out, HB'.out, HF'.out, HCh.out⟩
    · obtain ⟨us', u, rfl, htq, htu, hql, hqr⟩ := htm.pop
      obtain ⟨mq, hmq⟩ : ∃ m, M[q]? = some m := ⟨_, List.getElem?_eq_getElem hql⟩
      obtain ⟨g, cp, hv, hge, hcp1, hcp2, hca⟩ := own_last6 how (k := Q.length) (x := q) (by simp)
      have hll : (Q ++ [q]).length = Q.length + 1 := by simp
      rw [hll] at hv hcp1
      subst hv
      have hct := own_cut6 (k := Q.length) (by rw [hll]; exact how) (by rw [hll]; omega)
      rw [List.take_left] at hct
      have hfq := HFl.out q hql hqr
      obtain ⟨mf, hmf⟩ : ∃ m, M[face q]? = some m := ⟨_, List.getElem?_eq_getElem hfq⟩
      have hposs : ∀ (O : List Nat) (us : List (List Int)), TmL M root face O us → O.length ≤ us.flatten.length := fun O => by
        induction O with
        | nil => intro us _; simp
        | cons c O ih =>
          intro us h
          cases us with
          | nil => have := h.1; simp at this
          | cons x us =>
            have h1 := ih us ⟨by have := h.1; simpa using this, fun k a b ha hb => h.2 (k + 1) a b (by simpa using ha) (by simpa using hb)⟩
            have h2 := tm_pos (h.2 0 c x rfl rfl).1
            rw [List.flatten_cons, List.length_append, List.length_cons]
            omega
      have hQl : Q.length ≤ us'.flatten.length := hposs Q us' htq
      have htot : acc.length + (u.length + us'.flatten.length) = t.length := by
        rw [hte, List.length_append, List.reverse_append, List.flatten_append, List.length_append]
        simp only [List.reverse_cons, List.reverse_nil, List.nil_append, List.flatten_cons, List.flatten_nil, List.append_nil]
        rw [List.length_flatten, List.length_flatten, List.map_reverse, List.sum_reverse]
      have htl9 := HTl.out
      have hupos := tm_pos htu
      have hgk2 : us'.flatten.length + u.length ≤ gk := by rw [List.flatten_append, List.length_append] at hgk; simpa using hgk
      obtain ⟨N, hN⟩ : ∃ N, N = Q.length := ⟨_, rfl⟩
      rw [← hN] at hca hct hcp1 hap HAp ⊢
      have hNb : N ≤ 512 := by omega
      have hw1 : IntKind.i64.wrap ((N : Int) + 1 - 1) = (N : Int) := by rw [IntWalk.i64_in _ ⟨by omega, by omega⟩]; omega
      have hw1' : IntKind.i64.wrap (N : Int) = (N : Int) := IntWalk.i64_in _ ⟨by omega, by omega⟩
      have hxc : N ≤ cp := by omega
      rw [clV_eq hmq] at hca
      obtain ⟨k9, _, _, _, x2, _⟩ := hb'.clc hmq
      obtain ⟨av, ac, hav, hac1, hac2⟩ := hov.shape
      subst hav
      unfold maxLen at hac2
      have HTeq : Hid (t = acc ++ (u ++ us'.reverse.flatten)) := by
        show _ = _
        rw [hte, List.reverse_append, List.flatten_append]
        simp
      cases hn : mf.nd with
      | var n =>
        obtain ⟨y0, _⟩ := hb'.var hmf hn
        rw [ndI_var hmf hn] at x2
        have ha := as_uvar (.pointer (some ⟨mf.blk, 0, none⟩))
        have hLf : (M.map Nm.nd)[face q]? = some (Nd.var n) := by rw [List.getElem?_map, hmf, Option.map_some, hn]
        have hu : u = [-1 - n] := by
          cases htu with
          | var h9 => rw [hLf] at h9; cases h9; rfl
          | app h9 _ _ => rw [hLf] at h9; cases h9
        have hnb := HL.out.num _ _ hLf
        have hw2 : IntKind.i64.wrap (-1 - n) = -1 - n := IntWalk.i64_in _ ⟨by omega, by omega⟩
        obtain ⟨v6, w6, hr6, o6, g6, d6⟩ := join_one 23 (c := -1 - n) hov (by omega) (by omega) hch.size (by omega)
        have bA : Below wr.heap.size wr (wr.alloc (.cells #[.int .i64 (-1 - n)] 3)) := below_alloc _
        have hgl : g < wr.heap.size := own_blk_lt how rfl
        have hgv : Value.ownBlock (.slice av acc.length ac) ≠ some g := fun e => hap g e rfl
        have hB6 : ∀ b, b < w.heap.size → w6.heap[b]? = wr.heap[b]? := fun b hb9 => by
          refine (g6.block b (Nat.lt_of_lt_of_le hb9 (Nat.le_trans hch.size bA.size)) (fun e9 => ?_)).trans (bA.block b (Nat.lt_of_lt_of_le hb9 hch.size))
          have := own_blk hov.2 e9.symm
          omega
        have hx6 : OwC6 w6 w.heap.size M (.slice (some ⟨g, 0, none⟩) N cp) Q := own_grown6 (own_ch6 hct (Ch6.of_below (M := M) bA) HCw.out) g6 (.inr fun e => hgv e.symm)
        have hap6 : v6.ownBlock ≠ some g := fun e => by
          rcases d6 with d6 | d6
          · exact hgv (d6.symm.trans e)
          · rw [d6] at e
            have h8 := bA.size
            cases e
            omega
        have hb6 := hb'.keep fun b hb9 => hB6 b (Nat.lt_of_lt_of_le hb9 HLo.out)
        have hc6 : Ch6 M w w6 := ⟨(g6.os.trans bA.os).trans hch.os, (g6.tape.trans bA.tape).trans hch.tape, (g6.output.trans bA.output).trans hch.output, Nat.le_trans hch.size (Nat.le_trans bA.size g6.size), fun b hb9 hm9 => (hB6 b hb9).trans (hch.block b hb9 hm9)⟩
        have HR6 := hid hr6
        have HO6 := hid o6
        have HX6 := hid hx6
        have HA6 := hid hap6
        have HB6 := hid hb6
        have HC6 := hid hc6
        have HTq := hid htq
        have HT2 : Hid (t = (acc ++ [-1 - n]) ++ us'.reverse.flatten) := by show _ = _; rw [HTeq.out, hu, List.append_assoc]
        have HGk : Hid (us'.flatten.length < gk) := by show _ < _; omega
        clear hov how htm hte hgk hap hb' hf' hch hct hmq hmf hn hLf hu htu htq hr6 o6 g6 d6 hB6 hx6 hap6 hb6 hc6 bA hgv hposs hQl htot hgk2 hN hll HTe HAp hupos hql hqr hfq
        go_wp2_with (first
          | (at_builtin; refine wpList_append_run rfl _ _ _ rfl _ _ rfl rfl HR6.out ?_))
        go_roundg us'.flatten.length
        case measure => exact HGk.out
        case rel => exact ⟨acc ++ [-1 - n], Q, us', into', HO6.out, HX6.out, HTq.out, HT2.out, Nat.le_refl _, fun j hj e => HA6.out (hj.trans e.symm), HB6.out, HF'.out, HC6.out⟩
      | app c xs =>
        obtain ⟨ao, cap, ⟨y0, _, _⟩, _⟩ := hb'.app hmf hn
        rw [ndI_app hmf hn] at x2
        have ha := as_unot (.pointer (some ⟨mf.blk, 0, none⟩))
        have ha2 := as_uapp (.pointer (some ⟨mf.blk, 0, none⟩))
        have hLf : (M.map Nm.nd)[face q]? = some (Nd.app c xs) := by rw [List.getElem?_map, hmf, Option.map_some, hn]
        obtain ⟨hs0, hs1, _⟩ := HL.out.sym _ _ _ hLf
        obtain ⟨ts, hu, hts⟩ := tm_parts HL.out HOk.out htu rfl hmf hn
        have hpe : ptsN M root (face q) = xs.map root := by unfold ptsN; rw [hmf]; simp only [Option.map_some, hn]
        obtain ⟨v6, w6, hr6, o6, g6, d6⟩ := join_one 23 (c := c) hov (by omega) (by omega) hch.size (by omega)
        have bA : Below wr.heap.size wr (wr.alloc (.cells #[.int .i64 c] 3)) := below_alloc _
        have hgl : g < wr.heap.size := own_blk_lt how rfl
        have hgv : Value.ownBlock (.slice av acc.length ac) ≠ some g := fun e => hap g e rfl
        have hB6 : ∀ b, b < w.heap.size → w6.heap[b]? = wr.heap[b]? := fun b hb9 => by
          refine (g6.block b (Nat.lt_of_lt_of_le hb9 (Nat.le_trans hch.size bA.size)) (fun e9 => ?_)).trans (bA.block b (Nat.lt_of_lt_of_le hb9 hch.size))
          have := own_blk hov.2 e9.symm
          omega
        have hx6 : OwC6 w6 w.heap.size M (.slice (some ⟨g, 0, none⟩) N cp) Q := own_grown6 (own_ch6 hct (Ch6.of_below (M := M) bA) HCw.out) g6 (.inr fun e => hgv e.symm)
        have hap6 : v6.ownBlock ≠ some g := fun e => by
          rcases d6 with d6 | d6
          · exact hgv (d6.symm.trans e)
          · rw [d6] at e
            have h8 := bA.size
            cases e
            omega
        have hb6 := hb'.keep fun b hb9 => hB6 b (Nat.lt_of_lt_of_le hb9 HLo.out)
        have hc6 : Ch6 M w w6 := ⟨(g6.os.trans bA.os).trans hch.os, (g6.tape.trans bA.tape).trans hch.tape, (g6.output.trans bA.output).trans hch.output, Nat.le_trans hch.size (Nat.le_trans bA.size g6.size), fun b hb9 hm9 => (hB6 b hb9).trans (hch.block b hb9 hm9)⟩
        have HR6 := hid hr6
        have HNQ := hid hN
        have HGe := hid hge
        have HPa := hid (parts_any hb6 hf' (Nat.le_trans HLo.out hc6.size) HWf.out hmq hfq)
        rw [hpe] at HPa
        obtain ⟨ps, hps⟩ : ∃ ps, ps = xs.map root := ⟨_, rfl⟩
        rw [← hps] at HPa hts
        have hpsl : ps.length ≤ 512 := by
          have h1 := hposs ps ts hts
          have h2 : u.length = 1 + ts.flatten.length := by rw [hu, List.length_cons, Nat.add_comm]
          omega
        have hul : u.length = 1 + ts.flatten.length := by rw [hu, List.length_cons, Nat.add_comm]
        have HO6 := hid o6
        have HX6 := hid hx6
        have HA6 := hid hap6
        have HC6 := hid hc6
        have HTq := hid htq
        have HTs := hid hts
        have HPl : Hid (∀ p ∈ ps, p < M.length) := fun p hp => by
          obtain ⟨k, hk⟩ := List.getElem?_of_mem hp
          have hkl := (List.getElem?_eq_some_iff.1 hk).1
          exact (hts.2 k p _ hk (List.getElem?_eq_getElem (by rw [hts.1]; exact hkl))).2.1
        have HT2 : Hid (t = (acc ++ [c]) ++ (us' ++ ts.reverse).reverse.flatten) := by show _ = _; rw [HTeq.out, hu, List.reverse_append, List.reverse_reverse, List.flatten_append]; simp
        have HGk : Hid ((us' ++ ts.reverse).flatten.length < gk) := by
          show _ < _
          rw [List.flatten_append, List.length_append, show ts.reverse.flatten.length = ts.flatten.length by rw [List.length_flatten, List.length_flatten, List.map_reverse, List.sum_reverse]]
          omega
        clear hov how htm hte hgk hap hb' hf' hch hct hmq hmf hn hLf hu htu htq hr6 o6 g6 d6 hB6 hx6 hap6 hb6 hc6 bA hgv hposs hQl htot hgk2 hN hll HTe HAp hupos hql hqr hfq hts hpe hps hul hs0 hs1
        go_wp2_with (first
          | (at_builtin; refine wpList_append_run rfl _ _ _ rfl _ _ rfl rfl HR6.out ?_))
        refine HPa.out.mono ?_
        rintro e w8 ⟨v8, into8, rfl, o8, hb8, hf8, hc8⟩
        have HRv := hid (reverseC6_any v8 (ps.map (clV M)) w6.heap.size w8 (by rw [List.length_map]; exact o8) (fun u hu => by obtain ⟨y, _, rfl⟩ := List.mem_map.1 hu; exact ⟨_, rfl⟩))
        have HO8 := hid o8
        have HB8 := hid hb8
        have HF8 := hid hf8
        have HC8 := hid hc8
        obtain ⟨ao8, cap8, hv8, hcap81, hcap82⟩ := o8.shape
        subst hv8
        clear o8 hb8 hf8 hc8 HPa
        go_wp2_with fail
        refine HRv.out.mono ?_
        rintro e w9 ⟨rfl, o9, g9⟩
        have o9' : OwC6 w9 w6.heap.size M (.slice ao8 ps.length cap8) ps.reverse := by
          unfold OwC6
          rw [List.length_reverse, List.map_reverse]
          rw [List.length_map] at o9
          exact o9
        have h68 := HC8.out.size
        have hv6l : ∀ j, v6.ownBlock = some j → j < w6.heap.size := fun j hj => own_blk_lt HO6.out.2 hj
        have hg6l : g < w6.heap.size := own_blk_lt HX6.out rfl
        have hv8g : ∀ j, Value.ownBlock (.slice ao8 ps.length cap8) = some j → w6.heap.size ≤ j := fun j hj => own_blk HO8.out hj
        have x9 : OwC6 w9 w.heap.size M (.slice (some ⟨g, 0, none⟩) N cp) Q := own_grown6 (own_ch6 HX6.out HC8.out HCw.out) g9 (.inr fun e => by have := hv8g g e.symm; omega)
        have i9 : OwI w9 w.heap.size v6 (acc ++ [c]) := ⟨HO6.out.1, own_grown6 (own_ch6 HO6.out.2 HC8.out HCw.out) g9 (by
          cases h9 : v6.ownBlock with
          | none => exact .inl rfl
          | some j => exact .inr fun e => by have h1 := hv6l j h9; have h2 := hv8g j e.symm; omega)⟩
        have hB9 : ∀ b, b < w6.heap.size → w9.heap[b]? = w8.heap[b]? := fun b hb9 => g9.block b (Nat.lt_of_lt_of_le hb9 h68) (fun e9 => by have := hv8g b e9.symm; omega)
        have hcell9 : ps.reverse = [] ∨ ∃ g' off, ao8 = some ⟨g', off, none⟩ ∧ ∀ (j y : Nat), ps.reverse[j]? = some y → w9.cell? ⟨g', off + j, none⟩ = some (clV M y) := by
          by_cases h0 : ps.reverse = []
          · exact .inl h0
          · right
            obtain ⟨y0', hy0⟩ : ∃ y, ps.reverse[0]? = some y := ⟨_, List.getElem?_eq_getElem (by cases hq : ps.reverse with | nil => exact absurd hq h0 | cons a l => simp)⟩
            obtain ⟨g', cp', hv', _⟩ := own_last6 o9' hy0
            simp only [Value.slice.injEq] at hv'
            refine ⟨g', 0, hv'.1, fun j y hj => ?_⟩
            obtain ⟨g'', cp'', hv'', _, _, _, hc''⟩ := own_last6 o9' hj
            simp only [Value.slice.injEq] at hv''
            rw [hv'.1] at hv''
            simp only [Option.some.injEq, Addr.mk.injEq, and_true] at hv''
            rw [Nat.zero_add, hv''.1]
            exact hc''
        obtain ⟨v10, w10, hr10, o10, g10, d10⟩ := join_cls6 102 (ys := ps.reverse) (ao := ao8) (cap := cap8) x9 hcell9 (Nat.le_trans HC6.out.size (Nat.le_trans h68 g9.size)) (by rw [List.length_reverse]; have := HNQ.out; omega)
        have hB10 : ∀ b, b < w.heap.size → w10.heap[b]? = w8.heap[b]? := fun b hb9 => by
          have h1 := HC6.out.size
          have h2 := g9.size
          refine (g10.block b (by omega) (fun e9 => ?_)).trans (hB9 b (by omega))
          have h3 : g = b := Option.some.inj e9.symm
          have h4 := HGe.out
          omega
        have HB10 := hid (HB8.out.keep fun b hb9 => hB10 b (Nat.lt_of_lt_of_le hb9 HLo.out))
        have hc8 := HC6.out.trans HC8.out
        have HC10 : Hid (Ch6 M w w10) := ⟨(g10.os.trans g9.os).trans hc8.os, (g10.tape.trans g9.tape).trans hc8.tape, (g10.output.trans g9.output).trans hc8.output, Nat.le_trans hc8.size (Nat.le_trans g9.size g10.size), fun b hb9 hm9 => (hB10 b hb9).trans (hc8.block b hb9 hm9)⟩
        have HO10 : Hid (OwI w10 w.heap.size v6 (acc ++ [c])) := ⟨i9.1, own_grown6 i9.2 g10 (.inr fun e => HA6.out e)⟩
        have HA10 : Hid (∀ j, v6.ownBlock = some j → v10.ownBlock ≠ some j) := fun j hj e => by
          rcases d10 with d10 | d10
          · exact HA6.out (hj.trans (e.symm.trans d10))
          · have h1 := hv6l j hj
            have h2 := g9.size
            rw [d10] at e
            cases e
            omega
        have HTL := hid (HTq.out.app HTs.out.rev)
        have HR10 := hid hr10
        have HX10 := hid o10
        rw [List.length_reverse] at HR10
        clear hr10 o10 g10 d10 hB10 hc8 i9 x9 hB9 hcell9 o9 o9' g9 h68 hv6l hg6l hv8g HRv
        go_wp2_with (first
          | (at_builtin; refine wpList_append_run rfl _ _ _ rfl _ _ rfl rfl HR10.out ?_))
        go_roundg (us' ++ ts.reverse).flatten.length
        case measure => exact HGk.out
        case rel => exact ⟨acc ++ [c], Q ++ ps.reverse, us' ++ ts.reverse, into8, HO10.out, HX10.out, HTL.out, HT2.out, Nat.le_refl _, HA10.out, HB10.out, HF8.out, HC10.out⟩

end Go.Proofs.YtpnkplidhbbliaaDoor

/- New nodes of package unify: newClass, newVariable, newApplication, variableOf walked. -/
namespace Go.Proofs.YtpnkplidhbbliaaDoor
open Go.RowKit Go.Maps Go.BigFrame

set_option maxRecDepth 100000 in
theorem newClass_any (w : World) (ty : TypeId) (b : Nat) :
    Calls Tryd.prog 79 #[.iface ty (.pointer (some ⟨b, 0, none⟩))] w fun e w' => e = .returned (.pointer (some ⟨w.heap.size, 0, none⟩)) ∧ w' = w.alloc (.cells #[.pointer none, .int .i64 1, .iface ty (.pointer (some ⟨b, 0, none⟩)), .int .i64 0] 76) := by
  go_enter Tryd.func79, Tryd.ntmps79
  go_wp2
  go_ret
  exact ⟨rfl, rfl⟩

theorem set_below6 {B : Nat} {a w : World} (h : Below B a w) {g : Nat} (hg : B ≤ g) (i : Nat) (v : Value) : Below B a (w.setCell ⟨g, i, none⟩ v) := h.setCell (p := ⟨g, i, none⟩) hg v

/-- The world behind two new blocks. -/
theorem two_new (w : World) (o1 o2 : Obj) : ((w.alloc o1).alloc o2).heap.size = w.heap.size + 2 ∧ ((w.alloc o1).alloc o2).heap[w.heap.size]? = some o1 ∧ ((w.alloc o1).alloc o2).heap[w.heap.size + 1]? = some o2 ∧ Below w.heap.size w ((w.alloc o1).alloc o2) := by
  refine ⟨by simp, ?_, ?_, below_step (below_alloc _) (below_alloc _)⟩
  · rw [heap_alloc_old _ _ (by rw [World.size_alloc]; omega)]
    exact heap_alloc_new _ _
  · have := heap_alloc_new (w.alloc o1) o2
    rw [World.size_alloc] at this
    exact this

set_option maxRecDepth 100000 in
set_option maxHeartbeats 800000 in
theorem newVariable_any (w : World) (n : Int) :
    Calls Tryd.prog 78 #[.int .i64 n] w fun e w' => e = .returned (.pointer (some ⟨w.heap.size, 0, none⟩)) ∧ w'.heap.size = w.heap.size + 2 ∧ w'.heap[w.heap.size]? = some (.cells #[.int .i64 n, .pointer (some ⟨w.heap.size + 1, 0, none⟩)] 106) ∧ w'.heap[w.heap.size + 1]? = some (.cells #[.pointer none, .int .i64 1, .iface 74 (.pointer (some ⟨w.heap.size, 0, none⟩)), .int .i64 0] 76) ∧ Below w.heap.size w w' := by
  have HN := hid (newClass_any (w.alloc (.cells #[.int .i64 n, .pointer none] 106)) 74 w.heap.size)
  go_enter Tryd.func78, Tryd.ntmps78
  go_wp2_with fail
  refine HN.out.mono ?_
  rintro e w1 ⟨rfl, rfl⟩
  rw [World.size_alloc]
  go_wp2
  go_ret
  exact ⟨rfl, two_new _ _ _⟩

set_option maxRecDepth 100000 in
set_option maxHeartbeats 800000 in
theorem newApplication_any (w : World) (c : Int) (ao : Option Addr) (n cap : Nat) :
    Calls Tryd.prog 61 #[.int .i64 c, .slice ao n cap] w fun e w' => e = .returned (.pointer (some ⟨w.heap.size, 0, none⟩)) ∧ w'.heap.size = w.heap.size + 2 ∧ w'.heap[w.heap.size]? = some (.cells #[.int .i64 c, .slice ao n cap, .pointer (some ⟨w.heap.size + 1, 0, none⟩)] 109) ∧ w'.heap[w.heap.size + 1]? = some (.cells #[.pointer none, .int .i64 1, .iface 94 (.pointer (some ⟨w.heap.size, 0, none⟩)), .int .i64 0] 76) ∧ Below w.heap.size w w' := by
  have HN := hid (newClass_any (w.alloc (.cells #[.int .i64 c, .slice ao n cap, .pointer none] 109)) 94 w.heap.size)
  go_enter Tryd.func61, Tryd.ntmps61
  go_wp2_with fail
  refine HN.out.mono ?_
  rintro e w1 ⟨rfl, rfl⟩
  rw [World.size_alloc]
  go_wp2
  go_ret
  exact ⟨rfl, two_new _ _ _⟩

end Go.Proofs.YtpnkplidhbbliaaDoor
