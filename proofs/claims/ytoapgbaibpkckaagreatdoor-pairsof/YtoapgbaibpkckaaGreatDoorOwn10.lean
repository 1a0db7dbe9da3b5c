/- Texts of the proof, one behind the other. -/
import Derived.Test.YtoapgbaibpkckaaGreatDoorOwn9
import Derived.Test.YtoapgbaibpkckaaGreatDoorOwn8
import Derived.Test.YtoapgbaibpkckaaGreatDoorOwn5
import Derived.Test.YtoapgbaibpkckaaGreatDoorOwn4
import Derived.Test.YtoapgbaibpkckaaGreatDoorOwn3
import Derived.Test.YtoapgbaibpkckaaGreatDoorOwn2
import Derived.Test.YtoapgbaibpkckaaGreatDoorOwn7
/- Counting the nodes of classes, plainly: what holds between the rounds of count. -/
namespace Go.Proofs.YtoapgbaibpkckaaGreatDoor
open Go.RowKit Go.Maps Go.BigFrame

/-- A length, cut off. -/
def cutL (n : Nat) : Int := if n < 513 then (n : Int) else 513

theorem sumC_len {cnt : Nat → Int} {ps : List Nat} {ts : List (List Int)} (hl : ts.length = ps.length) (h : ∀ (k p : Nat) (t : List Int), ps[k]? = some p → ts[k]? = some t → cnt p = cutL t.length) : sumC cnt ps = cutL (1 + ts.flatten.length) := by
  unfold sumC
  have key : ∀ (ps : List Nat) (ts : List (List Int)) (n : Nat), 1 ≤ n → ts.length = ps.length → (∀ (k p : Nat) (t : List Int), ps[k]? = some p → ts[k]? = some t → cnt p = cutL t.length) → ps.foldl (fun s p => if s + cnt p < 513 then s + cnt p else 513) (cutL n) = cutL (n + ts.flatten.length) := by
    intro ps
    induction ps with
    | nil =>
      intro ts n _ hl _
      have : ts = [] := List.eq_nil_of_length_eq_zero (by simpa using hl)
      subst this
      simp
    | cons p ps ih =>
      intro ts n hn hl h
      cases ts with
      | nil => simp at hl
      | cons t ts =>
        have h0 := h 0 p t rfl rfl
        have e : (if cutL n + cnt p < 513 then cutL n + cnt p else 513) = cutL (n + t.length) := by
          rw [h0]
          unfold cutL
          split <;> split <;> split <;> split <;> omega
        rw [List.foldl_cons, e, ih ts (n + t.length) (by omega) (by simpa using hl) (fun k p t hk ht => h (k + 1) p t (by simpa using hk) (by simpa using ht)), List.flatten_cons, List.length_append, Nat.add_assoc]
  have h1 := key ps ts 1 (by omega) hl h
  rw [← h1]
  rfl

theorem pts_iff {M : List Nm} {root face : Nat → Nat} {q d : Nat} : d ∈ ptsN M root (face q) ↔ Pt (M.map Nm.nd) root face q d := by
  unfold ptsN Pt
  cases hm : M[face q]? with
  | none =>
    simp only [Option.map_none, List.not_mem_nil, false_iff]
    rintro ⟨s, xs, x, h1, _⟩
    rw [List.getElem?_map, hm] at h1
    cases h1
  | some m =>
    simp only [Option.map_some]
    cases hn : m.nd with
    | var n =>
      simp only [List.not_mem_nil, false_iff]
      rintro ⟨s, xs, x, h1, _⟩
      rw [List.getElem?_map, hm, Option.map_some, hn] at h1
      cases h1
    | app c xs =>
      simp only
      constructor
      · intro h
        obtain ⟨x, hx, rfl⟩ := List.mem_map.1 h
        exact ⟨c, xs, x, by rw [List.getElem?_map, hm, Option.map_some, hn], hx, rfl⟩
      · rintro ⟨s, ys, x, h1, h2, rfl⟩
        rw [List.getElem?_map, hm, Option.map_some, hn] at h1
        cases h1
        exact List.mem_map.2 ⟨x, h2, rfl⟩

/-- What holds between the rounds. -/
structure CI (M : List Nm) (root face : Nat → Nat) (r : Nat) (cnt : Nat → Int) (O : List Nat) : Prop where
  st : ∀ i, i < M.length → root i = i → cnt i = 0 ∨ cnt i = -1 ∨ ∃ t, TmC (M.map Nm.nd) root face i t ∧ cnt i = cutL t.length
  el : ∀ q ∈ O, q < M.length ∧ root q = q
  op : ∀ q, q < M.length → root q = q → cnt q = -1 → ∃ s : Nat, O[s]? = some q ∧ (∀ d, Pt (M.map Nm.nd) root face q d → 0 < cnt d ∨ ∃ s' : Nat, s < s' ∧ O[s']? = some d) ∧ ∀ (s' e : Nat), s < s' → O[s']? = some e → Rch (M.map Nm.nd) root face q e ∧ e ≠ q
  go : 0 < cnt r ∨ O[0]? = some r
  dn : ∀ q, q < M.length → root q = q → 0 < cnt q → ∀ d, Pt (M.map Nm.nd) root face q d → 0 < cnt d

theorem cut_pos {n : Nat} (h : 0 < n) : 0 < cutL n ∧ cutL n ≤ 513 := by unfold cutL; split <;> omega

theorem tm_pos {L : List Nd} {root face : Nat → Nat} {c : Nat} {t : List Int} (h : TmC L root face c t) : 0 < t.length := by
  cases h <;> simp

theorem ci_pos {M : List Nm} {root face : Nat → Nat} {r : Nat} {cnt : Nat → Int} {O : List Nat} (h : CI M root face r cnt O) {i : Nat} (hi : i < M.length) (hr : root i = i) : cnt i ≤ 513 ∧ -1 ≤ cnt i := by
  rcases h.st i hi hr with h1 | h1 | ⟨t, ht, h1⟩
  · omega
  · omega
  · have := cut_pos (tm_pos ht)
    omega

theorem last_at {O' : List Nat} {q s d : Nat} (h : (O' ++ [q])[s]? = some d) : O'[s]? = some d ∨ (s = O'.length ∧ d = q) := by
  by_cases hs : s < O'.length
  · rw [List.getElem?_append_left hs] at h
    exact .inl h
  · have hl := (List.getElem?_eq_some_iff.1 h).1
    rw [List.length_append, List.length_singleton] at hl
    have e : s = O'.length := by omega
    subst e
    rw [List.getElem?_append_right (Nat.le_refl _), Nat.sub_self] at h
    cases h
    exact .inr ⟨rfl, rfl⟩

/-- A class that is counted is taken off. -/
theorem ci_pop {M : List Nm} {root face : Nat → Nat} {r q : Nat} {cnt : Nat → Int} {O' : List Nat} (h : CI M root face r cnt (O' ++ [q])) (h0 : cnt q ≠ 0) (h1 : cnt q ≠ -1) : CI M root face r cnt O' := by
  obtain ⟨hql, hqr⟩ := h.el q (by simp)
  have hqp : 0 < cnt q := by
    rcases h.st q hql hqr with h2 | h2 | ⟨t, ht, h2⟩
    · exact absurd h2 h0
    · exact absurd h2 h1
    · have := cut_pos (tm_pos ht)
      omega
  refine ⟨h.st, fun x hx => h.el x (by simp [hx]), fun x hx hxr hxc => ?_, ?_, h.dn⟩
  · obtain ⟨s, s1, s2, s3⟩ := h.op x hx hxr hxc
    rcases last_at s1 with s1 | ⟨_, rfl⟩
    · refine ⟨s, s1, fun d hd => ?_, fun s' e hs he => s3 s' e hs (by rw [List.getElem?_append_left (List.getElem?_eq_some_iff.1 he).1]; exact he)⟩
      rcases s2 d hd with h2 | ⟨s', h3, h4⟩
      · exact .inl h2
      · rcases last_at h4 with h4 | ⟨_, rfl⟩
        · exact .inr ⟨s', h3, h4⟩
        · exact .inl hqp
    · exact absurd hxc h1
  · rcases h.go with h2 | h2
    · exact .inl h2
    · rcases last_at h2 with h2 | ⟨_, rfl⟩
      · exact .inr h2
      · exact .inl hqp

/-- The parts of a class that is to be finished. -/
theorem ci_parts {M : List Nm} {root face : Nat → Nat} {r q : Nat} {cnt : Nat → Int} {O' : List Nat} (h : CI M root face r cnt (O' ++ [q])) (h1 : cnt q = -1) : ∀ d, Pt (M.map Nm.nd) root face q d → d ≠ q ∧ 0 < cnt d := fun d hd => by
  obtain ⟨hql, hqr⟩ := h.el q (by simp)
  obtain ⟨s, s1, s2, s3⟩ := h.op q hql hqr h1
  have hs : s = O'.length := by
    rcases last_at s1 with s4 | ⟨s4, _⟩
    · have hlt := (List.getElem?_eq_some_iff.1 s4).1
      exact absurd rfl (s3 O'.length q hlt (by rw [List.getElem?_append_right (Nat.le_refl _), Nat.sub_self]; rfl)).2
    · exact s4
  have hp : 0 < cnt d := by
    rcases s2 d hd with h2 | ⟨s', h3, h4⟩
    · exact h2
    · have := (List.getElem?_eq_some_iff.1 h4).1
      rw [List.length_append, List.length_singleton] at this
      omega
  exact ⟨fun e => by subst e; omega, hp⟩

/-- A class whose parts are counted is, and is taken off. -/
theorem ci_fin {sig : List Sy} {M : List Nm} (hL : NdOk sig (M.map Nm.nd)) {root face : Nat → Nat} (hc : ClOk (M.map Nm.nd) root face) {r q : Nat} {cnt : Nat → Int} {O' : List Nat} (h : CI M root face r cnt (O' ++ [q])) (h1 : cnt q = -1) : CI M root face r (fun j => if j = q then sumC cnt (ptsN M root (face q)) else cnt j) O' := by
  have hlen : (M.map Nm.nd).length = M.length := by rw [List.length_map]
  obtain ⟨hql, hqr⟩ := h.el q (by simp)
  have hps := ci_parts h h1
  have hfl := hc.face_lt q (by omega)
  rw [hqr] at hfl
  obtain ⟨mf, hmf⟩ : ∃ m, M[face q]? = some m := ⟨_, List.getElem?_eq_getElem (by omega)⟩
  have hLf : (M.map Nm.nd)[face q]? = some mf.nd := by rw [List.getElem?_map, hmf]; rfl
  have htm : ∃ t, TmC (M.map Nm.nd) root face q t ∧ sumC cnt (ptsN M root (face q)) = cutL t.length := by
    cases hn : mf.nd with
    | var n =>
      rw [hn] at hLf
      refine ⟨_, TmC.var hLf, ?_⟩
      unfold ptsN
      rw [hmf]
      simp only [Option.map_some, hn]
      rfl
    | app c xs =>
      rw [hn] at hLf
      have hall : ∀ x ∈ xs, ∃ t, TmC (M.map Nm.nd) root face (root x) t ∧ cnt (root x) = cutL t.length := fun x hx => by
        have hxl := Nat.lt_trans (hL.ahead _ _ _ hLf x hx) (List.getElem?_eq_some_iff.1 hLf).1
        obtain ⟨p1, p2⟩ := hps (root x) ⟨c, xs, x, hLf, hx, rfl⟩
        rcases h.st (root x) (by have := hc.lt x hxl; omega) (hc.idem x hxl) with h2 | h2 | h2
        · omega
        · omega
        · exact h2
      obtain ⟨ts, hts1, hts2⟩ : ∃ ts : List (List Int), ts.length = xs.length ∧ ∀ (k x : Nat) (t : List Int), xs[k]? = some x → ts[k]? = some t → TmC (M.map Nm.nd) root face (root x) t ∧ cnt (root x) = cutL t.length := by
        clear hLf hn hmf
        induction xs with
        | nil => exact ⟨[], rfl, fun k x t hk => by simp at hk⟩
        | cons x xs ih =>
          obtain ⟨t, ht⟩ := hall x (by simp)
          obtain ⟨ts, i1, i2⟩ := ih (fun y hy => hall y (by simp [hy]))
          refine ⟨t :: ts, by simp [i1], fun k y u hk hu => ?_⟩
          cases k with
          | zero =>
            simp only [List.getElem?_cons_zero, Option.some.injEq] at hk hu
            subst hk hu
            exact ht
          | succ k => exact i2 k y u (by simpa using hk) (by simpa using hu)
      refine ⟨c :: ts.flatten, TmC.app hLf hts1 (fun k x t hx ht => (hts2 k x t hx ht).1), ?_⟩
      unfold ptsN
      rw [hmf]
      simp only [Option.map_some, hn]
      rw [sumC_len (ts := ts) (by rw [List.length_map]; exact hts1) (fun k p t hp ht => by
        rw [List.getElem?_map] at hp
        cases hx : xs[k]? with
        | none => rw [hx] at hp; cases hp
        | some x =>
          rw [hx] at hp
          cases hp
          exact (hts2 k x t hx ht).2), List.length_cons, Nat.add_comm]
  obtain ⟨t, ht, hst⟩ := htm
  have hpos : 0 < sumC cnt (ptsN M root (face q)) := by rw [hst]; exact (cut_pos (tm_pos ht)).1
  have hup : ∀ d, 0 < cnt d → 0 < (if d = q then sumC cnt (ptsN M root (face q)) else cnt d) := fun d hd => by
    split
    · exact hpos
    · exact hd
  refine ⟨fun i hi hr => ?_, fun x hx => h.el x (by simp [hx]), fun x hx hxr hxc => ?_, ?_, fun x hx hxr hxc d hd => ?_⟩
  · by_cases e : i = q
    · subst e
      simp only [if_true]
      exact .inr (.inr ⟨t, ht, hst⟩)
    · simp only [if_neg e]
      exact h.st i hi hr
  · by_cases e : x = q
    · simp only [if_pos e] at hxc
      omega
    · simp only [if_neg e] at hxc
      obtain ⟨s, s1, s2, s3⟩ := h.op x hx hxr hxc
      rcases last_at s1 with s1 | ⟨_, rfl⟩
      · refine ⟨s, s1, fun d hd => ?_, fun s' e hs he => s3 s' e hs (by rw [List.getElem?_append_left (List.getElem?_eq_some_iff.1 he).1]; exact he)⟩
        rcases s2 d hd with h2 | ⟨s', h3, h4⟩
        · exact .inl (hup d h2)
        · rcases last_at h4 with h4 | ⟨_, rfl⟩
          · exact .inr ⟨s', h3, h4⟩
          · simp only [if_true]
            exact .inl hpos
      · exact absurd rfl e
  · rcases h.go with h2 | h2
    · exact .inl (hup r h2)
    · rcases last_at h2 with h2 | ⟨_, rfl⟩
      · exact .inr h2
      · simp only [if_true]
        exact .inl hpos
  · by_cases e : x = q
    · subst e
      exact hup d (hps d hd).2
    · rw [if_neg e] at hxc
      exact hup d (h.dn x hx hxr hxc d hd)

/-- A class is opened: its parts wait. -/
theorem ci_push {sig : List Sy} {M : List Nm} (hL : NdOk sig (M.map Nm.nd)) {root face : Nat → Nat} (hc : ClOk (M.map Nm.nd) root face) {r q : Nat} {cnt : Nat → Int} {O' : List Nat} (h : CI M root face r cnt (O' ++ [q])) (h0 : cnt q = 0) (hn : ∀ d ∈ ptsN M root (face q), (if d = q then (-1 : Int) else cnt d) ≠ -1) : CI M root face r (fun j => if j = q then -1 else cnt j) (O' ++ [q] ++ ptsN M root (face q)) := by
  have hlen : (M.map Nm.nd).length = M.length := by rw [List.length_map]
  obtain ⟨hql, hqr⟩ := h.el q (by simp)
  have hpr : ∀ d, Pt (M.map Nm.nd) root face q d → d < M.length ∧ root d = d := fun d ⟨s, xs, x, h1, h2, e⟩ => by
    have hxl := Nat.lt_trans (hL.ahead _ _ _ h1 x h2) (List.getElem?_eq_some_iff.1 h1).1
    subst e
    exact ⟨by have := hc.lt x hxl; omega, hc.idem x hxl⟩
  have hup : ∀ d, 0 < cnt d → 0 < (if d = q then (-1 : Int) else cnt d) := fun d hd => by
    split
    · rename_i e
      subst e
      omega
    · exact hd
  have hl1 : (O' ++ [q]).length = O'.length + 1 := by simp
  refine ⟨fun i hi hr => ?_, fun x hx => ?_, fun x hx hxr hxc => ?_, ?_, fun x hx hxr hxc d hd => ?_⟩
  · by_cases e : i = q
    · simp only [if_pos e]
      exact .inr (.inl trivial)
    · simp only [if_neg e]
      exact h.st i hi hr
  · rcases List.mem_append.1 hx with hx | hx
    · exact h.el x hx
    · exact hpr x (pts_iff.1 hx)
  · by_cases e : x = q
    · subst e
      refine ⟨O'.length, by rw [List.getElem?_append_left (by omega), List.getElem?_append_right (Nat.le_refl _), Nat.sub_self]; rfl, fun d hd => ?_, fun s' e9 hs he => ?_⟩
      · obtain ⟨k, hk⟩ := List.getElem?_of_mem (pts_iff.2 hd)
        exact .inr ⟨O'.length + 1 + k, by omega, by rw [List.getElem?_append_right (by omega), hl1, show O'.length + 1 + k - (O'.length + 1) = k by omega]; exact hk⟩
      · rw [List.getElem?_append_right (by omega)] at he
        have hm := List.mem_of_getElem? he
        refine ⟨.one (pts_iff.1 hm), fun e => ?_⟩
        subst e
        exact hn _ hm (by rw [if_pos rfl])
    · simp only [if_neg e] at hxc
      obtain ⟨s, s1, s2, s3⟩ := h.op x hx hxr hxc
      have hsl := (List.getElem?_eq_some_iff.1 s1).1
      have hsq : s < O'.length := by
        rcases last_at s1 with s4 | ⟨_, s4⟩
        · exact (List.getElem?_eq_some_iff.1 s4).1
        · exact absurd s4 e
      have hrq := (s3 O'.length q hsq (by rw [List.getElem?_append_right (Nat.le_refl _), Nat.sub_self]; rfl)).1
      refine ⟨s, by rw [List.getElem?_append_left hsl]; exact s1, fun d hd => ?_, fun s' e9 hs he => ?_⟩
      · rcases s2 d hd with h2 | ⟨s', h3, h4⟩
        · exact .inl (hup d h2)
        · exact .inr ⟨s', h3, by rw [List.getElem?_append_left (List.getElem?_eq_some_iff.1 h4).1]; exact h4⟩
      · by_cases hs2 : s' < (O' ++ [q]).length
        · rw [List.getElem?_append_left hs2] at he
          exact s3 s' e9 hs he
        · rw [List.getElem?_append_right (by omega)] at he
          have hm := List.mem_of_getElem? he
          refine ⟨.more hrq (pts_iff.1 hm), fun e8 => ?_⟩
          subst e8
          exact hn _ hm (by rw [if_neg e]; exact hxc)
  · rcases h.go with h2 | h2
    · exact .inl (hup r h2)
    · exact .inr (by rw [List.getElem?_append_left (List.getElem?_eq_some_iff.1 h2).1]; exact h2)
  · by_cases e : x = q
    · rw [if_pos e] at hxc
      omega
    · rw [if_neg e] at hxc
      exact hup d (h.dn x hx hxr hxc d hd)

/-- A part that is open: a circle. -/
theorem ci_circle {sig : List Sy} {M : List Nm} (hL : NdOk sig (M.map Nm.nd)) {root face : Nat → Nat} (hc : ClOk (M.map Nm.nd) root face) {r q d : Nat} {cnt : Nat → Int} {O' : List Nat} (h : CI M root face r cnt (O' ++ [q])) (hd : d ∈ ptsN M root (face q)) (hn : (if d = q then (-1 : Int) else cnt d) = -1) : ∃ c, c < M.length ∧ root c = c ∧ Rch (M.map Nm.nd) root face c c := by
  have hlen : (M.map Nm.nd).length = M.length := by rw [List.length_map]
  obtain ⟨hql, hqr⟩ := h.el q (by simp)
  have hp := pts_iff.1 hd
  by_cases e : d = q
  · subst e
    exact ⟨d, hql, hqr, .one hp⟩
  · rw [if_neg e] at hn
    obtain ⟨s9, xs, x, h1, h2, e9⟩ := hp
    have hxl := Nat.lt_trans (hL.ahead _ _ _ h1 x h2) (List.getElem?_eq_some_iff.1 h1).1
    have hdl : d < M.length ∧ root d = d := by subst e9; exact ⟨by have := hc.lt x hxl; omega, hc.idem x hxl⟩
    obtain ⟨s, s1, s2, s3⟩ := h.op d hdl.1 hdl.2 hn
    have hsq : s < O'.length := by
      rcases last_at s1 with s4 | ⟨_, s4⟩
      · exact (List.getElem?_eq_some_iff.1 s4).1
      · exact absurd s4 e
    have hrq := (s3 O'.length q hsq (by rw [List.getElem?_append_right (Nat.le_refl _), Nat.sub_self]; rfl)).1
    exact ⟨d, hdl.1, hdl.2, .more hrq (pts_iff.1 hd)⟩

/-- How many are not counted. -/
def nZero (n : Nat) (cnt : Nat → Int) : Nat := ((List.range n).filter fun i => decide (cnt i = 0)).length

theorem nZero_mark {n q : Nat} {cnt : Nat → Int} (hq : q < n) (h0 : cnt q = 0) : nZero n (fun j => if j = q then -1 else cnt j) < nZero n cnt := by
  unfold nZero
  refine filter_lt (fun i _ hp => ?_) (List.mem_range.2 hq) (decide_eq_true h0) (decide_eq_false (by simp only [if_true]; omega))
  have h1 := of_decide_eq_true hp
  by_cases e : i = q
  · simp only [if_pos e] at h1
    omega
  · simp only [if_neg e] at h1
    exact decide_eq_true h1

theorem nZero_less {n q : Nat} {cnt : Nat → Int} {x : Int} (hx : x ≠ 0) : nZero n (fun j => if j = q then x else cnt j) ≤ nZero n cnt := by
  unfold nZero
  refine filter_less fun i _ hp => ?_
  have h1 := of_decide_eq_true hp
  by_cases e : i = q
  · simp only [if_pos e] at h1
    exact absurd h1 hx
  · simp only [if_neg e] at h1
    exact decide_eq_true h1

theorem nZero_le (n : Nat) (cnt : Nat → Int) : nZero n cnt ≤ n := by
  unfold nZero
  have := List.length_filter_le (fun i => decide (cnt i = 0)) (List.range n)
  simpa using this

end Go.Proofs.YtoapgbaibpkckaaGreatDoor

/- The nodes of a right term, grown from its back to its front: plain. -/
namespace Go.Proofs.YtoapgbaibpkckaaGreatDoor

theorem snoc_old {α : Type} {L : List α} {x y : α} {i : Nat} (h : L[i]? = some y) : (L ++ [x])[i]? = some y := by
  rw [List.getElem?_append_left (List.getElem?_eq_some_iff.1 h).1]
  exact h

theorem snoc_new {α : Type} (L : List α) (x : α) : (L ++ [x])[L.length]? = some x := by simp

theorem snoc_parts {α : Type} {L : List α} {x y : α} {i : Nat} (h : (L ++ [x])[i]? = some y) : L[i]? = some y ∨ (i = L.length ∧ y = x) := by
  have hi := (List.getElem?_eq_some_iff.1 h).1
  rw [List.length_append, List.length_singleton] at hi
  by_cases e : i < L.length
  · rw [List.getElem?_append_left e] at h
    exact .inl h
  · obtain rfl : i = L.length := by omega
    rw [snoc_new] at h
    exact .inr ⟨rfl, (Option.some.inj h).symm⟩

theorem ndOk_var {sig : List Sy} {L : List Nd} (h : NdOk sig L) {n : Int} (h0 : 0 ≤ n) (h1 : n < 1048576) (hn : ∀ i : Nat, L[i]? ≠ some (Nd.var n)) : NdOk sig (L ++ [.var n]) := by
  refine ⟨fun i m hm => ?_, fun i c xs hm => ?_, fun i c xs hm => ?_, fun i j m hi hj => ?_⟩
  · rcases snoc_parts hm with hm | ⟨_, hm⟩
    · exact h.num i m hm
    · cases hm
      exact ⟨h0, h1⟩
  · rcases snoc_parts hm with hm | ⟨_, hm⟩
    · exact h.sym i c xs hm
    · cases hm
  · rcases snoc_parts hm with hm | ⟨_, hm⟩
    · exact h.ahead i c xs hm
    · cases hm
  · rcases snoc_parts hi with hi | ⟨e1, hi⟩ <;> rcases snoc_parts hj with hj | ⟨e2, hj⟩
    · exact h.once i j m hi hj
    · cases hj
      exact (hn i hi).elim
    · cases hi
      exact (hn j hj).elim
    · rw [e1, e2]

theorem ndOk_app {sig : List Sy} {L : List Nd} (h : NdOk sig L) {c : Int} {xs : List Nat} (h0 : ¬ c < 0) (h1 : c.toNat < sig.length) (h2 : xs.length = arN sig c) (hx : ∀ x ∈ xs, x < L.length) : NdOk sig (L ++ [.app c xs]) := by
  refine ⟨fun i m hm => ?_, fun i c' xs' hm => ?_, fun i c' xs' hm => ?_, fun i j m hi hj => ?_⟩
  · rcases snoc_parts hm with hm | ⟨_, hm⟩
    · exact h.num i m hm
    · cases hm
  · rcases snoc_parts hm with hm | ⟨_, hm⟩
    · exact h.sym i c' xs' hm
    · cases hm
      exact ⟨h0, h1, h2⟩
  · rcases snoc_parts hm with hm | ⟨e, hq⟩
    · exact h.ahead i c' xs' hm
    · cases hq
      rw [e]
      exact hx
  · rcases snoc_parts hi with hi | ⟨_, hi⟩
    · rcases snoc_parts hj with hj | ⟨_, hj⟩
      · exact h.once i j m hi hj
      · cases hj
    · cases hi

theorem tmC_ext {L L' : List Nd} (he : ∀ (j : Nat) (d : Nd), L[j]? = some d → L'[j]? = some d) {i : Nat} {t : List Int} (h : TmC L id id i t) : TmC L' id id i t := by
  induction h with
  | var h => exact .var (he _ _ h)
  | app h hl _ ih => exact .app (he _ _ h) hl ih

theorem tmC_lt {L : List Nd} {i : Nat} {t : List Int} (h : TmC L id id i t) : i < L.length := by
  cases h with
  | var h => exact (List.getElem?_eq_some_iff.1 h).1
  | app h _ _ => exact (List.getElem?_eq_some_iff.1 h).1

theorem Bel.ext {L L' : List Nd} (he : ∀ (j : Nat) (d : Nd), L[j]? = some d → L'[j]? = some d) {r i : Nat} (h : Bel L r i) : Bel L' r i := by
  induction h with
  | here => exact .here _
  | arg _ hx hy ih => exact .arg ih (he _ _ hx) hy

theorem Bel.trans {L : List Nd} {r x y : Nat} (h : Bel L r x) (k : Bel L x y) : Bel L r y := by
  induction k with
  | here => exact h
  | arg _ hx hy ih => exact .arg ih hx hy

/-- Nodes grown for a row's end u, of L the first n0 are older: the stack has the terms that u is made of, the first one last. -/
structure Gr (sig : List Sy) (n0 : Nat) (L : List Nd) (st : List Nat) (u : List Int) : Prop where
  ok : NdOk sig L
  len : st.length = (growR sig u).length
  tms : ∃ ts : List (List Int), ts.length = st.length ∧ (∀ (k x : Nat) (t : List Int), st[k]? = some x → ts[k]? = some t → TmC L id id x t) ∧ ts.reverse.flatten = u
  cov : ∀ i, n0 ≤ i → i < L.length → ∃ x ∈ st, Bel L x i
  few : L.length ≤ n0 + u.length

theorem gr_start {sig : List Sy} {L : List Nd} (h : NdOk sig L) : Gr sig L.length L [] [] :=
  ⟨h, rfl, ⟨[], rfl, fun k x t h => (by simp at h), rfl⟩, fun i h1 h2 => by omega, by simp⟩

theorem Gr.lt {sig : List Sy} {n0 : Nat} {L : List Nd} {st : List Nat} {u : List Int} (h : Gr sig n0 L st u) {x : Nat} (hx : x ∈ st) : x < L.length := by
  obtain ⟨ts, hl, ht, _⟩ := h.tms
  obtain ⟨k, hk⟩ := List.getElem?_of_mem hx
  have hkl := (List.getElem?_eq_some_iff.1 hk).1
  exact tmC_lt (ht k x _ hk (List.getElem?_eq_getElem (by omega)))

theorem growStep_len (sig : List Sy) (u : List Int) (c : Int) : (growR sig (c :: u)).length = if c < 0 then (growR sig u).length + 1 else (growR sig u).length - arN sig c + 1 := by
  show (growStep sig (growR sig u) c).length = _
  unfold growStep
  split
  · simp
  · rw [List.length_append, List.length_take]
    simp only [List.length_cons, List.length_nil]
    omega

/-- A variable that has its node. -/
theorem gr_old {sig : List Sy} {n0 : Nat} {L : List Nd} {st : List Nat} {u : List Int} (h : Gr sig n0 L st u) {i : Nat} {n : Int} (hi : L[i]? = some (Nd.var n)) : Gr sig n0 L (st ++ [i]) ((-1 - n) :: u) := by
  have hn := h.ok.num i n hi
  obtain ⟨ts, hl, ht, hf⟩ := h.tms
  refine ⟨h.ok, ?_, ⟨ts ++ [[-1 - n]], by simp [hl], fun k x t hk hkt => ?_, by simp [hf]⟩, fun j h1 h2 => ?_, ?_⟩
  · rw [growStep_len, if_pos (by omega), List.length_append, h.len]
    rfl
  · rcases snoc_parts hk with hk | ⟨e, rfl⟩
    · rcases snoc_parts hkt with hkt | ⟨e2, _⟩
      · exact ht k x t hk hkt
      · have := (List.getElem?_eq_some_iff.1 hk).1
        omega
    · rcases snoc_parts hkt with hkt | ⟨_, rfl⟩
      · have := (List.getElem?_eq_some_iff.1 hkt).1
        omega
      · exact .var hi
  · obtain ⟨x, hx, hb⟩ := h.cov j h1 h2
    exact ⟨x, List.mem_append_left _ hx, hb⟩
  · have := h.few
    simp only [List.length_cons]
    omega

/-- More nodes. -/
theorem gr_more {sig : List Sy} {n0 : Nat} {L : List Nd} {st : List Nat} {u : List Int} (h : Gr sig n0 L st u) {d : Nd} (hk : NdOk sig (L ++ [d])) {st' : List Nat} {c : Int} (hl : st'.length = (growR sig (c :: u)).length) (ht : ∃ ts : List (List Int), ts.length = st'.length ∧ (∀ (k x : Nat) (t : List Int), st'[k]? = some x → ts[k]? = some t → TmC (L ++ [d]) id id x t) ∧ ts.reverse.flatten = c :: u)
    (hc : ∀ x ∈ st, ∃ y ∈ st', Bel (L ++ [d]) y x) (hn : L.length ∈ st') : Gr sig n0 (L ++ [d]) st' (c :: u) := by
  refine ⟨hk, hl, ht, fun i h1 h2 => ?_, ?_⟩
  · by_cases e : i < L.length
    · obtain ⟨x, hx, hb⟩ := h.cov i h1 e
      obtain ⟨y, hy, hb2⟩ := hc x hx
      exact ⟨y, hy, hb2.trans (hb.ext fun j d hj => snoc_old hj)⟩
    · rw [List.length_append, List.length_singleton] at h2
      obtain rfl : i = L.length := by omega
      exact ⟨_, hn, .here _⟩
  · have := h.few
    rw [List.length_append]
    simp only [List.length_cons, List.length_nil]
    omega

/-- A variable met first. -/
theorem gr_new {sig : List Sy} {n0 : Nat} {L : List Nd} {st : List Nat} {u : List Int} (h : Gr sig n0 L st u) {n : Int} (h0 : 0 ≤ n) (h1 : n < 1048576) (hn : ∀ i : Nat, L[i]? ≠ some (Nd.var n)) : Gr sig n0 (L ++ [.var n]) (st ++ [L.length]) ((-1 - n) :: u) := by
  obtain ⟨ts, hl, ht, hf⟩ := h.tms
  refine gr_more h (ndOk_var h.ok h0 h1 hn) ?_ ⟨ts ++ [[-1 - n]], by simp [hl], fun k x t hk hkt => ?_, by simp [hf]⟩ (fun x hx => ⟨x, List.mem_append_left _ hx, .here _⟩) (by simp)
  · rw [growStep_len, if_pos (by omega), List.length_append, h.len]
    rfl
  · rcases snoc_parts hk with hk | ⟨e, rfl⟩
    · rcases snoc_parts hkt with hkt | ⟨e2, _⟩
      · exact tmC_ext (fun j d hj => snoc_old hj) (ht k x t hk hkt)
      · have := (List.getElem?_eq_some_iff.1 hk).1
        omega
    · rcases snoc_parts hkt with hkt | ⟨_, rfl⟩
      · have := (List.getElem?_eq_some_iff.1 hkt).1
        omega
      · exact .var (snoc_new _ _)

/-- A symbol: its arguments leave the stack. -/
theorem gr_app {sig : List Sy} {n0 : Nat} {L : List Nd} {st : List Nat} {u : List Int} (h : Gr sig n0 L st u) {c : Int} (h0 : ¬ c < 0) (h1 : c.toNat < sig.length) (h2 : arN sig c ≤ st.length) :
    Gr sig n0 (L ++ [.app c (st.drop (st.length - arN sig c)).reverse]) (st.take (st.length - arN sig c) ++ [L.length]) (c :: u) := by
  obtain ⟨ts, hl, ht, hf⟩ := h.tms
  generalize hr : st.length - arN sig c = r
  have hrl : r ≤ st.length := by omega
  have htl : (st.take r).length = r := by rw [List.length_take]; omega
  refine gr_more h (ndOk_app h.ok h0 h1 (by rw [List.length_reverse, List.length_drop]; omega) (fun x hx => h.lt (List.mem_of_mem_drop (List.mem_reverse.1 hx)))) ?_
    ⟨ts.take r ++ [c :: (ts.drop r).reverse.flatten], by rw [List.length_append, List.length_append, List.length_take, List.length_take, hl]; rfl, fun k x t hk hkt => ?_, ?_⟩ (fun x hx => ?_) (by simp)
  · rw [growStep_len, if_neg h0, List.length_append, htl, ← h.len, hr]
    rfl
  · have htr : (ts.take r).length = r := by rw [List.length_take]; omega
    rcases snoc_parts hk with hk | ⟨e, rfl⟩
    · rcases snoc_parts hkt with hkt | ⟨e2, _⟩
      · have hkr := (List.getElem?_eq_some_iff.1 hk).1
        rw [htl] at hkr
        rw [List.getElem?_take_of_lt hkr] at hk hkt
        exact tmC_ext (fun j d hj => snoc_old hj) (ht k x t hk hkt)
      · have := (List.getElem?_eq_some_iff.1 hk).1
        omega
    · rcases snoc_parts hkt with hkt | ⟨_, rfl⟩
      · have := (List.getElem?_eq_some_iff.1 hkt).1
        omega
      · refine .app (snoc_new _ _) (by simp [hl]) (fun j y t hy hyt => ?_)
        have hj := (List.getElem?_eq_some_iff.1 hy).1
        rw [List.length_reverse, List.length_drop] at hj
        rw [List.getElem?_reverse (by rw [List.length_drop]; omega), List.length_drop, List.getElem?_drop] at hy hyt
        rw [hl] at hyt
        exact tmC_ext (fun j d hj => snoc_old hj) (ht _ y t hy hyt)
  · rw [List.reverse_append, List.flatten_append]
    simp only [List.reverse_cons, List.reverse_nil, List.nil_append, List.flatten_cons, List.flatten_nil, List.append_nil, List.cons_append]
    rw [← List.flatten_append, ← List.reverse_append, List.take_append_drop, hf]
  · rw [← List.take_append_drop r st] at hx
    rcases List.mem_append.1 hx with hx | hx
    · exact ⟨x, List.mem_append_left _ hx, .here _⟩
    · exact ⟨L.length, by simp, .arg (.here _) (snoc_new _ _) (List.mem_reverse.2 hx)⟩

/-- The whole of a right term: one node. -/
theorem gr_done {sig : List Sy} (ha : ArOk sig) {n0 : Nat} {L : List Nd} {st : List Nat} {u : List Int} (h : Gr sig n0 L st u) (hu : rowE sig u = 0) : ∃ r, st = [r] ∧ TmC L id id r u ∧ ∀ i, n0 ≤ i → i < L.length → Bel L r i := by
  obtain ⟨T, hT, _⟩ := grow_one ha hu
  have hl := h.len
  rw [hT] at hl
  obtain ⟨r, rfl⟩ := List.length_eq_one_iff.1 hl
  obtain ⟨ts, h1, h2, h3⟩ := h.tms
  obtain ⟨t, rfl⟩ := List.length_eq_one_iff.1 h1
  simp at h3
  subst h3
  refine ⟨r, rfl, h2 0 r t rfl rfl, fun i hi1 hi2 => ?_⟩
  obtain ⟨x, hx, hb⟩ := h.cov i hi1 hi2
  rw [List.mem_singleton] at hx
  rw [← hx]
  exact hb

end Go.Proofs.YtoapgbaibpkckaaGreatDoor

/- When two terms unify, by their nodes: plain. -/
namespace Go.Proofs.YtoapgbaibpkckaaGreatDoor

/-- Some binds make two terms one. -/
def Unif (sig : List Sy) (a b : List Int) : Prop := ∃ f : Int → Option (List Int), (∀ n u, f n = some u → rowE sig u = 0) ∧ laidL f a = laidL f b

/-- Each node stands for a term. -/
theorem tmC_all {sig : List Sy} {L : List Nd} (hL : NdOk sig L) : ∀ (m i : Nat), i < m → i < L.length → ∃ t, TmC L id id i t
  | 0, i, h, _ => by omega
  | m + 1, i, h, hi => by
    have hLi : L[i]? = some L[i] := List.getElem?_eq_getElem hi
    cases hd : L[i] with
    | var n => exact ⟨_, .var (by rw [← hd]; exact hLi)⟩
    | app c xs =>
      have hx : L[i]? = some (Nd.app c xs) := by rw [← hd]; exact hLi
      refine ⟨c :: (xs.map (vC L id id)).flatten, .app hx (by rw [List.length_map]) (fun k x t hk ht => ?_)⟩
      have hxi := hL.ahead i c xs hx x (List.mem_of_getElem? hk)
      obtain ⟨t', ht'⟩ := tmC_all hL m x (by omega) (by omega)
      rw [List.getElem?_map, hk, Option.map_some, Option.some.injEq] at ht
      rw [← ht, vC_eq (root := id) (face := id) (i := x) (by exact ht')]
      exact ht'

theorem laid_sym {f : Int → Option (List Int)} {c : Int} (hc : ¬ c < 0) (u : List Int) : laidL f (c :: u) = c :: laidL f u := by
  unfold laidL
  rw [List.flatMap_cons]
  unfold piece
  rw [if_neg hc]
  rfl

/-- Where no valuation makes the two nodes one, no binds make the two terms one. -/
theorem unif_no {sig : List Sy} (ha : ArOk sig) {L : List Nd} (hL : NdOk sig L) {a b : List Int} {ra rb : Nat} (hta : TmC L id id ra a) (htb : TmC L id id rb b) (hno : ∀ V, Val sig L V → V ra ≠ V rb) : ¬ Unif sig a b := by
  rintro ⟨f, hf, he⟩
  have hcl : Closed L id id := closed_of (wait_start L [])
  have hT : ∀ i, i < L.length → ∃ t, TmC L id id (id i) t := fun i hi => tmC_all hL (i + 1) i (by omega) hi
  have hV := vC_val ha hL (cl_start hL) hcl hT
  refine hno (fun i => laidL f (vC L id id i)) (fun i hi => ⟨row_laid ha hf (hV i hi).1, fun c xs hx => ?_⟩) ?_
  · show laidL f (vC L id id i) = _
    rw [(hV i hi).2 c xs hx, laid_sym (hL.sym i c xs hx).1, laid_flat, List.map_map]
    rfl
  · show laidL f (vC L id id ra) = laidL f (vC L id id rb)
    rw [vC_eq (root := id) (face := id) (i := ra) (by exact hta), vC_eq (root := id) (face := id) (i := rb) (by exact htb)]
    exact he

/-- What the classes become. -/
structure Sol6 (sig : List Sy) (L : List Nd) (root face : Nat → Nat) (ra rb : Nat) : Prop where
  ok : ClOk L root face
  clo : Closed L root face
  tm : ∀ i, i < L.length → ∃ t, TmC L root face (root i) t
  one : root ra = root rb
  jn : ∀ V, Val sig L V → V ra = V rb → Slv L.length root V

/-- The binds of the classes make the two terms one. -/
theorem unif_yes {sig : List Sy} (ha : ArOk sig) {L : List Nd} (hL : NdOk sig L) {a b : List Int} {ra rb : Nat} {root face : Nat → Nat} (hta : TmC L id id ra a) (htb : TmC L id id rb b) (h : Sol6 sig L root face ra rb) :
    (∀ n u, gV L (vC L root face) n = some u → rowE sig u = 0) ∧ laidL (gV L (vC L root face)) a = vC L root face ra ∧ laidL (gV L (vC L root face)) b = vC L root face rb ∧ vC L root face ra = vC L root face rb := by
  have hV := vC_val ha hL h.ok h.clo h.tm
  have hs0 : Slv L.length id (vC L root face) := fun i _ => rfl
  refine ⟨fun n u hu => ?_, (slv_laid hL (cl_start hL) hV hs0 hta (tmC_lt hta) rfl).symm, (slv_laid hL (cl_start hL) hV hs0 htb (tmC_lt htb) rfl).symm, ?_⟩
  · unfold gV at hu
    split at hu
    · rename_i h9
      cases hu
      exact (hV _ (List.getElem?_eq_some_iff.1 (Classical.choose_spec h9)).1).1
    · cases hu
  · have h1 := vC_slv (face := face) h.ok ra (tmC_lt hta)
    have h2 := vC_slv (face := face) h.ok rb (tmC_lt htb)
    rw [h1, h2, h.one]

theorem unif_iff_yes {sig : List Sy} (ha : ArOk sig) {L : List Nd} (hL : NdOk sig L) {a b : List Int} {ra rb : Nat} {root face : Nat → Nat} (hta : TmC L id id ra a) (htb : TmC L id id rb b) (h : Sol6 sig L root face ra rb) : Unif sig a b := by
  obtain ⟨h1, h2, h3, h4⟩ := unif_yes ha hL hta htb h
  exact ⟨_, h1, by rw [h2, h3, h4]⟩

end Go.Proofs.YtoapgbaibpkckaaGreatDoor

/- Rows whose variables are moved, plainly. -/
namespace Go.Proofs.YtoapgbaibpkckaaGreatDoor
open Go.RowKit Go.Maps Go.BigFrame

def movL (d : Int) (t : List Int) : List Int := t.map fun c => if c < 0 then c - d else c

theorem mov_ok {d : Int} {t : List Int} (h : okShift d t = true) : shiftE d t = 0 ∧ shiftL d t = movL d t := by
  unfold shiftE shiftL
  rw [if_pos h, if_pos h]
  exact ⟨rfl, rfl⟩

theorem mov_code {sig : List Sy} {d c : Int} (h : c < 0 → isVarB (-1 - c + d) = true) (hc : codeD sig c ≠ none) : codeD sig (if c < 0 then c - d else c) = codeD sig c := by
  by_cases h0 : c < 0
  · rw [if_pos h0]
    have h1 := isVarB_iff.1 (h h0)
    have h2 : ¬ c < -1048576 := fun h2 => hc (codeD_none (.inr h2))
    unfold codeD
    rw [if_neg (by omega), if_pos (by omega), if_neg (by omega), if_pos (by omega)]
  · rw [if_neg h0]

theorem mov_first {sig : List Sy} {d : Int} : ∀ (t : List Int) (m : Int) (i : Nat), okShift d t = true → (∀ c ∈ t, codeD sig c ≠ none) → firstT sig m i (movL d t) = firstT sig m i t
  | [], _, _, _, _ => rfl
  | c :: t, m, i, ho, hc => by
    have h1 : (c < 0 → isVarB (-1 - c + d) = true) ∧ okShift d t = true := by
      unfold okShift at ho ⊢
      rw [List.all_cons, Bool.and_eq_true] at ho
      refine ⟨fun h0 => ?_, ho.2⟩
      have := ho.1
      simpa [h0] using this
    have e : movL d (c :: t) = (if c < 0 then c - d else c) :: movL d t := rfl
    rw [e]
    unfold firstT
    rw [mov_code h1.1 (hc c (by simp))]
    cases codeD sig c with
    | none => rfl
    | some x =>
      simp only
      rw [mov_first t _ _ h1.2 (fun y hy => hc y (by simp [hy]))]

theorem first_codes {sig : List Sy} : ∀ (t : List Int) (m : Int) (i : Nat), firstT sig m i t = ((i : Int) + t.length, 0) → ∀ c ∈ t, codeD sig c ≠ none
  | [], _, _, _, c, hc => by simp at hc
  | a :: t, m, i, h, c, hc => by
    unfold firstT at h
    cases ha : codeD sig a with
    | none => rw [ha] at h; simp at h
    | some x =>
      rw [ha] at h
      simp only at h
      by_cases h0 : m + x = 0
      · rw [if_pos h0] at h
        have h2 := congrArg Prod.fst h
        simp only [List.length_cons] at h2
        have h3 : t.length = 0 := by omega
        obtain rfl := List.eq_nil_of_length_eq_zero h3
        rw [List.mem_singleton] at hc
        subst hc
        rw [ha]
        simp
      · rw [if_neg h0] at h
        rcases List.mem_cons.1 hc with rfl | hc
        · rw [ha]; simp
        · refine first_codes t (m + x) (i + 1) ?_ c hc
          rw [h]
          simp only [List.length_cons]
          congr 1
          push_cast
          omega

theorem mov_row {sig : List Sy} {d : Int} {t : List Int} (ho : okShift d t = true) (h : rowE sig t = 0) : rowE sig (movL d t) = 0 := by
  have h1 := first_right h []
  rw [List.append_nil] at h1
  have h2 := mov_first (sig := sig) t 1 0 ho (first_codes t 1 0 (by rw [h1]; simp))
  unfold rowE at h ⊢
  rw [h2]
  have h3 : (movL d t).length = t.length := by unfold movL; simp
  rw [h3]
  exact h

end Go.Proofs.YtoapgbaibpkckaaGreatDoor

/- CAPs and the sides of pairs, plainly. -/
namespace Go.Proofs.YtoapgbaibpkckaaGreatDoor
open Go.RowKit

/-- How many codes the first term of a row has. -/
def fstN (sig : List Sy) (u : List Int) : Nat := (firstT sig 1 0 u).1.toNat

/-- A row of terms, with a variable of its own for each variable and each term whose root is defined. -/
def capG (sig : List Sy) (D : List Int) : Nat → Nat → List Int → List Int × Nat
  | 0, f, _ => ([], f)
  | _ + 1, f, [] => ([], f)
  | N + 1, f, c :: r => if 0 ≤ c ∧ c ∉ D then (c :: (capG sig D N f r).1, (capG sig D N f r).2) else ((-1 - (f : Int)) :: (capG sig D N (f + 1) (r.drop (fstN sig (c :: r) - 1))).1, (capG sig D N (f + 1) (r.drop (fstN sig (c :: r) - 1))).2)

def capL (sig : List Sy) (D : List Int) : List Int → List Int
  | [] => []
  | c :: r => c :: (capG sig D r.length 0 r).1

/-- A term at the head of a row of m. -/
theorem head_term {sig : List Sy} (ha : ArOk sig) {u : List Int} {m : Int} {i : Nat} (hm : 1 ≤ m) (h : firstT sig m i u = ((i : Int) + u.length, 0)) :
    ∃ k : Nat, 1 ≤ k ∧ k ≤ u.length ∧ fstN sig u = k ∧ rowE sig (u.take k) = 0 ∧ (m = 1 → k = u.length) ∧ (1 < m → firstT sig (m - 1) (i + k) (u.drop k) = ((i : Int) + u.length, 0)) := by
  obtain ⟨k, k1, k2, k3, k4, k5⟩ := first_part ha u 1 m 0 i (by omega) hm h
  obtain ⟨k', e1, _, _, e4⟩ := first_take u 1 0 _ k3
  have hkk : k' = k := by omega
  subst hkk
  refine ⟨k', k1, k2, ?_, ?_, fun h => k4 h, k5⟩
  · unfold fstN
    rw [k3]
    simp
  · rw [row_first, e4, List.length_take]
    congr 1
    omega

theorem capG_nil (sig : List Sy) (D : List Int) (N f : Nat) : capG sig D N f [] = ([], f) := by cases N <;> rfl

/-- The CAP of a row of terms is one. -/
theorem capG_rows {sig : List Sy} (ha : ArOk sig) (D : List Int) : ∀ (N f : Nat) (r : List Int) (m : Int) (i j : Nat), r.length ≤ N → f + r.length ≤ 1048576 → 1 ≤ m → firstT sig m i r = ((i : Int) + r.length, 0) →
    firstT sig m j (capG sig D N f r).1 = ((j : Int) + (capG sig D N f r).1.length, 0) ∧ (capG sig D N f r).1.length ≤ r.length ∧ (capG sig D N f r).2 ≤ f + r.length ∧ f ≤ (capG sig D N f r).2 ∧ ∀ c ∈ (capG sig D N f r).1, c < 0 → (f : Int) ≤ -1 - c ∧ -1 - c < ((capG sig D N f r).2 : Int)
  | _, _, [], m, i, j, _, _, hm, h => by simp [firstT] at h
  | 0, _, c :: r, m, i, j, hN, _, _, _ => by simp at hN
  | N + 1, f, c :: r, m, i, j, hN, hf, hm, h => by
    rw [List.length_cons] at hN hf
    by_cases hc : 0 ≤ c ∧ c ∉ D
    · have e : capG sig D (N + 1) f (c :: r) = (c :: (capG sig D N f r).1, (capG sig D N f r).2) := by rw [capG, if_pos hc]
      rw [e]
      rw [firstT_cons] at h ⊢
      cases hcd : codeD sig c with
      | none => rw [hcd] at h; simp at h
      | some x =>
        rw [hcd] at h
        simp only at h ⊢
        have hx := codeD_ge ha hcd
        by_cases h0 : m + x = 0
        · rw [if_pos h0] at h ⊢
          have h2 := congrArg Prod.fst h
          simp only [List.length_cons] at h2
          obtain rfl : r = [] := List.eq_nil_of_length_eq_zero (by omega)
          rw [capG_nil]
          refine ⟨by simp, by simp, by simp, by simp, fun d hd h9 => ?_⟩
          rw [List.mem_singleton] at hd
          omega
        · rw [if_neg h0] at h ⊢
          have h2 : firstT sig (m + x) (i + 1) r = (((i + 1 : Nat) : Int) + r.length, 0) := by rw [h, List.length_cons]; congr 1; push_cast; omega
          obtain ⟨g1, g2, g3, g4, g5⟩ := capG_rows ha D N f r (m + x) (i + 1) (j + 1) (by omega) (by omega) (by omega) h2
          refine ⟨by rw [g1, List.length_cons]; congr 1; push_cast; omega, by rw [List.length_cons, List.length_cons]; omega, by rw [List.length_cons]; omega, g4, fun d hd h9 => ?_⟩
          rcases List.mem_cons.1 hd with rfl | hd
          · omega
          · exact g5 d hd h9
    · have e : capG sig D (N + 1) f (c :: r) = ((-1 - (f : Int)) :: (capG sig D N (f + 1) (r.drop (fstN sig (c :: r) - 1))).1, (capG sig D N (f + 1) (r.drop (fstN sig (c :: r) - 1))).2) := by rw [capG, if_neg hc]
      obtain ⟨k, k1, k2, k3, k4, k5, k6⟩ := head_term ha hm h
      rw [e, k3]
      rw [List.length_cons] at k2 k5
      have hd1 : (c :: r).drop k = r.drop (k - 1) := by
        obtain ⟨k', rfl⟩ : ∃ k', k = k' + 1 := ⟨k - 1, by omega⟩
        rfl
      rw [hd1] at k6
      have hcd : codeD sig (-1 - (f : Int)) = some (-1) := codeD_var (by omega) (by omega)
      rw [firstT_cons, hcd]
      simp only
      by_cases h1 : m = 1
      · have hkl := k5 h1
        have hnil : r.drop (k - 1) = [] := by rw [List.drop_eq_nil_iff]; omega
        rw [hnil, capG_nil, if_pos (by omega)]
        refine ⟨by simp, by simp, by simp only [List.length_cons]; omega, by simp, fun d hd h9 => ?_⟩
        rw [List.mem_singleton] at hd
        subst hd
        simp only
        omega
      · have h2 := k6 (by omega)
        rw [if_neg (by omega)]
        have hdl : (r.drop (k - 1)).length = r.length - (k - 1) := List.length_drop
        obtain ⟨g1, g2, g3, g4, g5⟩ := capG_rows ha D N (f + 1) (r.drop (k - 1)) (m - 1) (i + k) (j + 1) (by omega) (by omega) (by omega) (by rw [h2, hdl, List.length_cons]; congr 1; push_cast; omega)
        refine ⟨by rw [show m + -1 = m - 1 by omega, g1, List.length_cons]; congr 1; push_cast; omega, by rw [List.length_cons, List.length_cons]; omega, by rw [List.length_cons]; omega, by omega, fun d hd h9 => ?_⟩
        rcases List.mem_cons.1 hd with rfl | hd
        · omega
        · have := g5 d hd h9
          omega

/-- The CAP of a right term whose root is a symbol is a right term, with variables from nought on. -/
theorem capL_right {sig : List Sy} (ha : ArOk sig) (D : List Int) {t : List Int} (h : rowE sig t = 0) (h0 : 0 ≤ (t[0]?).getD (-1)) (hl : t.length ≤ 1048576) :
    rowE sig (capL sig D t) = 0 ∧ (capL sig D t).length ≤ t.length ∧ ∃ f : Nat, f + 1 ≤ t.length ∧ ∀ c ∈ capL sig D t, c < 0 → -1 - c < (f : Int) := by
  cases t with
  | nil => simp at h0
  | cons c r =>
    simp only [List.getElem?_cons_zero, Option.getD_some] at h0
    rw [row_first, firstT_cons] at h
    rw [List.length_cons] at hl
    unfold capL
    cases hcd : codeD sig c with
    | none => rw [hcd] at h; simp at h
    | some x =>
      rw [hcd] at h
      simp only at h
      have hx := codeD_ge ha hcd
      by_cases hz : 1 + x = 0
      · rw [if_pos hz] at h
        have h2 := congrArg Prod.fst h
        simp only [List.length_cons] at h2
        obtain rfl : r = [] := List.eq_nil_of_length_eq_zero (by omega)
        refine ⟨?_, by simp [capG], 0, by simp, fun d hd h9 => ?_⟩
        · rw [row_first, firstT_cons, hcd]
          simp only
          rw [if_pos hz]
          simp [capG]
        · simp only [capG, List.length_nil, List.mem_singleton] at hd
          omega
      · rw [if_neg hz] at h
        obtain ⟨g1, g2, g3, g4, g5⟩ := capG_rows ha D r.length 0 r (1 + x) 1 1 (Nat.le_refl _) (by omega) (by omega) (by rw [h, List.length_cons]; congr 1; push_cast; omega)
        refine ⟨?_, by rw [List.length_cons, List.length_cons]; omega, (capG sig D r.length 0 r).2, by rw [List.length_cons]; omega, fun d hd h9 => ?_⟩
        · rw [row_first, firstT_cons, hcd]
          simp only
          rw [if_neg hz, g1, List.length_cons]
          congr 1
          push_cast
          omega
        · rcases List.mem_cons.1 hd with rfl | hd
          · omega
          · exact (g5 d hd h9).2

/-- Two rows as far as the first variable of one of them. -/
def beginB : List Int → List Int → Bool
  | [], _ => true
  | _ :: _, [] => true
  | c :: a, d :: b => if c < 0 ∨ d < 0 then true else if c = d then beginB a b else false

/-- What binds make one begins alike. -/
theorem begin_unif {f : Int → Option (List Int)} : ∀ {a b : List Int}, (laidL f a = laidL f b ∨ (∃ q, laidL f a = laidL f b ++ q) ∨ ∃ q, laidL f a ++ q = laidL f b) → beginB a b = true
  | [], _, _ => by simp [beginB]
  | _ :: _, [], _ => by simp [beginB]
  | c :: a, d :: b, h => by
    rw [beginB]
    by_cases h0 : c < 0 ∨ d < 0
    · rw [if_pos h0]
    · rw [if_neg h0]
      have hc : ¬ c < 0 := fun h => h0 (.inl h)
      have hd : ¬ d < 0 := fun h => h0 (.inr h)
      rw [laid_sym hc, laid_sym hd] at h
      have hcd : c = d ∧ (laidL f a = laidL f b ∨ (∃ q, laidL f a = laidL f b ++ q) ∨ ∃ q, laidL f a ++ q = laidL f b) := by
        rcases h with h | ⟨q, h⟩ | ⟨q, h⟩
        · simp only [List.cons.injEq] at h
          exact ⟨h.1, .inl h.2⟩
        · simp only [List.cons_append, List.cons.injEq] at h
          exact ⟨h.1, .inr (.inl ⟨q, h.2⟩)⟩
        · simp only [List.cons_append, List.cons.injEq] at h
          exact ⟨h.1, .inr (.inr ⟨q, h.2⟩)⟩
      rw [if_pos hcd.1]
      exact begin_unif hcd.2

theorem begin_of {sig : List Sy} {a b : List Int} (h : Unif sig a b) : beginB a b = true := by
  obtain ⟨f, _, he⟩ := h
  exact begin_unif (.inl he)

end Go.Proofs.YtoapgbaibpkckaaGreatDoor
