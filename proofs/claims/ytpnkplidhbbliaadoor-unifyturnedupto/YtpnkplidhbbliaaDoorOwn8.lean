/- Texts of the proof, one behind the other. -/
import Derived.Test.YtpnkplidhbbliaaDoorOwn7
import Derived.Deep.LoopGhost
import Derived.Test.YtpnkplidhbbliaaDoorOwn4
import Derived.Test.YtpnkplidhbbliaaDoorOwn6
/- boundRows walked. -/
namespace Go.Proofs.YtpnkplidhbbliaaDoor
open Go.RowKit Go.Maps Go.BigFrame

theorem snoc_cases {α : Type} (l : List α) : l = [] ∨ ∃ xs x, l = xs ++ [x] := by
  rcases List.eq_nil_or_concat l with h | ⟨xs, x, h⟩
  · exact .inl h
  · exact .inr ⟨xs, x, by rw [h, List.concat_eq_append]⟩

/-- The map's rows. -/
def Lr (w : World) (L : List (Int × Value)) (R : List (Int × List Int)) : Prop := ∀ n, (∀ v, L.lookup n = some v → ∃ u, R.lookup n = some u ∧ Is w v u) ∧ (L.lookup n = none → R.lookup n = none)

theorem Lr.cons {w : World} {L : List (Int × Value)} {R : List (Int × List Int)} (h : Lr w L R) {n : Int} {s : Value} {u : List Int} (hs : Is w s u) : Lr w ((n, s) :: L) ((n, u) :: R) := fun m => by
  rw [List.lookup_cons, List.lookup_cons]
  by_cases e : m = n
  · subst e
    simp only [beq_self_eq_true]
    exact ⟨fun v hv => by cases hv; exact ⟨u, rfl, hs⟩, fun hv => by cases hv⟩
  · rw [show (m == n) = false by simpa using e]
    exact h m

theorem Is.inj {w : World} {v : Value} {xs ys : List Int} (h : Is w v xs) (k : Is w v ys) : xs = ys := by
  obtain ⟨ao, cap, rfl, _, _, hx⟩ := h.flatI
  have hl : xs.length = ys.length := Row.len k
  refine List.ext_getElem? fun j => ?_
  by_cases hj : j < xs.length
  · obtain ⟨g, off, x, e, h1, h2⟩ := hx j hj
    obtain ⟨g', off', y, e', h1', h2', _⟩ := k.at (k := j) (by omega)
    rw [e] at e'
    simp only [Option.some.injEq, Addr.mk.injEq, and_true] at e'
    obtain ⟨rfl, rfl⟩ := e'
    rw [h2] at h2'
    cases h2'
    rw [h1, h1']
  · rw [List.getElem?_eq_none (by omega), List.getElem?_eq_none (by omega)]

/-- What is known of a pattern's variables: right rows, of variables that it has. -/
def Ky (sig : List Sy) (p : List Int) (R : List (Int × List Int)) : Prop := ∀ n u, R.lookup n = some u → rowE sig u = 0 ∧ ∃ c ∈ p, c < 0 ∧ n = -1 - c

theorem Ky.cons {sig : List Sy} {p : List Int} {R : List (Int × List Int)} (h : Ky sig p R) {c : Int} {u : List Int} (hu : rowE sig u = 0) (hc : c ∈ p) (h0 : c < 0) : Ky sig p ((-1 - c, u) :: R) := fun n v hv => by
  rw [List.lookup_cons] at hv
  by_cases e : n = -1 - c
  · subst e
    simp only [beq_self_eq_true, Option.some.injEq] at hv
    subst hv
    exact ⟨hu, c, hc, h0, rfl⟩
  · rw [show (n == -1 - c) = false by simpa using e] at hv
    exact h n v hv

theorem len_wait : ∀ ds : List Pr, ds.length ≤ wait ds
  | [] => Nat.zero_le _
  | d :: ds => by
    have h1 := len_wait ds
    have h2 := d.P.pos
    have h3 : wait (d :: ds) = d.P.size + wait ds := by simp [wait]
    rw [List.length_cons, h3]
    omega

/-- What binds must do: those that are known, and the pairs that wait. -/
def Eqv (sig : List Sy) (p t : List Int) (R : List (Int × List Int)) (ds : List Pr) : Prop := ∀ f, Rt sig f → (Sm f p t ↔ (∀ n u, R.lookup n = some u → f n = some u) ∧ ∀ d ∈ ds, Sm f (d.pr p) (d.tr t))

theorem Eqv.bind {sig : List Sy} {p t : List Int} {R : List (Int × List Int)} {es : List Pr} {d : Pr} {n : Int} (h : Eqv sig p t R (es ++ [d])) (hd : ∀ f, Sm f (d.pr p) (d.tr t) ↔ f n = some (d.tr t)) (hn : R.lookup n = none) : Eqv sig p t ((n, d.tr t) :: R) es := fun f hf => by
  rw [h f hf]
  constructor
  · rintro ⟨h1, h2⟩
    refine ⟨fun m u hm => ?_, fun e he => h2 e (by simp [he])⟩
    rw [List.lookup_cons] at hm
    by_cases e : m = n
    · subst e
      simp only [beq_self_eq_true, Option.some.injEq] at hm
      rw [← hm]
      exact (hd f).1 (h2 d (by simp))
    · rw [show (m == n) = false by simpa using e] at hm
      exact h1 m u hm
  · rintro ⟨h1, h2⟩
    have hnn : f n = some (d.tr t) := h1 n _ (by rw [List.lookup_cons]; simp)
    refine ⟨fun m u hm => h1 m u ?_, fun e he => ?_⟩
    · rw [List.lookup_cons]
      by_cases e : m = n
      · subst e
        rw [hn] at hm
        cases hm
      · rw [show (m == n) = false by simpa using e]
        exact hm
    · rcases List.mem_append.1 he with he | he
      · exact h2 e he
      · rw [List.mem_singleton] at he
        subst he
        exact (hd f).2 hnn

theorem Eqv.known {sig : List Sy} {p t : List Int} {R : List (Int × List Int)} {es : List Pr} {d : Pr} {n : Int} (h : Eqv sig p t R (es ++ [d])) (hd : ∀ f, Sm f (d.pr p) (d.tr t) ↔ f n = some (d.tr t)) (hn : R.lookup n = some (d.tr t)) : Eqv sig p t R es := fun f hf => by
  rw [h f hf]
  constructor
  · rintro ⟨h1, h2⟩
    exact ⟨h1, fun e he => h2 e (by simp [he])⟩
  · rintro ⟨h1, h2⟩
    refine ⟨h1, fun e he => ?_⟩
    rcases List.mem_append.1 he with he | he
    · exact h2 e he
    · rw [List.mem_singleton] at he
      subst he
      exact (hd f).2 (h1 n _ hn)

theorem Eqv.clash {sig : List Sy} {p t : List Int} {R : List (Int × List Int)} {es : List Pr} {d : Pr} {n : Int} {u : List Int} (h : Eqv sig p t R (es ++ [d])) (hd : ∀ f, Sm f (d.pr p) (d.tr t) ↔ f n = some (d.tr t)) (hn : R.lookup n = some u) (hu : u ≠ d.tr t) : ∀ f, Rt sig f → ¬ Sm f p t := fun f hf hs => by
  obtain ⟨h1, h2⟩ := (h f hf).1 hs
  have h3 := h1 n u hn
  have h4 := (hd f).1 (h2 d (by simp))
  rw [h3] at h4
  cases h4
  exact hu rfl

theorem Eqv.none {sig : List Sy} {p t : List Int} {R : List (Int × List Int)} {es : List Pr} {d : Pr} (h : Eqv sig p t R (es ++ [d])) (hd : ∀ f, ¬ Sm f (d.pr p) (d.tr t)) : ∀ f, Rt sig f → ¬ Sm f p t := fun f hf hs => hd f (((h f hf).1 hs).2 d (by simp))

theorem Eqv.open {sig : List Sy} {p t : List Int} {R : List (Int × List Int)} {es gs : List Pr} {d : Pr} (h : Eqv sig p t R (es ++ [d])) (hd : ∀ f, Rt sig f → (Sm f (d.pr p) (d.tr t) ↔ ∀ e ∈ gs, Sm f (e.pr p) (e.tr t))) : Eqv sig p t R (es ++ gs) := fun f hf => by
  rw [h f hf]
  constructor
  · rintro ⟨h1, h2⟩
    refine ⟨h1, fun e he => ?_⟩
    rcases List.mem_append.1 he with he | he
    · exact h2 e (by simp [he])
    · exact (hd f hf).1 (h2 d (by simp)) e he
  · rintro ⟨h1, h2⟩
    refine ⟨h1, fun e he => ?_⟩
    rcases List.mem_append.1 he with he | he
    · exact h2 e (by simp [he])
    · rw [List.mem_singleton] at he
      subst he
      exact (hd f hf).2 fun e he => h2 e (by simp [he])

end Go.Proofs.YtpnkplidhbbliaaDoor

/- Match of package match walked. -/
namespace Go.Proofs.YtpnkplidhbbliaaDoor
open Go.RowKit Go.Maps

theorem piece_le {f : Int → Option (List Int)} {p : List Int} {c : Int} (h : c ∈ p) : (piece f c).length ≤ (laidL f p).length := by
  obtain ⟨a, b, rfl⟩ := List.append_of_mem h
  rw [laidL_app, laidL_cons, List.length_append, List.length_append]
  omega

theorem metM_len : ∀ (t m : List Int), (metA m t).length ≤ m.length + t.length
  | [], m => by simp [metA]
  | c :: t, m => by
    unfold metA
    split
    · have := metM_len t m
      simp only [List.length_cons]
      omega
    · have := metM_len t (m ++ [c])
      simp only [List.length_append, List.length_cons, List.length_nil] at this ⊢
      omega

theorem varsM_len (t : List Int) : (varsL t).length ≤ t.length := by
  unfold varsL
  rw [List.length_map]
  have := metM_len t []
  simpa using this

theorem wf_whole {sig : List Sy} {p : List Int} {P : Tr} (hr : rowE sig p = 0) (hg : growR sig p = [P]) : Wf sig p P 0 ∧ P.size = p.length := by
  refine ⟨⟨p, [], by simp, hr, hg⟩, ?_⟩
  have h := growR_sizes sig p
  rw [hg] at h
  simpa [sizes] using h

theorem row_ne {sig : List Sy} {p : List Int} (hr : rowE sig p = 0) : 0 < p.length := by
  cases p with
  | nil => simp [rowE, firstT] at hr
  | cons c p => simp

/-- The binds that a match tells. -/
def bindsL (f : Int → Option (List Int)) (p : List Int) : List Bd := (sortI (varsL p)).map fun n => (n, (f n).getD [])

theorem rs_two {w : World} {pv tv : Value} {p t : List Int} (hp : Is w pv p) (ht : Is w tv t) (h1 : p.length * 8 ≤ 140737488351232) (h2 : t.length * 8 ≤ 140737488351232) : Rs (w.alloc (.cells #[pv, tv] 23)) (.slice (some ⟨w.heap.size, 0, none⟩) 2 2) [p, t] := by
  have hk := Kp.of_below (below_alloc (w := w) (.cells #[pv, tv] 23))
  refine ⟨_, 2, rfl, Nat.le_refl _, by simp [maxLen], fun _ => ⟨w.heap.size, 0, rfl, by simp, fun k x hx => ?_⟩⟩
  match k, hx with
  | 0, hx =>
    simp at hx
    subst hx
    exact ⟨h1, pv, cell_new rfl, hp.kp hk⟩
  | 1, hx =>
    simp at hx
    subst hx
    exact ⟨h2, tv, cell_new rfl, ht.kp hk⟩
  | k + 2, hx => simp at hx

/-- What the walk wants of the binds that were found. -/
theorem found {sig : List Sy} {p t : List Int} {w : World} {L : List (Int × Value)} {R : List (Int × List Int)} (hlr : Lr w L R) (hky : Ky sig p R) (hs : Sm (fun n => R.lookup n) p t) (ht : t.length * 8 ≤ 140737488351232) : ∀ x ∈ varsL p, ∃ v u, L.lookup x = some v ∧ R.lookup x = some u ∧ Is w v u ∧ 0 < u.length ∧ u.length * 8 ≤ 140737488351232 := fun x hx => by
  obtain ⟨c, hc, h0, rfl⟩ := mem_varsL.1 hx
  have hne := hs.1 c hc h0
  cases hl : L.lookup (-1 - c) with
  | none => exact absurd ((hlr _).2 hl) hne
  | some v =>
    obtain ⟨u, hu, hi⟩ := (hlr _).1 v hl
    refine ⟨v, u, rfl, hu, hi, row_ne (hky _ _ hu).1, ?_⟩
    have h9 := piece_le (f := fun n => R.lookup n) hc
    rw [hs.2] at h9
    have e9 : piece (fun n => R.lookup n) c = u := by unfold piece; rw [if_pos h0]; show (R.lookup (-1 - c)).getD [c] = u; rw [hu]; rfl
    rw [e9] at h9
    omega

end Go.Proofs.YtpnkplidhbbliaaDoor

/- What makes a pattern a term is one. -/
namespace Go.Proofs.YtpnkplidhbbliaaDoor
open Go.RowKit Go.Maps

theorem laid_unique {sig : List Sy} {f g : Int → Option (List Int)} (hf : Rt sig f) (hg : Rt sig g) : ∀ p : List Int, (∀ c ∈ p, c < 0 → f (-1 - c) ≠ none) → (∀ c ∈ p, c < 0 → g (-1 - c) ≠ none) → laidL f p = laidL g p → ∀ c ∈ p, c < 0 → f (-1 - c) = g (-1 - c)
  | [], _, _, _, c, hc, _ => by simp at hc
  | d :: p, h1, h2, h, c, hc, h0 => by
    rw [laidL_cons, laidL_cons] at h
    by_cases hd : d < 0
    · obtain ⟨u, hu⟩ := Option.ne_none_iff_exists'.1 (h1 d (by simp) hd)
      obtain ⟨v, hv⟩ := Option.ne_none_iff_exists'.1 (h2 d (by simp) hd)
      have e1 : piece f d = u := by unfold piece; rw [if_pos hd, hu]; rfl
      have e2 : piece g d = v := by unfold piece; rw [if_pos hd, hv]; rfl
      rw [e1, e2] at h
      have k1 := first_right (hf _ _ hu) (laidL f p)
      rw [h, first_right (hg _ _ hv)] at k1
      have k2 : u.length = v.length := by
        have := congrArg Prod.fst k1
        simp only at this
        omega
      obtain ⟨k3, k4⟩ := List.append_inj h k2
      rcases List.mem_cons.1 hc with rfl | hc
      · rw [hu, hv, k3]
      · exact laid_unique hf hg p (fun x hx => h1 x (by simp [hx])) (fun x hx => h2 x (by simp [hx])) k4 c hc h0
    · have e1 : piece f d = [d] := by unfold piece; rw [if_neg hd]
      have e2 : piece g d = [d] := by unfold piece; rw [if_neg hd]
      rw [e1, e2] at h
      have k4 : laidL f p = laidL g p := by simpa using h
      rcases List.mem_cons.1 hc with rfl | hc
      · exact absurd h0 hd
      · exact laid_unique hf hg p (fun x hx => h1 x (by simp [hx])) (fun x hx => h2 x (by simp [hx])) k4 c hc h0

theorem sm_unique {sig : List Sy} {f g : Int → Option (List Int)} {p t : List Int} (hf : Rt sig f) (hg : Rt sig g) (h1 : Sm f p t) (h2 : Sm g p t) : ∀ c ∈ p, c < 0 → f (-1 - c) = g (-1 - c) := laid_unique hf hg p h1.1 h2.1 (by rw [h1.2, h2.2])

theorem binds_unique {sig : List Sy} {f g : Int → Option (List Int)} {p t : List Int} (hf : Rt sig f) (hg : Rt sig g) (h1 : Sm f p t) (h2 : Sm g p t) : bindsL f p = bindsL g p := by
  unfold bindsL
  refine List.map_congr_left fun n hn => ?_
  obtain ⟨c, hc, h0, rfl⟩ := mem_varsL.1 ((sortI_mem _ _).1 hn)
  rw [sm_unique hf hg h1 h2 c hc h0]

end Go.Proofs.YtpnkplidhbbliaaDoor

/- What the binds of a match make of the pattern, plainly. -/
namespace Go.Proofs.YtpnkplidhbbliaaDoor
open Go.RowKit Go.Maps

theorem first_codes2 {sig : List Sy} : ∀ (t : List Int) (m : Int) (i : Nat), firstT sig m i t = ((i : Int) + t.length, 0) → ∀ c ∈ t, codeD sig c ≠ none
  | [], _, _, _, c, hc => by simp at hc
  | a :: t, m, i, h, c, hc => by
    unfold firstT at h
    cases ha : codeD sig a with
    | none => rw [ha] at h; simp at h
    | some x =>
      rw [ha] at h
      simp only at h
      by_cases h0 : m + x = 0
      · rw [if_pos h0] at h
        have h2 := congrArg Prod.fst h
        simp only [List.length_cons] at h2
        have h3 : t.length = 0 := by omega
        obtain rfl := List.eq_nil_of_length_eq_zero h3
        rw [List.mem_singleton] at hc
        subst hc
        rw [ha]
        simp
      · rw [if_neg h0] at h
        rcases List.mem_cons.1 hc with rfl | hc
        · rw [ha]; simp
        · refine first_codes2 t (m + x) (i + 1) ?_ c hc
          rw [h]
          simp only [List.length_cons]
          congr 1
          push_cast
          omega


theorem row_var {sig : List Sy} {c : Int} (h0 : c < 0) (h1 : -1048576 ≤ c) : rowE sig [c] = 0 := by
  rw [row_first]
  unfold firstT
  rw [codeD_var h1 h0]
  simp

theorem codes_of {sig : List Sy} {p : List Int} (h : rowE sig p = 0) {c : Int} (hc : c ∈ p) : -1048576 ≤ c := by
  have h1 := row_first.1 h
  have h2 := first_codes2 p 1 0 (by rw [h1]; simp) c hc
  by_cases h3 : c < -1048576
  · exact absurd (codeD_none (.inr h3)) h2
  · omega

theorem laid_congr {f g : Int → Option (List Int)} {p : List Int} (h : ∀ c ∈ p, piece f c = piece g c) : laidL f p = laidL g p := by
  unfold laidL
  rw [List.flatMap_def, List.flatMap_def, List.map_congr_left h]

/-- What binds make of a pattern is matched by it. -/
theorem back_made {sig : List Sy} {s : List Bd} {p : List Int} (hb : bindE sig s = 0) (hp : rowE sig p = 0) : ∃ f, Rt sig f ∧ Sm f p (laidL (bnd s) p) := by
  refine ⟨fun n => match bnd s n with | some u => some u | none => if isVarB n then some [-1 - n] else none, fun n u hu => ?_, fun c hc h0 => ?_, ?_⟩
  · simp only at hu
    cases hs : bnd s n with
    | some x =>
      rw [hs] at hu
      simp only [Option.some.injEq] at hu
      subst hu
      exact bnd_right hb n x hs
    | none =>
      rw [hs] at hu
      simp only at hu
      split at hu
      · rename_i hv
        have := isVarB_iff.1 hv
        simp only [Option.some.injEq] at hu
        subst hu
        exact row_var (by omega) (by omega)
      · cases hu
  · simp only
    cases hs : bnd s (-1 - c) with
    | some x => simp
    | none =>
      have := codes_of hp hc
      simp only
      rw [if_pos (isVarB_iff.2 ⟨by omega, by omega⟩)]
      simp
  · refine laid_congr fun c hc => ?_
    unfold piece
    by_cases h0 : c < 0
    · rw [if_pos h0, if_pos h0]
      cases hs : bnd s (-1 - c) with
      | some x => simp only [hs]
      | none =>
        have h9 := codes_of hp hc
        simp only [hs]
        rw [if_pos (isVarB_iff.2 ⟨by omega, by omega⟩)]
        show [-1 - (-1 - c)] = [c]
        rw [show -1 - (-1 - c) = c by omega]
    · rw [if_neg h0, if_neg h0]


theorem binds_look {g : Int → Option (List Int)} {n : Int} : ∀ {l : List Int}, n ∈ l → (l.map fun n => (n, (g n).getD [])).lookup n = some ((g n).getD [])
  | [], h => by simp at h
  | m :: l, h => by
    rw [List.map_cons, List.lookup_cons]
    by_cases e : n = m
    · subst e
      simp
    · rw [show (n == m) = false by rw [beq_eq_false_iff_ne]; exact e]
      exact binds_look ((List.mem_cons.1 h).resolve_left e)

theorem binds_rise (g : Int → Option (List Int)) (p : List Int) : (bindsL g p).Pairwise (fun a b => a.1 < b.1) := by
  unfold bindsL
  rw [List.pairwise_map]
  exact sortI_rise (vars_once p)

/-- The binds of a match make the pattern the term. -/
theorem back_found {sig : List Sy} {g : Int → Option (List Int)} {p t : List Int} (hp : termE sig p = 0) (hg : Rt sig g) (hs : Sm g p t) : bindE sig (bindsL g p) = 0 ∧ laidL (bnd (bindsL g p)) p = t := by
  obtain ⟨hse, hrp⟩ := term_parts hp
  have hmem : ∀ n ∈ sortI (varsL p), 0 ≤ n ∧ n < 1048576 ∧ ∃ u, g n = some u := fun n hn => by
    rw [sortI_mem, mem_varsL] at hn
    obtain ⟨c, hc, h0, rfl⟩ := hn
    have := codes_of hrp hc
    exact ⟨by omega, by omega, Option.ne_none_iff_exists'.1 (hs.1 c hc h0)⟩
  constructor
  · unfold bindE
    rw [if_pos hse]
    refine bind_made sig _ none (fun b hb => ?_) (fun y hy => by cases hy) (binds_rise g p)
    unfold bindsL at hb
    obtain ⟨n, hn, rfl⟩ := List.mem_map.1 hb
    obtain ⟨h1, h2, u, hu⟩ := hmem n hn
    refine ⟨isVarB_iff.2 ⟨h1, h2⟩, ?_⟩
    unfold termE
    rw [if_pos hse, hu]
    exact hg n u hu
  · rw [← hs.2]
    refine laid_congr fun c hc => ?_
    unfold piece
    by_cases h0 : c < 0
    · rw [if_pos h0, if_pos h0]
      obtain ⟨u, hu⟩ := Option.ne_none_iff_exists'.1 (hs.1 c hc h0)
      have h1 : bnd (bindsL g p) (-1 - c) = some u := by
        unfold bnd
        rw [← look_rise (binds_rise g p)]
        unfold bindsL
        rw [binds_look (by rw [sortI_mem, mem_varsL]; exact ⟨c, hc, h0, rfl⟩), hu]
        rfl
      rw [h1, hu]
    · rw [if_neg h0, if_neg h0]

end Go.Proofs.YtpnkplidhbbliaaDoor

/- Unification, plainly: nodes, classes, what is joined. -/
namespace Go.Proofs.YtpnkplidhbbliaaDoor
open Go.RowKit Go.Maps Go.BigFrame

theorem rows_one6 {sig : List Sy} : ∀ (us vs : List (List Int)), (∀ u ∈ us, rowE sig u = 0) → (∀ v ∈ vs, rowE sig v = 0) → us.length = vs.length → us.flatten = vs.flatten → us = vs
  | [], [], _, _, _, _ => rfl
  | [], v :: vs, _, _, h, _ => by simp at h
  | u :: us, [], _, _, h, _ => by simp at h
  | u :: us, v :: vs, hu, hv, hl, he => by
    rw [List.flatten_cons, List.flatten_cons] at he
    have h1 := first_right (hu u (by simp)) us.flatten
    have h2 := first_right (hv v (by simp)) vs.flatten
    rw [he, h2] at h1
    simp only [Prod.mk.injEq, and_true] at h1
    obtain ⟨e1, e2⟩ := List.append_inj he (by omega)
    rw [e1, rows_one6 us vs (fun x hx => hu x (by simp [hx])) (fun x hx => hv x (by simp [hx])) (by simpa using hl) e2]

theorem first_flat {sig : List Sy} (ha : ArOk sig) : ∀ (us : List (List Int)) (i : Nat), us ≠ [] → (∀ u ∈ us, rowE sig u = 0) → firstT sig (us.length : Int) i us.flatten = ((i : Int) + us.flatten.length, 0)
  | [], _, h, _ => absurd rfl h
  | [u], i, _, hu => by
    have h1 := first_app ha u 1 0 (by omega) (by rw [row_first.1 (hu u (by simp))]; simp) 1 i [] (by omega)
    rw [if_pos rfl] at h1
    simpa using h1
  | u :: v :: us, i, _, hu => by
    have h1 := first_app ha u 1 0 (by omega) (by rw [row_first.1 (hu u (by simp))]; simp) (((u :: v :: us).length : Nat) : Int) i ((v :: us).flatten) (by simp only [List.length_cons]; omega)
    rw [if_neg (by simp only [List.length_cons]; omega)] at h1
    have h2 := first_flat ha (v :: us) (i + u.length) (by simp) (fun x hx => hu x (by simp at hx ⊢; exact .inr hx))
    rw [List.flatten_cons, h1, show (((u :: v :: us).length : Nat) : Int) - 1 = (((v :: us).length : Nat) : Int) by simp only [List.length_cons]; omega, h2, List.length_append]
    simp only [Prod.mk.injEq, and_true]
    omega

/-- A symbol and as many terms as it takes are a term. -/
theorem row_parts {sig : List Sy} (ha : ArOk sig) {c : Int} {us : List (List Int)} (h0 : ¬ c < 0) (hc : c.toNat < sig.length) (hn : us.length = arN sig c) (hu : ∀ u ∈ us, rowE sig u = 0) : rowE sig (c :: us.flatten) = 0 := by
  rw [row_first, firstT_cons]
  have hs : sig[c.toNat]? = some sig[c.toNat] := List.getElem?_eq_getElem hc
  have hd : codeD sig c = some ((sig[c.toNat]).2 - 1) := by
    unfold codeD
    rw [if_neg (by omega), if_neg h0, hs]
  have har := ha _ (List.mem_of_getElem? hs)
  have hn2 : (us.length : Int) = (sig[c.toNat]).2 := by
    rw [hn]
    unfold arN
    rw [hs]
    simp only
    omega
  rw [hd]
  simp only
  by_cases h1 : 1 + ((sig[c.toNat]).2 - 1) = 0
  · rw [if_pos h1]
    have : us = [] := List.eq_nil_of_length_eq_zero (by omega)
    subst this
    simp
  · rw [if_neg h1, show 1 + ((sig[c.toNat]).2 - 1) = (us.length : Int) by omega, first_flat ha us 1 (by intro h; rw [h] at hn2; simp at hn2; omega) hu]
    simp only [List.length_cons, Prod.mk.injEq, and_true]
    omega

/-- A node: a variable's number, or a symbol and the nodes of its arguments. -/
inductive Nd where
  | var (n : Int)
  | app (c : Int) (xs : List Nat)

/-- Nodes over a signature: arguments stand ahead; a variable is one node. -/
structure NdOk (sig : List Sy) (L : List Nd) : Prop where
  num : ∀ (i : Nat) (n : Int), L[i]? = some (Nd.var n) → 0 ≤ n ∧ n < 1048576
  sym : ∀ (i : Nat) (c : Int) (xs : List Nat), L[i]? = some (Nd.app c xs) → ¬ c < 0 ∧ c.toNat < sig.length ∧ xs.length = arN sig c
  ahead : ∀ (i : Nat) (c : Int) (xs : List Nat), L[i]? = some (Nd.app c xs) → ∀ j ∈ xs, j < i
  once : ∀ (i j : Nat) (n : Int), L[i]? = some (Nd.var n) → L[j]? = some (Nd.var n) → i = j

/-- What nodes become: right rows, of an application its symbol and what its arguments become. -/
def Val (sig : List Sy) (L : List Nd) (V : Nat → List Int) : Prop :=
  ∀ i, i < L.length → rowE sig (V i) = 0 ∧ ∀ c xs, L[i]? = some (Nd.app c xs) → V i = c :: (xs.map V).flatten

/-- All of a class become the same. -/
def Slv (n : Nat) (root : Nat → Nat) (V : Nat → List Int) : Prop := ∀ i, i < n → V i = V (root i)

/-- What must become the same by classes and by pairs that wait. -/
inductive Conn (root : Nat → Nat) (P : List (Nat × Nat)) : Nat → Nat → Prop
  | same {x y : Nat} (h : root x = root y) : Conn root P x y
  | wait {x y : Nat} (h : (x, y) ∈ P) : Conn root P x y
  | turn {x y : Nat} (h : Conn root P x y) : Conn root P y x
  | next {x y z : Nat} (h : Conn root P x y) (h' : Conn root P y z) : Conn root P x z

theorem Conn.mono {root root' : Nat → Nat} {P P' : List (Nat × Nat)} (h1 : ∀ x y, root x = root y → Conn root' P' x y) (h2 : ∀ x y, (x, y) ∈ P → Conn root' P' x y) {x y : Nat} (h : Conn root P x y) : Conn root' P' x y := by
  induction h with
  | same h => exact h1 _ _ h
  | wait h => exact h2 _ _ h
  | turn _ ih => exact .turn ih
  | next _ _ ih ih' => exact .next ih ih'

theorem Conn.none {root : Nat → Nat} {x y : Nat} (h : Conn root [] x y) : root x = root y := by
  induction h with
  | same h => exact h
  | wait h => cases h
  | turn _ ih => exact ih.symm
  | next _ _ ih ih' => exact ih.trans ih'

/-- Classes of nodes: each has one root; its face is an application, if one is a member, else the variable of the least number. -/
structure ClOk (L : List Nd) (root face : Nat → Nat) : Prop where
  lt : ∀ i, i < L.length → root i < L.length
  idem : ∀ i, i < L.length → root (root i) = root i
  face_lt : ∀ i, i < L.length → face (root i) < L.length
  face_in : ∀ i, i < L.length → root (face (root i)) = root i
  app : ∀ (i : Nat) (c : Int) (xs : List Nat), L[i]? = some (Nd.app c xs) → ∃ xs', L[face (root i)]? = some (Nd.app c xs')
  least : ∀ (i : Nat) (n m : Int), L[i]? = some (Nd.var n) → L[face (root i)]? = some (Nd.var m) → m ≤ n

/-- The arguments of applications in one class are, or wait to be, in one. -/
def ClWait (L : List Nd) (root face : Nat → Nat) (P : List (Nat × Nat)) : Prop :=
  ∀ (i : Nat) (c : Int) (xs xs' : List Nat), L[i]? = some (Nd.app c xs) → L[face (root i)]? = some (Nd.app c xs') → ∀ (k x x' : Nat), xs[k]? = some x → xs'[k]? = some x' → Conn root P x x'

/-- What is joined so far: whatever makes the two nodes the same makes all of a class, and all pairs that wait. -/
def Jn (sig : List Sy) (L : List Nd) (ra rb : Nat) (root : Nat → Nat) (P : List (Nat × Nat)) : Prop :=
  (∀ V, Val sig L V → V ra = V rb → Slv L.length root V ∧ ∀ p ∈ P, V p.1 = V p.2) ∧ Conn root P ra rb

theorem jn_start (sig : List Sy) (L : List Nd) (ra rb : Nat) : Jn sig L ra rb id [(ra, rb)] :=
  ⟨fun V _ h => ⟨fun i _ => rfl, fun p hp => by rw [List.mem_singleton] at hp; rw [hp]; exact h⟩, .wait (by simp)⟩

theorem cl_start {sig : List Sy} {L : List Nd} (_hL : NdOk sig L) : ClOk L id id := by
  refine ⟨fun i h => h, fun i _ => rfl, fun i h => h, fun i _ => rfl, fun i c xs h => ⟨xs, h⟩, fun i n m h1 h2 => ?_⟩
  have h3 : L[i]? = some (Nd.var m) := h2
  rw [h1] at h3
  cases h3
  exact Int.le_refl _

theorem wait_start (L : List Nd) (P : List (Nat × Nat)) : ClWait L id id P := fun i c xs xs' h1 h2 k x x' h3 h4 => by
  have h5 : L[i]? = some (Nd.app c xs') := h2
  rw [h1] at h5
  cases h5
  rw [h3] at h4
  cases h4
  exact .same rfl

/-- A pair of one class is passed by. -/
theorem jn_skip {sig : List Sy} {L : List Nd} {ra rb : Nat} {root face : Nat → Nat} {P : List (Nat × Nat)} {x y : Nat} (h : Jn sig L ra rb root (P ++ [(x, y)])) (hw : ClWait L root face (P ++ [(x, y)])) (he : root x = root y) : Jn sig L ra rb root P ∧ ClWait L root face P := by
  have key : ∀ {a b}, Conn root (P ++ [(x, y)]) a b → Conn root P a b := fun {a b} hc => hc.mono (fun _ _ h => .same h) (fun a b hab => by
    rcases List.mem_append.1 hab with hab | hab
    · exact .wait hab
    · rw [List.mem_singleton] at hab
      cases hab
      exact .same he)
  exact ⟨⟨fun V h1 h2 => ⟨(h.1 V h1 h2).1, fun p hp => (h.1 V h1 h2).2 p (List.mem_append_left _ hp)⟩, key h.2⟩, fun i c xs xs' h1 h2 k a b h3 h4 => key (hw i c xs xs' h1 h2 k a b h3 h4)⟩

/-- The classes c and d made one, whose root is c. -/
def uniR (root : Nat → Nat) (c d : Nat) (i : Nat) : Nat := if root i = d then c else root i

def uniF (face : Nat → Nat) (c f : Nat) (z : Nat) : Nat := if z = c then f else face z

/-- The face of two: an application, else the variable of the least number. -/
def faceN (L : List Nd) (a b : Nat) : Nat := match L[a]?, L[b]? with
  | some (Nd.var n), some (Nd.var m) => if n < m then a else b
  | some (Nd.var _), _ => b
  | _, _ => a

/-- The pairs of arguments of two nodes. -/
def argP (L : List Nd) (a b : Nat) : List (Nat × Nat) := match L[a]?, L[b]? with
  | some (Nd.app _ xs), some (Nd.app _ ys) => xs.zip ys
  | _, _ => []

/-- Whether two nodes clash. -/
def clash (L : List Nd) (a b : Nat) : Bool := match L[a]?, L[b]? with
  | some (Nd.app c _), some (Nd.app c' _) => !decide (c = c')
  | _, _ => false

theorem clash_none {sig : List Sy} {L : List Nd} {ra rb x y : Nat} {root face : Nat → Nat} {P : List (Nat × Nat)} (hc : ClOk L root face) (h : Jn sig L ra rb root (P ++ [(x, y)])) (hx : x < L.length) (hy : y < L.length) (hcl : clash L (face (root x)) (face (root y)) = true) : ∀ V, Val sig L V → V ra ≠ V rb := fun V hV he => by
  obtain ⟨h1, h2⟩ := h.1 V hV he
  have h3 := h2 (x, y) (by simp)
  simp only at h3
  have e1 : V (face (root x)) = V x := by rw [h1 _ (hc.face_lt x hx), hc.face_in x hx, ← h1 x hx]
  have e2 : V (face (root y)) = V y := by rw [h1 _ (hc.face_lt y hy), hc.face_in y hy, ← h1 y hy]
  unfold clash at hcl
  split at hcl
  · rename_i c xs c' ys g1 g2
    have f1 := (hV _ (hc.face_lt x hx)).2 c xs g1
    have f2 := (hV _ (hc.face_lt y hy)).2 c' ys g2
    rw [e1] at f1
    rw [e2, ← h3, f1] at f2
    simp only [List.cons.injEq] at f2
    rw [f2.1] at hcl
    simp at hcl
  · cases hcl

/-- Arguments of two applications that become the same do so. -/
theorem args_same {sig : List Sy} {L : List Nd} (hL : NdOk sig L) {V : Nat → List Int} (hV : Val sig L V) {a b : Nat} {c : Int} {xs ys : List Nat} (ha : L[a]? = some (Nd.app c xs)) (hb : L[b]? = some (Nd.app c ys)) (he : V a = V b) : xs.map V = ys.map V := by
  have la := (List.getElem?_eq_some_iff.1 ha).1
  have lb := (List.getElem?_eq_some_iff.1 hb).1
  have f1 := (hV a la).2 c xs ha
  have f2 := (hV b lb).2 c ys hb
  rw [he, f2] at f1
  simp only [List.cons.injEq, true_and] at f1
  refine (rows_one6 (sig := sig) _ _ (fun u hu => ?_) (fun u hu => ?_) ?_ f1).symm
  · obtain ⟨j, hj, rfl⟩ := List.mem_map.1 hu
    exact (hV j (Nat.lt_trans (hL.ahead b c ys hb j hj) lb)).1
  · obtain ⟨j, hj, rfl⟩ := List.mem_map.1 hu
    exact (hV j (Nat.lt_trans (hL.ahead a c xs ha j hj) la)).1
  · rw [List.length_map, List.length_map, (hL.sym a c xs ha).2.2, (hL.sym b c ys hb).2.2]

theorem uni_face (L : List Nd) (a b : Nat) : faceN L a b = a ∨ faceN L a b = b := by
  unfold faceN
  split
  · split
    · exact .inl rfl
    · exact .inr rfl
  · exact .inr rfl
  · exact .inl rfl

/-- Two classes made one, whichever root stays. -/
theorem cl_uni {L : List Nd} {root face : Nat → Nat} (hc : ClOk L root face) {c d f : Nat} (hcl : c < L.length) (hdl : d < L.length) (hrc : root c = c) (hrd : root d = d) (hne : c ≠ d) (hf : f = face c ∨ f = face d)
    (hfa : ∀ k xs, (L[face c]? = some (Nd.app k xs) ∨ L[face d]? = some (Nd.app k xs)) → ∃ xs', L[f]? = some (Nd.app k xs'))
    (hfl : ∀ m, L[f]? = some (Nd.var m) → ∃ n n', L[face c]? = some (Nd.var n) ∧ L[face d]? = some (Nd.var n') ∧ m ≤ n ∧ m ≤ n') : ClOk L (uniR root c d) (uniF face c f) := by
  have r1 : ∀ i, i < L.length → uniR root c d i = if root i = d then c else root i := fun i _ => rfl
  have hfc := hc.face_lt c hcl
  rw [hrc] at hfc
  have hfd := hc.face_lt d hdl
  rw [hrd] at hfd
  have hfic := hc.face_in c hcl
  rw [hrc] at hfic
  have hfid := hc.face_in d hdl
  rw [hrd] at hfid
  have hfl' : f < L.length := by rcases hf with rfl | rfl <;> assumption
  have hfr : uniR root c d f = c := by
    unfold uniR
    rcases hf with rfl | rfl
    · rw [hfic, if_neg hne]
    · rw [hfid, if_pos rfl]
  have two : ∀ i, i < L.length → (uniR root c d i = c ∧ (root i = c ∨ root i = d)) ∨ (uniR root c d i = root i ∧ root i ≠ c ∧ root i ≠ d) := fun i _ => by
    unfold uniR
    by_cases h1 : root i = d
    · rw [if_pos h1]
      exact .inl ⟨rfl, .inr h1⟩
    · rw [if_neg h1]
      by_cases h2 : root i = c
      · exact .inl ⟨h2, .inl h2⟩
      · exact .inr ⟨rfl, h2, h1⟩
  refine ⟨fun i hi => ?_, fun i hi => ?_, fun i hi => ?_, fun i hi => ?_, fun i k xs hi => ?_, fun i n m hi hm => ?_⟩
  · rcases two i hi with ⟨e, _⟩ | ⟨e, _⟩
    · rw [e]; exact hcl
    · rw [e]; exact hc.lt i hi
  · rcases two i hi with ⟨e, _⟩ | ⟨e, h1, h2⟩
    · rw [e]
      unfold uniR
      rw [hrc, if_neg hne]
    · rw [e]
      unfold uniR
      rw [hc.idem i hi, if_neg h2]
  · rcases two i hi with ⟨e, _⟩ | ⟨e, h1, h2⟩
    · rw [e]
      unfold uniF
      rw [if_pos rfl]
      exact hfl'
    · rw [e]
      unfold uniF
      rw [if_neg h1]
      exact hc.face_lt i hi
  · rcases two i hi with ⟨e, _⟩ | ⟨e, h1, h2⟩
    · rw [e]
      unfold uniF
      rw [if_pos rfl]
      exact hfr
    · rw [e]
      unfold uniF
      rw [if_neg h1]
      unfold uniR
      rw [hc.face_in i hi, if_neg h2]
  · have hil := (List.getElem?_eq_some_iff.1 hi).1
    obtain ⟨xs', h9⟩ := hc.app i k xs hi
    rcases two i hil with ⟨e, h | h⟩ | ⟨e, h1, h2⟩
    · rw [h] at h9
      rw [e]
      unfold uniF
      rw [if_pos rfl]
      exact hfa k xs' (.inl h9)
    · rw [h] at h9
      rw [e]
      unfold uniF
      rw [if_pos rfl]
      exact hfa k xs' (.inr h9)
    · rw [e]
      unfold uniF
      rw [if_neg h1]
      exact ⟨xs', h9⟩
  · have hil := (List.getElem?_eq_some_iff.1 hi).1
    rcases two i hil with ⟨e, h⟩ | ⟨e, h1, h2⟩
    · rw [e] at hm
      unfold uniF at hm
      rw [if_pos rfl] at hm
      obtain ⟨a, b, g1, g2, g3, g4⟩ := hfl m hm
      rcases h with h | h
      · have := hc.least i n a hi (by rw [h]; exact g1)
        omega
      · have := hc.least i n b hi (by rw [h]; exact g2)
        omega
    · rw [e] at hm
      unfold uniF at hm
      rw [if_neg h1] at hm
      exact hc.least i n m hi hm

end Go.Proofs.YtpnkplidhbbliaaDoor

/- Unification, plainly: two classes made one; what classes become. -/
namespace Go.Proofs.YtpnkplidhbbliaaDoor
open Go.RowKit Go.Maps Go.BigFrame

theorem faceN_app {L : List Nd} {a b : Nat} {k : Int} {xs : List Nat} (hc : clash L a b = false) (hal : a < L.length) (h : L[a]? = some (Nd.app k xs) ∨ L[b]? = some (Nd.app k xs)) : ∃ xs', L[faceN L a b]? = some (Nd.app k xs') := by
  unfold faceN
  unfold clash at hc
  rcases h with h | h
  · rw [h]
    exact ⟨xs, h⟩
  · rw [h] at hc ⊢
    cases ha : L[a]? with
    | none => rw [List.getElem?_eq_none_iff] at ha; omega
    | some x =>
      cases x with
      | var n => exact ⟨xs, h⟩
      | app c ys =>
        rw [ha] at hc
        simp at hc
        subst hc
        exact ⟨ys, ha⟩

theorem faceN_var {L : List Nd} {a b : Nat} (ha : a < L.length) (hb : b < L.length) {m : Int} (h : L[faceN L a b]? = some (Nd.var m)) : ∃ n n', L[a]? = some (Nd.var n) ∧ L[b]? = some (Nd.var n') ∧ m ≤ n ∧ m ≤ n' := by
  have ea : L[a]? = some L[a] := List.getElem?_eq_getElem ha
  have eb : L[b]? = some L[b] := List.getElem?_eq_getElem hb
  unfold faceN at h
  rw [ea, eb] at h
  cases hxa : L[a] with
  | var n =>
    cases hxb : L[b] with
    | var n' =>
      rw [hxa, hxb] at h
      simp only at h
      split at h
      · rw [ea, hxa] at h
        cases h
        exact ⟨m, n', by rw [ea, hxa], by rw [eb, hxb], Int.le_refl _, by omega⟩
      · rw [eb, hxb] at h
        cases h
        exact ⟨n, m, by rw [ea, hxa], by rw [eb, hxb], by omega, Int.le_refl _⟩
    | app c ys =>
      rw [hxa, hxb] at h
      simp only at h
      rw [eb, hxb] at h
      cases h
  | app c ys =>
    rw [hxa] at h
    simp only at h
    rw [ea, hxa] at h
    cases h

/-- A pair of two classes that do not clash: they become one. -/
theorem uni_step {sig : List Sy} {L : List Nd} (hL : NdOk sig L) {root face : Nat → Nat} (hc : ClOk L root face) {P P' : List (Nat × Nat)} {ra rb x y c d f : Nat}
    (hj : Jn sig L ra rb root (P ++ [(x, y)])) (hw : ClWait L root face (P ++ [(x, y)])) (hx : x < L.length) (hy : y < L.length)
    (hxy : (root x = c ∧ root y = d) ∨ (root x = d ∧ root y = c)) (hne : c ≠ d) (hcl : clash L (face (root x)) (face (root y)) = false)
    (hf : f = face c ∨ f = face d) (hfa : ∀ k xs, (L[face c]? = some (Nd.app k xs) ∨ L[face d]? = some (Nd.app k xs)) → ∃ xs', L[f]? = some (Nd.app k xs'))
    (hfl : ∀ m, L[f]? = some (Nd.var m) → ∃ n n', L[face c]? = some (Nd.var n) ∧ L[face d]? = some (Nd.var n') ∧ m ≤ n ∧ m ≤ n')
    (hP : P' = P ++ argP L (face (root x)) (face (root y))) :
    ClOk L (uniR root c d) (uniF face c f) ∧ ClWait L (uniR root c d) (uniF face c f) P' ∧ Jn sig L ra rb (uniR root c d) P' := by
  have hcx : root (root x) = root x := hc.idem x hx
  have hcy : root (root y) = root y := hc.idem y hy
  have hlx := hc.lt x hx
  have hly := hc.lt y hy
  have hrc : root c = c := by rcases hxy with ⟨rfl, rfl⟩ | ⟨rfl, rfl⟩ <;> assumption
  have hrd : root d = d := by rcases hxy with ⟨rfl, rfl⟩ | ⟨rfl, rfl⟩ <;> assumption
  have hcl2 : c < L.length := by rcases hxy with ⟨rfl, rfl⟩ | ⟨rfl, rfl⟩ <;> assumption
  have hdl2 : d < L.length := by rcases hxy with ⟨rfl, rfl⟩ | ⟨rfl, rfl⟩ <;> assumption
  have hok := cl_uni hc hcl2 hdl2 hrc hrd hne hf hfa hfl
  have hsame : ∀ a b, root a = root b → uniR root c d a = uniR root c d b := fun a b h => by unfold uniR; rw [h]
  have hux : uniR root c d x = uniR root c d y := by
    unfold uniR
    rcases hxy with ⟨h1, h2⟩ | ⟨h1, h2⟩
    · rw [h1, h2, if_neg hne, if_pos rfl]
    · rw [h1, h2, if_neg hne, if_pos rfl]
  have hmono : ∀ {a b}, Conn root (P ++ [(x, y)]) a b → Conn (uniR root c d) P' a b := fun {a b} h => h.mono (fun _ _ h => .same (hsame _ _ h)) (fun a b hab => by
    rcases List.mem_append.1 hab with hab | hab
    · exact .wait (by rw [hP]; exact List.mem_append_left _ hab)
    · rw [List.mem_singleton] at hab
      cases hab
      exact .same hux)
  have hargs : ∀ (k : Int) (xs ys : List Nat), L[face (root x)]? = some (Nd.app k xs) → L[face (root y)]? = some (Nd.app k ys) → ∀ (i a b : Nat), xs[i]? = some a → ys[i]? = some b → Conn (uniR root c d) P' a b := fun k xs ys h1 h2 i a b h3 h4 => by
    refine .wait ?_
    rw [hP]
    refine List.mem_append_right _ ?_
    unfold argP
    rw [h1, h2]
    simp only
    exact List.mem_of_getElem? (i := i) (by rw [List.getElem?_zip_eq_some]; exact ⟨h3, h4⟩)
  have hargs2 : ∀ (k : Int) (xs ys : List Nat), L[face c]? = some (Nd.app k xs) → L[face d]? = some (Nd.app k ys) → ∀ (i a b : Nat), xs[i]? = some a → ys[i]? = some b → Conn (uniR root c d) P' a b := fun k xs ys h1 h2 i a b h3 h4 => by
    rcases hxy with ⟨e1, e2⟩ | ⟨e1, e2⟩
    · exact hargs k xs ys (by rw [e1]; exact h1) (by rw [e2]; exact h2) i a b h3 h4
    · exact .turn (hargs k ys xs (by rw [e1]; exact h2) (by rw [e2]; exact h1) i b a h4 h3)
  refine ⟨hok, fun i k xs xs' h1 h2 n a b h3 h4 => ?_, fun V hV he => ?_, hmono hj.2⟩
  · have hil := (List.getElem?_eq_some_iff.1 h1).1
    obtain ⟨zs, hz⟩ := hc.app i k xs h1
    have hzl : n < zs.length := by
      have e1 := (hL.sym i k xs h1).2.2
      have e2 := (hL.sym _ k zs hz).2.2
      have e3 := (List.getElem?_eq_some_iff.1 h3).1
      omega
    have hzn : zs[n]? = some zs[n] := List.getElem?_eq_getElem hzl
    refine .next (hmono (hw i k xs zs h1 hz n a _ h3 hzn)) ?_
    by_cases hm : root i = c ∨ root i = d
    · have hu : uniR root c d i = c := by
        unfold uniR
        rcases hm with hm | hm
        · rw [hm, if_neg hne]
        · rw [hm, if_pos rfl]
      rw [hu] at h2
      unfold uniF at h2
      rw [if_pos rfl] at h2
      have hself : ∀ (a b : Nat), zs[n]? = some a → zs[n]? = some b → Conn (uniR root c d) P' a b := fun a b e1 e2 => by rw [e1] at e2; cases e2; exact .same rfl
      rcases hm with hm | hm
      · rw [hm] at hz
        rcases hf with rfl | rfl
        · rw [hz] at h2
          cases h2
          exact hself _ _ hzn h4
        · exact hargs2 k zs xs' hz h2 n _ _ hzn h4
      · rw [hm] at hz
        rcases hf with rfl | rfl
        · exact .turn (hargs2 k xs' zs h2 hz n _ _ h4 hzn)
        · rw [hz] at h2
          cases h2
          exact hself _ _ hzn h4
    · have hu : uniR root c d i = root i := by
        unfold uniR
        rw [if_neg (fun h => hm (.inr h))]
      rw [hu] at h2
      unfold uniF at h2
      rw [if_neg (fun h => hm (.inl h)), hz] at h2
      cases h2
      rw [hzn] at h4
      cases h4
      exact .same rfl
  · obtain ⟨s1, s2⟩ := hj.1 V hV he
    have hvxy := s2 (x, y) (by simp)
    simp only at hvxy
    have hvcd : V c = V d := by
      rcases hxy with ⟨e1, e2⟩ | ⟨e1, e2⟩
      · rw [← e1, ← e2, ← s1 x hx, ← s1 y hy]; exact hvxy
      · rw [← e1, ← e2, ← s1 x hx, ← s1 y hy]; exact hvxy.symm
    refine ⟨fun i hi => ?_, fun p hp => ?_⟩
    · unfold uniR
      by_cases h1 : root i = d
      · rw [if_pos h1, hvcd, ← h1]
        exact s1 i hi
      · rw [if_neg h1]
        exact s1 i hi
    · rw [hP] at hp
      rcases List.mem_append.1 hp with hp | hp
      · exact s2 p (List.mem_append_left _ hp)
      · have e1 : V (face (root x)) = V x := by rw [s1 _ (hc.face_lt x hx), hc.face_in x hx, ← s1 x hx]
        have e2 : V (face (root y)) = V y := by rw [s1 _ (hc.face_lt y hy), hc.face_in y hy, ← s1 y hy]
        unfold argP at hp
        unfold clash at hcl
        split at hp
        · rename_i k xs k' ys g1 g2
          rw [g1, g2] at hcl
          simp at hcl
          subst hcl
          have hsm := args_same hL hV g1 g2 (by rw [e1, e2, hvxy])
          obtain ⟨i, hi⟩ := List.getElem?_of_mem hp
          rw [List.getElem?_zip_eq_some] at hi
          have q1 : (xs.map V)[i]? = some (V p.1) := by rw [List.getElem?_map, hi.1]; rfl
          have q2 : (ys.map V)[i]? = some (V p.2) := by rw [List.getElem?_map, hi.2]; rfl
          rw [hsm, q2] at q1
          exact (Option.some.inj q1).symm
        · cases hp

/-- What a class becomes. -/
inductive TmC (L : List Nd) (root face : Nat → Nat) : Nat → List Int → Prop
  | var {c : Nat} {n : Int} (h : L[face c]? = some (Nd.var n)) : TmC L root face c [-1 - n]
  | app {c : Nat} {s : Int} {xs : List Nat} {ts : List (List Int)} (h : L[face c]? = some (Nd.app s xs)) (hl : ts.length = xs.length) (ht : ∀ (k x : Nat) (t : List Int), xs[k]? = some x → ts[k]? = some t → TmC L root face (root x) t) : TmC L root face c (s :: ts.flatten)

theorem tmC_one {L : List Nd} {root face : Nat → Nat} {c : Nat} {t : List Int} (h : TmC L root face c t) : ∀ t', TmC L root face c t' → t = t' := by
  induction h with
  | var h =>
    intro t' h'
    cases h' with
    | var h' => rw [h] at h'; cases h'; rfl
    | app h' _ _ => rw [h] at h'; cases h'
  | app h hl ht ih =>
    intro t' h'
    cases h' with
    | var h' => rw [h] at h'; cases h'
    | app h' hl' ht' =>
      rw [h] at h'
      cases h'
      rename_i xs ts ts'
      have e : ts = ts' := by
        apply List.ext_getElem (by omega)
        intro k h1 h2
        have hx : xs[k]? = some xs[k] := List.getElem?_eq_getElem (by omega)
        exact ih k _ _ hx (List.getElem?_eq_getElem h1) _ (ht' k _ _ hx (List.getElem?_eq_getElem h2))
      rw [e]

theorem tmC_right {sig : List Sy} (ha : ArOk sig) {L : List Nd} (hL : NdOk sig L) {root face : Nat → Nat} {c : Nat} {t : List Int} (h : TmC L root face c t) : rowE sig t = 0 := by
  induction h with
  | var h =>
    have := hL.num _ _ h
    exact row_var (by omega) (by omega)
  | app h hl ht ih =>
    obtain ⟨h0, h1, h2⟩ := hL.sym _ _ _ h
    refine row_parts ha h0 h1 (by omega) (fun u hu => ?_)
    obtain ⟨k, hk⟩ := List.getElem?_of_mem hu
    have hkl := (List.getElem?_eq_some_iff.1 hk).1
    exact ih k _ u (List.getElem?_eq_getElem (by omega)) hk

/-- A node below another one. -/
inductive Bel (L : List Nd) : Nat → Nat → Prop
  | here (r : Nat) : Bel L r r
  | arg {r x : Nat} {s : Int} {xs : List Nat} {y : Nat} (h : Bel L r x) (hx : L[x]? = some (Nd.app s xs)) (hy : y ∈ xs) : Bel L r y

/-- All that is joined: applications of one class have one symbol, and their arguments are in one class. -/
def Closed (L : List Nd) (root face : Nat → Nat) : Prop := ∀ (i : Nat) (c : Int) (xs xs' : List Nat), L[i]? = some (Nd.app c xs) → L[face (root i)]? = some (Nd.app c xs') → ∀ (k x x' : Nat), xs[k]? = some x → xs'[k]? = some x' → root x = root x'

theorem closed_of {L : List Nd} {root face : Nat → Nat} (h : ClWait L root face []) : Closed L root face := fun i c xs xs' h1 h2 k x x' h3 h4 => (h i c xs xs' h1 h2 k x x' h3 h4).none

/-- Whatever stands below a node whose class becomes a term is in such a class. -/
theorem bel_tm {sig : List Sy} {L : List Nd} (hL : NdOk sig L) {root face : Nat → Nat} (hc : ClOk L root face) (hcl : Closed L root face) {r x : Nat} (h : Bel L r x) (ht : ∃ t, TmC L root face (root r) t) : ∃ t, TmC L root face (root x) t := by
  induction h with
  | here => exact ht
  | arg h hx hy ih =>
    rename_i x s xs y
    obtain ⟨t, ht⟩ := ih
    obtain ⟨xs', hx'⟩ := hc.app x s xs hx
    cases ht with
    | var h9 => rw [hx'] at h9; cases h9
    | app h9 hl ht9 =>
      rename_i s' zs ts
      rw [hx'] at h9
      cases h9
      obtain ⟨k, hk⟩ := List.getElem?_of_mem hy
      have e1 := (hL.sym x s xs hx).2.2
      have e2 := (hL.sym _ s xs' hx').2.2
      have hkl := (List.getElem?_eq_some_iff.1 hk).1
      have hk' : xs'[k]? = some xs'[k] := List.getElem?_eq_getElem (by omega)
      have h7 := hcl x s xs xs' hx hx' k y _ hk hk'
      rw [h7]
      exact ⟨_, ht9 k _ _ hk' (List.getElem?_eq_getElem (by omega))⟩

/-- What nodes become by their classes. -/
noncomputable def vC (L : List Nd) (root face : Nat → Nat) (i : Nat) : List Int := @dite _ (∃ t, TmC L root face (root i) t) (Classical.propDecidable _) (fun h => Classical.choose h) (fun _ => [])

theorem vC_eq {L : List Nd} {root face : Nat → Nat} {i : Nat} {t : List Int} (h : TmC L root face (root i) t) : vC L root face i = t := by
  have h9 : ∃ t, TmC L root face (root i) t := ⟨t, h⟩
  unfold vC
  rw [dif_pos h9]
  exact tmC_one (Classical.choose_spec h9) t h

theorem map_of {α β : Type} {f : α → β} {xs : List α} {ys : List β} (hl : ys.length = xs.length) (h : ∀ (k : Nat) (x : α) (y : β), xs[k]? = some x → ys[k]? = some y → f x = y) : xs.map f = ys := by
  apply List.ext_getElem (by rw [List.length_map]; omega)
  intro k h1 h2
  rw [List.length_map] at h1
  rw [List.getElem_map]
  exact h k _ _ (List.getElem?_eq_getElem h1) (List.getElem?_eq_getElem h2)

/-- That is a valuation. -/
theorem vC_val {sig : List Sy} (ha : ArOk sig) {L : List Nd} (hL : NdOk sig L) {root face : Nat → Nat} (hc : ClOk L root face) (hcl : Closed L root face) (hT : ∀ i, i < L.length → ∃ t, TmC L root face (root i) t) : Val sig L (vC L root face) := fun i hi => by
  obtain ⟨t, ht⟩ := hT i hi
  rw [vC_eq ht]
  refine ⟨tmC_right ha hL ht, fun s xs hx => ?_⟩
  obtain ⟨xs', hx'⟩ := hc.app i s xs hx
  cases ht with
  | var h9 => rw [hx'] at h9; cases h9
  | app h9 hl ht9 =>
    rename_i s' zs ts
    rw [hx'] at h9
    cases h9
    congr 1
    have e1 := (hL.sym i s xs hx).2.2
    have e2 := (hL.sym _ s xs' hx').2.2
    have e : xs.map (vC L root face) = ts := map_of (by omega) (fun k x y h1 h2 => by
      have hkl := (List.getElem?_eq_some_iff.1 h1).1
      have hk' : xs'[k]? = some xs'[k] := List.getElem?_eq_getElem (by omega)
      have h7 := hcl i s xs xs' hx hx' k x _ h1 hk'
      exact vC_eq (by rw [h7]; exact ht9 k _ _ hk' h2))
    rw [e]

theorem vC_slv {L : List Nd} {root face : Nat → Nat} (hc : ClOk L root face) : Slv L.length root (vC L root face) := fun i hi => by
  unfold vC
  rw [hc.idem i hi]

/-- What a valuation makes of variables. -/
noncomputable def gV (L : List Nd) (V : Nat → List Int) (n : Int) : Option (List Int) := @dite _ (∃ i, L[i]? = some (Nd.var n)) (Classical.propDecidable _) (fun h => some (V (Classical.choose h))) (fun _ => none)

theorem gV_eq {sig : List Sy} {L : List Nd} (hL : NdOk sig L) {V : Nat → List Int} {i : Nat} {n : Int} (h : L[i]? = some (Nd.var n)) : gV L V n = some (V i) := by
  have h9 : ∃ i, L[i]? = some (Nd.var n) := ⟨i, h⟩
  unfold gV
  rw [dif_pos h9, hL.once _ i n (Classical.choose_spec h9) h]

theorem laid_flat (g : Int → Option (List Int)) : ∀ ts : List (List Int), laidL g ts.flatten = (ts.map (laidL g)).flatten
  | [] => rfl
  | t :: ts => by rw [List.flatten_cons, laidL_app, laid_flat g ts, List.map_cons, List.flatten_cons]

/-- Whatever solves is made of what the classes become. -/
theorem slv_laid {sig : List Sy} {L : List Nd} (hL : NdOk sig L) {root face : Nat → Nat} (hc : ClOk L root face) {V : Nat → List Int} (hV : Val sig L V) (hs : Slv L.length root V) {c : Nat} {t : List Int} (h : TmC L root face c t) (hcl : c < L.length) (hrc : root c = c) : V c = laidL (gV L V) t := by
  have key : ∀ c, c < L.length → root c = c → V c = V (face c) := fun c h1 h2 => by
    have h3 := hc.face_lt c h1
    have h4 := hc.face_in c h1
    rw [h2] at h3 h4
    rw [hs (face c) h3, h4]
  induction h with
  | var h =>
    rw [key _ hcl hrc, laidL_cons]
    unfold piece
    have := hL.num _ _ h
    rw [if_pos (by omega), show -1 - (-1 - _) = _ from Int.sub_sub_self _ _, gV_eq hL h]
    simp [laidL]
  | app h hl ht ih =>
    rename_i c s xs ts
    obtain ⟨h0, h1, h2⟩ := hL.sym _ _ _ h
    have hfl := (List.getElem?_eq_some_iff.1 h).1
    rw [key _ hcl hrc, (hV _ hfl).2 s xs h, laidL_cons, laid_flat]
    unfold piece
    rw [if_neg h0]
    have e : xs.map V = ts.map (laidL (gV L V)) := map_of (by rw [List.length_map]; omega) (fun k x y h3 h4 => by
      rw [List.getElem?_map] at h4
      cases h5 : ts[k]? with
      | none => rw [h5] at h4; cases h4
      | some u =>
        rw [h5] at h4
        cases h4
        have hxl := Nat.lt_trans (hL.ahead _ _ _ h x (List.mem_of_getElem? h3)) hfl
        rw [hs x hxl]
        exact ih k x u h3 h5 (hc.lt x hxl) (hc.idem x hxl))
    rw [e]
    rfl

/-- A class and one of its face's arguments. -/
def Pt (L : List Nd) (root face : Nat → Nat) (c d : Nat) : Prop := ∃ (s : Int) (xs : List Nat) (x : Nat), L[face c]? = some (Nd.app s xs) ∧ x ∈ xs ∧ root x = d

/-- What solves makes parts shorter. -/
theorem pt_short {sig : List Sy} {L : List Nd} (hL : NdOk sig L) {root face : Nat → Nat} (hc : ClOk L root face) {V : Nat → List Int} (hV : Val sig L V) (hs : Slv L.length root V) {c d : Nat} (h : Pt L root face c d) (hcl : c < L.length) (hrc : root c = c) : (V d).length < (V c).length ∧ d < L.length ∧ root d = d := by
  obtain ⟨s, xs, x, h1, h2, rfl⟩ := h
  have hfl := (List.getElem?_eq_some_iff.1 h1).1
  have hxl := Nat.lt_trans (hL.ahead _ _ _ h1 x h2) hfl
  have h3 := hc.face_lt c hcl
  have h4 := hc.face_in c hcl
  rw [hrc] at h3 h4
  have e1 : V c = V (face c) := by rw [hs (face c) h3, h4]
  rw [e1, (hV _ hfl).2 s xs h1, ← hs x hxl, List.length_cons]
  have h5 : (V x).length ≤ ((xs.map V).flatten).length := by
    obtain ⟨p, q, rfl⟩ := List.append_of_mem h2
    rw [List.map_append, List.map_cons, List.flatten_append, List.flatten_cons, List.length_append, List.length_append]
    omega
  exact ⟨by omega, hc.lt x hxl, hc.idem x hxl⟩

/-- Reached by parts. -/
inductive Rch (L : List Nd) (root face : Nat → Nat) : Nat → Nat → Prop
  | one {c d : Nat} (h : Pt L root face c d) : Rch L root face c d
  | more {c d e : Nat} (h : Rch L root face c d) (h' : Pt L root face d e) : Rch L root face c e

theorem rch_short {sig : List Sy} {L : List Nd} (hL : NdOk sig L) {root face : Nat → Nat} (hc : ClOk L root face) {V : Nat → List Int} (hV : Val sig L V) (hs : Slv L.length root V) {c d : Nat} (h : Rch L root face c d) (hcl : c < L.length) (hrc : root c = c) : (V d).length < (V c).length ∧ d < L.length ∧ root d = d := by
  induction h with
  | one h => exact pt_short hL hc hV hs h hcl hrc
  | more h h' ih =>
    obtain ⟨i1, i2, i3⟩ := ih
    obtain ⟨j1, j2, j3⟩ := pt_short hL hc hV hs h' i2 i3
    exact ⟨by omega, j2, j3⟩

/-- A class that is reached from itself: nothing solves. -/
theorem circle_none {sig : List Sy} {L : List Nd} (hL : NdOk sig L) {root face : Nat → Nat} (hc : ClOk L root face) {c : Nat} (h : Rch L root face c c) (hcl : c < L.length) (hrc : root c = c) {V : Nat → List Int} (hV : Val sig L V) : ¬ Slv L.length root V := fun hs => by
  have := (rch_short hL hc hV hs h hcl hrc).1
  omega

end Go.Proofs.YtpnkplidhbbliaaDoor
