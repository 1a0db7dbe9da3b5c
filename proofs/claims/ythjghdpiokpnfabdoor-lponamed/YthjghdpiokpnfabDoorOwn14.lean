/- The path order on rows: plain. -/
import Derived.Test.YthjghdpiokpnfabDoorOwn10
import Derived.Test.YthjghdpiokpnfabDoorOwn4
import Derived.Test.YthjghdpiokpnfabDoorOwn13
namespace Go.Proofs.YthjghdpiokpnfabDoor
open Go.RowKit Go.Maps

theorem may_of {sig : List Sy} {t : List Int} (h1 : t.length ≤ 512) (h2 : termE sig t = 0) : mayB sig t = true := by
  unfold mayB
  rw [decide_eq_true h1, decide_eq_true h2]
  rfl

theorem may_tree {sig : List Sy} {t : List Int} (h : mayB sig t = true) : ∃ x, growE sig t = [x] ∧ x.row = t ∧ WfT sig x := by
  obtain ⟨_, h1, h2⟩ := may_parts h
  exact growE_one (sigE_ok h1) h2

theorem may_term {sig : List Sy} {t : List Int} (h : mayB sig t = true) : termE sig t = 0 ∧ t.length ≤ 512 := by
  obtain ⟨h1, h2, h3⟩ := may_parts h
  unfold termE
  rw [if_pos h2]
  exact ⟨h3, h1⟩

theorem gr_may {sig : List Sy} {ps : List (Int × Int)} {s t : List Int} (h : grB sig ps s t = true) : mayB sig s = true ∧ mayB sig t = true := by
  cases h1 : mayB sig s with
  | false => rw [gr_no (fun h9 => by rw [h1] at h9; cases h9.1)] at h; cases h
  | true =>
    cases h2 : mayB sig t with
    | false => rw [gr_no (fun h9 => by rw [h2] at h9; cases h9.2)] at h; cases h
    | true => exact ⟨rfl, rfl⟩

theorem gr_own {sig : List Sy} {ps : List (Int × Int)} (hc : ∀ i, ¬ Up ps i i) (s : List Int) : grB sig ps s s = false := by
  cases h : grB sig ps s s with
  | false => rfl
  | true =>
    obtain ⟨h1, _⟩ := gr_may h
    obtain ⟨x, hx, _, _⟩ := may_tree h1
    exact absurd ((gr_yes h1 h1 hx hx).1 h) (LG.no hc x)

theorem gr_trans {sig : List Sy} {ps : List (Int × Int)} {a b c : List Int} (h1 : grB sig ps a b = true) (h2 : grB sig ps b c = true) : grB sig ps a c = true := by
  obtain ⟨ha, hb⟩ := gr_may h1
  obtain ⟨_, hc⟩ := gr_may h2
  obtain ⟨x, hx, _, _⟩ := may_tree ha
  obtain ⟨y, hy, _, _⟩ := may_tree hb
  obtain ⟨z, hz, _, _⟩ := may_tree hc
  exact (gr_yes ha hc hx hz).2 (LG.trans (abB_tr ps) _ (Nat.le_refl _) ((gr_yes ha hb hx hy).1 h1) ((gr_yes hb hc hy hz).1 h2))

theorem gr_not2 {sig : List Sy} {ps : List (Int × Int)} (hc : ∀ i, ¬ Up ps i i) {a b : List Int} (h : grB sig ps a b = true) : grB sig ps b a = false := by
  cases h2 : grB sig ps b a with
  | false => rfl
  | true =>
    have := gr_trans h h2
    rw [gr_own hc] at this
    cases this

/-- A tree that stands in a row is below what is made of it. -/
theorem sub_stack {ab : Int → Int → Bool} {sig : List Sy} {y : Te} (hy : WfT sig y) (q : List Int) : ∀ p : List Int, ∃ z ∈ growE sig (p ++ (y.row ++ q)), z = y ∨ LG ab z y
  | [] => ⟨y, by rw [List.nil_append, grow_row y hy]; simp, .inl rfl⟩
  | c :: p => by
    obtain ⟨z, hz, h⟩ := sub_stack (ab := ab) hy q p
    show ∃ z ∈ growStepE sig (growE sig (p ++ (y.row ++ q))) c, _
    unfold growStepE
    split
    · exact ⟨z, List.mem_append_left _ hz, h⟩
    · rw [← List.take_append_drop ((growE sig (p ++ (y.row ++ q))).length - arN sig c) (growE sig (p ++ (y.row ++ q)))] at hz
      rcases List.mem_append.1 hz with hz | hz
      · exact ⟨z, List.mem_append_left _ hz, h⟩
      · refine ⟨_, List.mem_append_right _ (List.mem_singleton.2 rfl), .inr ?_⟩
        rcases h with rfl | h
        · exact .part (List.mem_reverse.2 hz)
        · exact .down (List.mem_reverse.2 hz) h

/-- A term is greater than each of its proper parts. -/
theorem gr_part {sig : List Sy} {ps : List (Int × Int)} {t p u q : List Int} (ht : mayB sig t = true) (hu : rowE sig u = 0) (he : t = p ++ (u ++ q)) (hp : p ≠ []) : grB sig ps t u = true := by
  obtain ⟨hl, hs, hr⟩ := may_parts ht
  have hul : u.length ≤ 512 := by rw [he, List.length_append, List.length_append] at hl; omega
  have hmu : mayB sig u = true := may_of hul (by unfold termE; rw [if_pos hs, hu])
  obtain ⟨x, hx, hxr, _⟩ := may_tree ht
  obtain ⟨y, hy, hyr, wy⟩ := may_tree hmu
  refine (gr_yes ht hmu hx hy).2 ?_
  obtain ⟨z, hz, h⟩ := sub_stack (ab := abB ps) wy q p
  rw [hyr, ← he, hx, List.mem_singleton] at hz
  subst hz
  refine h.resolve_left (fun e => ?_)
  subst e
  have h1 := congrArg List.length he
  rw [← hxr, hyr, List.length_append, List.length_append] at h1
  have := List.length_pos_iff.2 hp
  omega

/-- More pairs take nothing away. -/
theorem gr_more {sig : List Sy} {ps qs : List (Int × Int)} (h : ∀ x ∈ ps, x ∈ qs) {s t : List Int} (hg : grB sig ps s t = true) : grB sig qs s t = true := by
  obtain ⟨h1, h2⟩ := gr_may hg
  obtain ⟨x, hx, _, _⟩ := may_tree h1
  obtain ⟨y, hy, _, _⟩ := may_tree h2
  refine (gr_yes h1 h2 hx hy).2 (LG.more (fun f g hab => ?_) ((gr_yes h1 h2 hx hy).1 hg))
  rw [abB_iff] at hab ⊢
  exact ⟨hab.1, hab.2.1, Up.mono h hab.2.2⟩

/-- Kept by what stands around. -/
theorem gr_round {sig : List Sy} {ps : List (Int × Int)} {p q s t : List Int} (hg : grB sig ps s t = true) (h1 : mayB sig (p ++ (s ++ q)) = true) (h2 : mayB sig (p ++ (t ++ q)) = true) : grB sig ps (p ++ (s ++ q)) (p ++ (t ++ q)) = true := by
  obtain ⟨hs, ht⟩ := gr_may hg
  obtain ⟨x, hx, hxr, wx⟩ := may_tree hs
  obtain ⟨y, hy, hyr, wy⟩ := may_tree ht
  obtain ⟨u, hu, _, _⟩ := may_tree h1
  obtain ⟨v, hv, _, _⟩ := may_tree h2
  refine (gr_yes h1 h2 hu hv).2 (round_rows wx wy ((gr_yes hs ht hx hy).1 hg) (p := p) (q := q) ?_ ?_)
  · rw [hxr]; exact hu
  · rw [hyr]; exact hv

mutual
/-- A tree laid is the row laid. -/
theorem lay_row {sig : List Sy} (F : Int → Te) (P : Int → List Int) (hP : ∀ c, ¬ c < 0 → P c = [c]) : ∀ x : Te, WfT sig x → (∀ c ∈ x.row, c < 0 → (F c).row = P c ∧ WfT sig (F c)) → (x.lay F).row = x.row.flatMap P ∧ WfT sig (x.lay F)
  | .v c, hw, h => by
    cases hw with
    | v hc =>
      obtain ⟨h1, h2⟩ := h c (by simp [Te.row]) hc
      simp only [Te.lay, Te.row, List.flatMap_cons, List.flatMap_nil, List.append_nil]
      exact ⟨h1, h2⟩
  | .a c ts, hw, h => by
    cases hw with
    | a hc hl hts =>
      obtain ⟨h1, h2, h3⟩ := lay_rows F P hP ts hts (fun d hd => h d (by simp [Te.row, hd]))
      simp only [Te.lay, Te.row, List.flatMap_cons, hP c hc]
      exact ⟨by rw [h1]; rfl, .a hc (by rw [h3, hl]) h2⟩
theorem lay_rows {sig : List Sy} (F : Int → Te) (P : Int → List Int) (hP : ∀ c, ¬ c < 0 → P c = [c]) : ∀ ts : List Te, (∀ x ∈ ts, WfT sig x) → (∀ c ∈ rowL ts, c < 0 → (F c).row = P c ∧ WfT sig (F c)) → rowL (layT F ts) = (rowL ts).flatMap P ∧ (∀ x ∈ layT F ts, WfT sig x) ∧ (layT F ts).length = ts.length
  | [], _, _ => ⟨rfl, fun x hx => (by cases hx), rfl⟩
  | x :: ts, hw, h => by
    obtain ⟨a1, a2⟩ := lay_row F P hP x (hw x (List.mem_cons_self ..)) (fun c hc => h c (by simp [rowL, hc]))
    obtain ⟨b1, b2, b3⟩ := lay_rows F P hP ts (fun y hy => hw y (List.mem_cons_of_mem _ hy)) (fun c hc => h c (by simp [rowL, hc]))
    simp only [layT, rowL, List.flatMap_append, a1, b1, List.length_cons, b3, and_true, true_and]
    intro y hy
    rcases List.mem_cons.1 hy with rfl | hy
    · exact a2
    · exact b2 y hy
end

theorem grow_laid {sig : List Sy} (F : Int → Te) (P : Int → List Int) (hP : ∀ c, ¬ c < 0 → P c = [c]) {x : Te} (hx : WfT sig x) (h : ∀ c ∈ x.row, c < 0 → (F c).row = P c ∧ WfT sig (F c)) : growE sig (x.row.flatMap P) = [x.lay F] := by
  obtain ⟨h1, h2⟩ := lay_row F P hP x hx h
  have h3 := grow_row _ h2 []
  rw [List.append_nil, h1] at h3
  rw [h3]
  rfl

theorem row_codeL {sig : List Sy} {t : List Int} (h : rowE sig t = 0) : ∀ c ∈ t, codeD sig c ≠ none := first_codes t 1 0 (by rw [row_first.1 h]; simp)

theorem var_rowL {sig : List Sy} {c : Int} (h : codeD sig c ≠ none) (hc : c < 0) : rowE sig [c] = 0 := by
  have h1 : ¬ c < -1048576 := fun h9 => h (codeD_none (.inr h9))
  unfold rowE firstT
  rw [codeD_var (by omega) hc]
  simp

/-- Kept by binds. -/
theorem gr_laid {sig : List Sy} {ps : List (Int × Int)} {r : List Bd} {s t : List Int} (hg : grB sig ps s t = true) (h1 : applyE sig r s = 0) (h2 : applyE sig r t = 0) : grB sig ps (applyL sig r s) (applyL sig r t) = true := by
  obtain ⟨hs, ht⟩ := gr_may hg
  obtain ⟨hb, ts, ls, es⟩ := apply_ok h1
  obtain ⟨_, tt, lt, et⟩ := apply_ok h2
  obtain ⟨_, hsig, rs⟩ := may_parts hs
  obtain ⟨_, _, rt⟩ := may_parts ht
  obtain ⟨x, hx, hxr, wx⟩ := may_tree hs
  obtain ⟨y, hy, hyr, wy⟩ := may_tree ht
  have m1 : mayB sig (laidL (bnd r) s) = true := may_of ls (term_laid hb ts)
  have m2 : mayB sig (laidL (bnd r) t) = true := may_of lt (term_laid hb tt)
  have hF : ∀ c, c < 0 → codeD sig c ≠ none → (((growE sig (piece (bnd r) c)).head?).getD (.v c)).row = piece (bnd r) c ∧ WfT sig (((growE sig (piece (bnd r) c)).head?).getD (.v c)) := fun c hc hcd => by
    have hr : rowE sig (piece (bnd r) c) = 0 := by
      unfold piece
      rw [if_pos hc]
      cases h : bnd r (-1 - c) with
      | none => exact var_rowL hcd hc
      | some u => exact bnd_right hb _ u h
    obtain ⟨z, hz, hzr, wz⟩ := growE_one (sigE_ok hsig) hr
    rw [hz]
    exact ⟨hzr, wz⟩
  have hP : ∀ c : Int, ¬ c < 0 → piece (bnd r) c = [c] := fun c hc => by unfold piece; rw [if_neg hc]
  have g1 := grow_laid (fun c => ((growE sig (piece (bnd r) c)).head?).getD (.v c)) (piece (bnd r)) hP wx (fun c hc h0 => hF c h0 (row_codeL rs c (hxr ▸ hc)))
  have g2 := grow_laid (fun c => ((growE sig (piece (bnd r) c)).head?).getD (.v c)) (piece (bnd r)) hP wy (fun c hc h0 => hF c h0 (row_codeL rt c (hyr ▸ hc)))
  rw [hxr] at g1
  rw [hyr] at g2
  rw [es, et]
  exact (gr_yes m1 m2 g1 g2).2 (((gr_yes hs ht hx hy).1 hg).laid _)

mutual
theorem lay_back {sig : List Sy} {F G : Int → Te} : ∀ {x : Te}, WfT sig x → (∀ c ∈ x.row, c < 0 → (F c).lay G = .v c) → (x.lay F).lay G = x
  | .v c, hw, h => by
    cases hw with
    | v hc => simp only [Te.lay]; exact h c (by simp [Te.row]) hc
  | .a c ts, hw, h => by
    cases hw with
    | a _ _ hts => simp only [Te.lay, lay_backs hts (fun d hd => h d (by simp [Te.row, hd]))]
theorem lay_backs {sig : List Sy} {F G : Int → Te} : ∀ {ts : List Te}, (∀ x ∈ ts, WfT sig x) → (∀ c ∈ rowL ts, c < 0 → (F c).lay G = .v c) → layT G (layT F ts) = ts
  | [], _, _ => rfl
  | x :: ts, hw, h => by simp only [layT, lay_back (hw x (List.mem_cons_self ..)) (fun c hc => h c (by simp [rowL, hc])), lay_backs (fun y hy => hw y (List.mem_cons_of_mem _ hy)) (fun c hc => h c (by simp [rowL, hc]))]
end

theorem mov_flatL (d : Int) (t : List Int) : movL d t = t.flatMap fun c => [if c < 0 then c - d else c] := by
  unfold movL
  rw [List.map_eq_flatMap]

/-- Variables are nothing but names. -/
theorem gr_named {sig : List Sy} {ps : List (Int × Int)} {d : Int} {s t : List Int} (hs : mayB sig s = true) (ht : mayB sig t = true) (o1 : okShift d s = true) (o2 : okShift d t = true) : mayB sig (movL d s) = true ∧ mayB sig (movL d t) = true ∧ grB sig ps (movL d s) (movL d t) = grB sig ps s t := by
  obtain ⟨x, hx, hxr, wx⟩ := may_tree hs
  obtain ⟨y, hy, hyr, wy⟩ := may_tree ht
  obtain ⟨es, ls⟩ := may_term hs
  obtain ⟨et, lt⟩ := may_term ht
  have m1 : mayB sig (movL d s) = true := may_of (by unfold movL; rw [List.length_map]; exact ls) (mov_term o1 es)
  have m2 : mayB sig (movL d t) = true := may_of (by unfold movL; rw [List.length_map]; exact lt) (mov_term o2 et)
  refine ⟨m1, m2, ?_⟩
  have key : ∀ {u : List Int}, okShift d u = true → ∀ c ∈ u, c < 0 → (if c < 0 then c - d else c) < 0 := fun {u} ho c hc h0 => by
    unfold okShift at ho
    rw [List.all_eq_true] at ho
    have h9 := ho c hc
    simp only [h0, decide_true, Bool.not_true, Bool.false_or] at h9
    have := isVarB_iff.1 h9
    rw [if_pos h0]
    omega
  have hP : ∀ c : Int, ¬ c < 0 → [if c < 0 then c - d else c] = [c] := fun c hc => by rw [if_neg hc]
  have hF : ∀ {u : List Int}, okShift d u = true → ∀ c ∈ u, c < 0 → (Te.v (if c < 0 then c - d else c)).row = [if c < 0 then c - d else c] ∧ WfT sig (.v (if c < 0 then c - d else c)) := fun {u} ho c hc h0 => ⟨rfl, .v (key ho c hc h0)⟩
  have g1 := grow_laid (fun c => Te.v (if c < 0 then c - d else c)) (fun c => [if c < 0 then c - d else c]) hP wx (fun c hc h0 => hF o1 c (hxr ▸ hc) h0)
  have g2 := grow_laid (fun c => Te.v (if c < 0 then c - d else c)) (fun c => [if c < 0 then c - d else c]) hP wy (fun c hc h0 => hF o2 c (hyr ▸ hc) h0)
  rw [hxr, ← mov_flatL] at g1
  rw [hyr, ← mov_flatL] at g2
  rw [Bool.eq_iff_iff, gr_yes m1 m2 g1 g2, gr_yes hs ht hx hy]
  constructor
  · intro h
    have h2 := h.laid (fun c => .v (c + d))
    have back : ∀ {u : List Int} {z : Te}, okShift d u = true → z.row = u → WfT sig z → (z.lay fun c => Te.v (if c < 0 then c - d else c)).lay (fun c => .v (c + d)) = z := fun {u z} ho hz wz => by
      refine lay_back wz (fun c hc h0 => ?_)
      simp only [Te.lay, Te.v.injEq]
      rw [if_pos h0]
      omega
    rw [back o1 hxr wx, back o2 hyr wy] at h2
    exact h2
  · exact fun h => h.laid _

end Go.Proofs.YthjghdpiokpnfabDoor
