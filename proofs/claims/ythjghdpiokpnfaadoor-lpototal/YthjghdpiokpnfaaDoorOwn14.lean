/- Texts of the proof, one behind the other. -/
import Derived.Test.YthjghdpiokpnfaaDoorOwn13
import Derived.Test.YthjghdpiokpnfaaDoorOwn10
import Derived.Test.YthjghdpiokpnfaaDoorOwn4
import Derived.Test.YthjghdpiokpnfaaDoorOwn12
import Derived.Deep.LoopGhost
import Derived.Lib.AppendZeros
/- Rows whose variables are moved, plainly. -/
namespace Go.Proofs.YthjghdpiokpnfaaDoor
open Go.RowKit Go.Maps Go.BigFrame

def movL (d : Int) (t : List Int) : List Int := t.map fun c => if c < 0 then c - d else c

theorem mov_ok {d : Int} {t : List Int} (h : okShift d t = true) : shiftE d t = 0 ∧ shiftL d t = movL d t := by
  unfold shiftE shiftL
  rw [if_pos h, if_pos h]
  exact ⟨rfl, rfl⟩

theorem mov_no {d : Int} {t : List Int} (h : ¬ okShift d t = true) : shiftE d t = 40 := by
  unfold shiftE
  rw [if_neg h]

theorem mov_code {sig : List Sy} {d c : Int} (h : c < 0 → isVarB (-1 - c + d) = true) (hc : codeD sig c ≠ none) : codeD sig (if c < 0 then c - d else c) = codeD sig c := by
  by_cases h0 : c < 0
  · rw [if_pos h0]
    have h1 := isVarB_iff.1 (h h0)
    have h2 : ¬ c < -1048576 := fun h2 => hc (codeD_none (.inr h2))
    unfold codeD
    rw [if_neg (by omega), if_pos (by omega), if_neg (by omega), if_pos (by omega)]
  · rw [if_neg h0]

theorem mov_first {sig : List Sy} {d : Int} : ∀ (t : List Int) (m : Int) (i : Nat), okShift d t = true → (∀ c ∈ t, codeD sig c ≠ none) → firstT sig m i (movL d t) = firstT sig m i t
  | [], _, _, _, _ => rfl
  | c :: t, m, i, ho, hc => by
    have h1 : (c < 0 → isVarB (-1 - c + d) = true) ∧ okShift d t = true := by
      unfold okShift at ho ⊢
      rw [List.all_cons, Bool.and_eq_true] at ho
      refine ⟨fun h0 => ?_, ho.2⟩
      have := ho.1
      simpa [h0] using this
    have e : movL d (c :: t) = (if c < 0 then c - d else c) :: movL d t := rfl
    rw [e]
    unfold firstT
    rw [mov_code h1.1 (hc c (by simp))]
    cases codeD sig c with
    | none => rfl
    | some x =>
      simp only
      rw [mov_first t _ _ h1.2 (fun y hy => hc y (by simp [hy]))]

theorem first_codes {sig : List Sy} : ∀ (t : List Int) (m : Int) (i : Nat), firstT sig m i t = ((i : Int) + t.length, 0) → ∀ c ∈ t, codeD sig c ≠ none
  | [], _, _, _, c, hc => by simp at hc
  | a :: t, m, i, h, c, hc => by
    unfold firstT at h
    cases ha : codeD sig a with
    | none => rw [ha] at h; simp at h
    | some x =>
      rw [ha] at h
      simp only at h
      by_cases h0 : m + x = 0
      · rw [if_pos h0] at h
        have h2 := congrArg Prod.fst h
        simp only [List.length_cons] at h2
        have h3 : t.length = 0 := by omega
        obtain rfl := List.eq_nil_of_length_eq_zero h3
        rw [List.mem_singleton] at hc
        subst hc
        rw [ha]
        simp
      · rw [if_neg h0] at h
        rcases List.mem_cons.1 hc with rfl | hc
        · rw [ha]; simp
        · refine first_codes t (m + x) (i + 1) ?_ c hc
          rw [h]
          simp only [List.length_cons]
          congr 1
          push_cast
          omega

theorem mov_row {sig : List Sy} {d : Int} {t : List Int} (ho : okShift d t = true) (h : rowE sig t = 0) : rowE sig (movL d t) = 0 := by
  have h1 := first_right h []
  rw [List.append_nil] at h1
  have h2 := mov_first (sig := sig) t 1 0 ho (first_codes t 1 0 (by rw [h1]; simp))
  unfold rowE at h ⊢
  rw [h2]
  have h3 : (movL d t).length = t.length := by unfold movL; simp
  rw [h3]
  exact h

theorem mov_term {sig : List Sy} {d : Int} {t : List Int} (ho : okShift d t = true) (h : termE sig t = 0) : termE sig (movL d t) = 0 := by
  unfold termE at h ⊢
  by_cases hs : sigE sig = 0
  · rw [if_pos hs] at h ⊢
    exact mov_row ho h
  · rw [if_neg hs] at h
    exact absurd h hs

theorem mov_can {d : Int} {p q : List Int} (h1 : okShift d p = true) (h2 : okShift d q = true) : canL [movL d p, movL d q] = canL [p, q] := by
  refine canL_shift d [p, q] fun t ht c hc h0 => ?_
  have ho : okShift d t = true := by
    simp only [List.mem_cons, List.not_mem_nil, or_false] at ht
    rcases ht with rfl | rfl
    · exact h1
    · exact h2
  have h3 := List.all_eq_true.1 ho c hc
  have h4 : isVarB (-1 - c + d) = true := by simpa [h0] using h3
  exact (isVarB_iff.1 h4).1

end Go.Proofs.YthjghdpiokpnfaaDoor

/- The path order on rows: plain. -/
namespace Go.Proofs.YthjghdpiokpnfaaDoor
open Go.RowKit Go.Maps

theorem may_of {sig : List Sy} {t : List Int} (h1 : t.length ≤ 512) (h2 : termE sig t = 0) : mayB sig t = true := by
  unfold mayB
  rw [decide_eq_true h1, decide_eq_true h2]
  rfl

theorem may_tree {sig : List Sy} {t : List Int} (h : mayB sig t = true) : ∃ x, growE sig t = [x] ∧ x.row = t ∧ WfT sig x := by
  obtain ⟨_, h1, h2⟩ := may_parts h
  exact growE_one (sigE_ok h1) h2

theorem may_term {sig : List Sy} {t : List Int} (h : mayB sig t = true) : termE sig t = 0 ∧ t.length ≤ 512 := by
  obtain ⟨h1, h2, h3⟩ := may_parts h
  unfold termE
  rw [if_pos h2]
  exact ⟨h3, h1⟩

theorem gr_may {sig : List Sy} {ps : List (Int × Int)} {s t : List Int} (h : grB sig ps s t = true) : mayB sig s = true ∧ mayB sig t = true := by
  cases h1 : mayB sig s with
  | false => rw [gr_no (fun h9 => by rw [h1] at h9; cases h9.1)] at h; cases h
  | true =>
    cases h2 : mayB sig t with
    | false => rw [gr_no (fun h9 => by rw [h2] at h9; cases h9.2)] at h; cases h
    | true => exact ⟨rfl, rfl⟩

theorem gr_own {sig : List Sy} {ps : List (Int × Int)} (hc : ∀ i, ¬ Up ps i i) (s : List Int) : grB sig ps s s = false := by
  cases h : grB sig ps s s with
  | false => rfl
  | true =>
    obtain ⟨h1, _⟩ := gr_may h
    obtain ⟨x, hx, _, _⟩ := may_tree h1
    exact absurd ((gr_yes h1 h1 hx hx).1 h) (LG.no hc x)

theorem gr_trans {sig : List Sy} {ps : List (Int × Int)} {a b c : List Int} (h1 : grB sig ps a b = true) (h2 : grB sig ps b c = true) : grB sig ps a c = true := by
  obtain ⟨ha, hb⟩ := gr_may h1
  obtain ⟨_, hc⟩ := gr_may h2
  obtain ⟨x, hx, _, _⟩ := may_tree ha
  obtain ⟨y, hy, _, _⟩ := may_tree hb
  obtain ⟨z, hz, _, _⟩ := may_tree hc
  exact (gr_yes ha hc hx hz).2 (LG.trans (abB_tr ps) _ (Nat.le_refl _) ((gr_yes ha hb hx hy).1 h1) ((gr_yes hb hc hy hz).1 h2))

theorem gr_not2 {sig : List Sy} {ps : List (Int × Int)} (hc : ∀ i, ¬ Up ps i i) {a b : List Int} (h : grB sig ps a b = true) : grB sig ps b a = false := by
  cases h2 : grB sig ps b a with
  | false => rfl
  | true =>
    have := gr_trans h h2
    rw [gr_own hc] at this
    cases this

/-- A tree that stands in a row is below what is made of it. -/
theorem sub_stack {ab : Int → Int → Bool} {sig : List Sy} {y : Te} (hy : WfT sig y) (q : List Int) : ∀ p : List Int, ∃ z ∈ growE sig (p ++ (y.row ++ q)), z = y ∨ LG ab z y
  | [] => ⟨y, by rw [List.nil_append, grow_row y hy]; simp, .inl rfl⟩
  | c :: p => by
    obtain ⟨z, hz, h⟩ := sub_stack (ab := ab) hy q p
    show ∃ z ∈ growStepE sig (growE sig (p ++ (y.row ++ q))) c, _
    unfold growStepE
    split
    · exact ⟨z, List.mem_append_left _ hz, h⟩
    · rw [← List.take_append_drop ((growE sig (p ++ (y.row ++ q))).length - arN sig c) (growE sig (p ++ (y.row ++ q)))] at hz
      rcases List.mem_append.1 hz with hz | hz
      · exact ⟨z, List.mem_append_left _ hz, h⟩
      · refine ⟨_, List.mem_append_right _ (List.mem_singleton.2 rfl), .inr ?_⟩
        rcases h with rfl | h
        · exact .part (List.mem_reverse.2 hz)
        · exact .down (List.mem_reverse.2 hz) h

/-- A term is greater than each of its proper parts. -/
theorem gr_part {sig : List Sy} {ps : List (Int × Int)} {t p u q : List Int} (ht : mayB sig t = true) (hu : rowE sig u = 0) (he : t = p ++ (u ++ q)) (hp : p ≠ []) : grB sig ps t u = true := by
  obtain ⟨hl, hs, hr⟩ := may_parts ht
  have hul : u.length ≤ 512 := by rw [he, List.length_append, List.length_append] at hl; omega
  have hmu : mayB sig u = true := may_of hul (by unfold termE; rw [if_pos hs, hu])
  obtain ⟨x, hx, hxr, _⟩ := may_tree ht
  obtain ⟨y, hy, hyr, wy⟩ := may_tree hmu
  refine (gr_yes ht hmu hx hy).2 ?_
  obtain ⟨z, hz, h⟩ := sub_stack (ab := abB ps) wy q p
  rw [hyr, ← he, hx, List.mem_singleton] at hz
  subst hz
  refine h.resolve_left (fun e => ?_)
  subst e
  have h1 := congrArg List.length he
  rw [← hxr, hyr, List.length_append, List.length_append] at h1
  have := List.length_pos_iff.2 hp
  omega

/-- More pairs take nothing away. -/
theorem gr_more {sig : List Sy} {ps qs : List (Int × Int)} (h : ∀ x ∈ ps, x ∈ qs) {s t : List Int} (hg : grB sig ps s t = true) : grB sig qs s t = true := by
  obtain ⟨h1, h2⟩ := gr_may hg
  obtain ⟨x, hx, _, _⟩ := may_tree h1
  obtain ⟨y, hy, _, _⟩ := may_tree h2
  refine (gr_yes h1 h2 hx hy).2 (LG.more (fun f g hab => ?_) ((gr_yes h1 h2 hx hy).1 hg))
  rw [abB_iff] at hab ⊢
  exact ⟨hab.1, hab.2.1, Up.mono h hab.2.2⟩

/-- Kept by what stands around. -/
theorem gr_round {sig : List Sy} {ps : List (Int × Int)} {p q s t : List Int} (hg : grB sig ps s t = true) (h1 : mayB sig (p ++ (s ++ q)) = true) (h2 : mayB sig (p ++ (t ++ q)) = true) : grB sig ps (p ++ (s ++ q)) (p ++ (t ++ q)) = true := by
  obtain ⟨hs, ht⟩ := gr_may hg
  obtain ⟨x, hx, hxr, wx⟩ := may_tree hs
  obtain ⟨y, hy, hyr, wy⟩ := may_tree ht
  obtain ⟨u, hu, _, _⟩ := may_tree h1
  obtain ⟨v, hv, _, _⟩ := may_tree h2
  refine (gr_yes h1 h2 hu hv).2 (round_rows wx wy ((gr_yes hs ht hx hy).1 hg) (p := p) (q := q) ?_ ?_)
  · rw [hxr]; exact hu
  · rw [hyr]; exact hv

mutual
/-- A tree laid is the row laid. -/
theorem lay_row {sig : List Sy} (F : Int → Te) (P : Int → List Int) (hP : ∀ c, ¬ c < 0 → P c = [c]) : ∀ x : Te, WfT sig x → (∀ c ∈ x.row, c < 0 → (F c).row = P c ∧ WfT sig (F c)) → (x.lay F).row = x.row.flatMap P ∧ WfT sig (x.lay F)
  | .v c, hw, h => by
    cases hw with
    | v hc =>
      obtain ⟨h1, h2⟩ := h c (by simp [Te.row]) hc
      simp only [Te.lay, Te.row, List.flatMap_cons, List.flatMap_nil, List.append_nil]
      exact ⟨h1, h2⟩
  | .a c ts, hw, h => by
    cases hw with
    | a hc hl hts =>
      obtain ⟨h1, h2, h3⟩ := lay_rows F P hP ts hts (fun d hd => h d (by simp [Te.row, hd]))
      simp only [Te.lay, Te.row, List.flatMap_cons, hP c hc]
      exact ⟨by rw [h1]; rfl, .a hc (by rw [h3, hl]) h2⟩
theorem lay_rows {sig : List Sy} (F : Int → Te) (P : Int → List Int) (hP : ∀ c, ¬ c < 0 → P c = [c]) : ∀ ts : List Te, (∀ x ∈ ts, WfT sig x) → (∀ c ∈ rowL ts, c < 0 → (F c).row = P c ∧ WfT sig (F c)) → rowL (layT F ts) = (rowL ts).flatMap P ∧ (∀ x ∈ layT F ts, WfT sig x) ∧ (layT F ts).length = ts.length
  | [], _, _ => ⟨rfl, fun x hx => (by cases hx), rfl⟩
  | x :: ts, hw, h => by
    obtain ⟨a1, a2⟩ := lay_row F P hP x (hw x (List.mem_cons_self ..)) (fun c hc => h c (by simp [rowL, hc]))
    obtain ⟨b1, b2, b3⟩ := lay_rows F P hP ts (fun y hy => hw y (List.mem_cons_of_mem _ hy)) (fun c hc => h c (by simp [rowL, hc]))
    simp only [layT, rowL, List.flatMap_append, a1, b1, List.length_cons, b3, and_true, true_and]
    intro y hy
    rcases List.mem_cons.1 hy with rfl | hy
    · exact a2
    · exact b2 y hy
end

theorem grow_laid {sig : List Sy} (F : Int → Te) (P : Int → List Int) (hP : ∀ c, ¬ c < 0 → P c = [c]) {x : Te} (hx : WfT sig x) (h : ∀ c ∈ x.row, c < 0 → (F c).row = P c ∧ WfT sig (F c)) : growE sig (x.row.flatMap P) = [x.lay F] := by
  obtain ⟨h1, h2⟩ := lay_row F P hP x hx h
  have h3 := grow_row _ h2 []
  rw [List.append_nil, h1] at h3
  rw [h3]
  rfl

theorem row_codeL {sig : List Sy} {t : List Int} (h : rowE sig t = 0) : ∀ c ∈ t, codeD sig c ≠ none := first_codes t 1 0 (by rw [row_first.1 h]; simp)

theorem var_rowL {sig : List Sy} {c : Int} (h : codeD sig c ≠ none) (hc : c < 0) : rowE sig [c] = 0 := by
  have h1 : ¬ c < -1048576 := fun h9 => h (codeD_none (.inr h9))
  unfold rowE firstT
  rw [codeD_var (by omega) hc]
  simp

/-- Kept by binds. -/
theorem gr_laid {sig : List Sy} {ps : List (Int × Int)} {r : List Bd} {s t : List Int} (hg : grB sig ps s t = true) (h1 : applyE sig r s = 0) (h2 : applyE sig r t = 0) : grB sig ps (applyL sig r s) (applyL sig r t) = true := by
  obtain ⟨hs, ht⟩ := gr_may hg
  obtain ⟨hb, ts, ls, es⟩ := apply_ok h1
  obtain ⟨_, tt, lt, et⟩ := apply_ok h2
  obtain ⟨_, hsig, rs⟩ := may_parts hs
  obtain ⟨_, _, rt⟩ := may_parts ht
  obtain ⟨x, hx, hxr, wx⟩ := may_tree hs
  obtain ⟨y, hy, hyr, wy⟩ := may_tree ht
  have m1 : mayB sig (laidL (bnd r) s) = true := may_of ls (term_laid hb ts)
  have m2 : mayB sig (laidL (bnd r) t) = true := may_of lt (term_laid hb tt)
  have hF : ∀ c, c < 0 → codeD sig c ≠ none → (((growE sig (piece (bnd r) c)).head?).getD (.v c)).row = piece (bnd r) c ∧ WfT sig (((growE sig (piece (bnd r) c)).head?).getD (.v c)) := fun c hc hcd => by
    have hr : rowE sig (piece (bnd r) c) = 0 := by
      unfold piece
      rw [if_pos hc]
      cases h : bnd r (-1 - c) with
      | none => exact var_rowL hcd hc
      | some u => exact bnd_right hb _ u h
    obtain ⟨z, hz, hzr, wz⟩ := growE_one (sigE_ok hsig) hr
    rw [hz]
    exact ⟨hzr, wz⟩
  have hP : ∀ c : Int, ¬ c < 0 → piece (bnd r) c = [c] := fun c hc => by unfold piece; rw [if_neg hc]
  have g1 := grow_laid (fun c => ((growE sig (piece (bnd r) c)).head?).getD (.v c)) (piece (bnd r)) hP wx (fun c hc h0 => hF c h0 (row_codeL rs c (hxr ▸ hc)))
  have g2 := grow_laid (fun c => ((growE sig (piece (bnd r) c)).head?).getD (.v c)) (piece (bnd r)) hP wy (fun c hc h0 => hF c h0 (row_codeL rt c (hyr ▸ hc)))
  rw [hxr] at g1
  rw [hyr] at g2
  rw [es, et]
  exact (gr_yes m1 m2 g1 g2).2 (((gr_yes hs ht hx hy).1 hg).laid _)

mutual
theorem lay_back {sig : List Sy} {F G : Int → Te} : ∀ {x : Te}, WfT sig x → (∀ c ∈ x.row, c < 0 → (F c).lay G = .v c) → (x.lay F).lay G = x
  | .v c, hw, h => by
    cases hw with
    | v hc => simp only [Te.lay]; exact h c (by simp [Te.row]) hc
  | .a c ts, hw, h => by
    cases hw with
    | a _ _ hts => simp only [Te.lay, lay_backs hts (fun d hd => h d (by simp [Te.row, hd]))]
theorem lay_backs {sig : List Sy} {F G : Int → Te} : ∀ {ts : List Te}, (∀ x ∈ ts, WfT sig x) → (∀ c ∈ rowL ts, c < 0 → (F c).lay G = .v c) → layT G (layT F ts) = ts
  | [], _, _ => rfl
  | x :: ts, hw, h => by simp only [layT, lay_back (hw x (List.mem_cons_self ..)) (fun c hc => h c (by simp [rowL, hc])), lay_backs (fun y hy => hw y (List.mem_cons_of_mem _ hy)) (fun c hc => h c (by simp [rowL, hc]))]
end

theorem mov_flatL (d : Int) (t : List Int) : movL d t = t.flatMap fun c => [if c < 0 then c - d else c] := by
  unfold movL
  rw [List.map_eq_flatMap]

/-- Variables are nothing but names. -/
theorem gr_named {sig : List Sy} {ps : List (Int × Int)} {d : Int} {s t : List Int} (hs : mayB sig s = true) (ht : mayB sig t = true) (o1 : okShift d s = true) (o2 : okShift d t = true) : mayB sig (movL d s) = true ∧ mayB sig (movL d t) = true ∧ grB sig ps (movL d s) (movL d t) = grB sig ps s t := by
  obtain ⟨x, hx, hxr, wx⟩ := may_tree hs
  obtain ⟨y, hy, hyr, wy⟩ := may_tree ht
  obtain ⟨es, ls⟩ := may_term hs
  obtain ⟨et, lt⟩ := may_term ht
  have m1 : mayB sig (movL d s) = true := may_of (by unfold movL; rw [List.length_map]; exact ls) (mov_term o1 es)
  have m2 : mayB sig (movL d t) = true := may_of (by unfold movL; rw [List.length_map]; exact lt) (mov_term o2 et)
  refine ⟨m1, m2, ?_⟩
  have key : ∀ {u : List Int}, okShift d u = true → ∀ c ∈ u, c < 0 → (if c < 0 then c - d else c) < 0 := fun {u} ho c hc h0 => by
    unfold okShift at ho
    rw [List.all_eq_true] at ho
    have h9 := ho c hc
    simp only [h0, decide_true, Bool.not_true, Bool.false_or] at h9
    have := isVarB_iff.1 h9
    rw [if_pos h0]
    omega
  have hP : ∀ c : Int, ¬ c < 0 → [if c < 0 then c - d else c] = [c] := fun c hc => by rw [if_neg hc]
  have hF : ∀ {u : List Int}, okShift d u = true → ∀ c ∈ u, c < 0 → (Te.v (if c < 0 then c - d else c)).row = [if c < 0 then c - d else c] ∧ WfT sig (.v (if c < 0 then c - d else c)) := fun {u} ho c hc h0 => ⟨rfl, .v (key ho c hc h0)⟩
  have g1 := grow_laid (fun c => Te.v (if c < 0 then c - d else c)) (fun c => [if c < 0 then c - d else c]) hP wx (fun c hc h0 => hF o1 c (hxr ▸ hc) h0)
  have g2 := grow_laid (fun c => Te.v (if c < 0 then c - d else c)) (fun c => [if c < 0 then c - d else c]) hP wy (fun c hc h0 => hF o2 c (hyr ▸ hc) h0)
  rw [hxr, ← mov_flatL] at g1
  rw [hyr, ← mov_flatL] at g2
  rw [Bool.eq_iff_iff, gr_yes m1 m2 g1 g2, gr_yes hs ht hx hy]
  constructor
  · intro h
    have h2 := h.laid (fun c => .v (c + d))
    have back : ∀ {u : List Int} {z : Te}, okShift d u = true → z.row = u → WfT sig z → (z.lay fun c => Te.v (if c < 0 then c - d else c)).lay (fun c => .v (c + d)) = z := fun {u z} ho hz wz => by
      refine lay_back wz (fun c hc h0 => ?_)
      simp only [Te.lay, Te.v.injEq]
      rw [if_pos h0]
      omega
    rw [back o1 hxr wx, back o2 hyr wy] at h2
    exact h2
  · exact fun h => h.laid _

end Go.Proofs.YthjghdpiokpnfaaDoor

/- placesAbove walked. -/
namespace Go.Proofs.YthjghdpiokpnfaaDoor
open Go.RowKit Go.Maps

theorem abv_here (T : Tr) (p : Nat) : abv T p p = [] := by
  cases T with
  | var => simp [abv]
  | app ts => unfold abv; rw [if_pos rfl]

theorem sizes_drop {ts : List Tr} {j : Nat} {t : Tr} (h : ts[j]? = some t) : sizes (ts.drop j) = t.size + sizes (ts.drop (j + 1)) := by
  rw [drop_get h]
  simp only [sizes]

theorem sizes_pos {ts : List Tr} {j : Nat} (h : 0 < sizes (ts.drop j)) : j < ts.length := by
  by_cases hj : j < ts.length
  · exact hj
  · rw [List.drop_of_length_le (by omega)] at h
    simp [sizes] at h

theorem abvs_next {ts : List Tr} {j p q : Nat} {t : Tr} (h : ts[j]? = some t) : abvs (ts.drop j) p q = if p + t.size ≤ q then abvs (ts.drop (j + 1)) (p + t.size) q else abv t p q := by
  rw [drop_get h]
  rfl

end Go.Proofs.YthjghdpiokpnfaaDoor

/- slices.Grow, slices.Concat walked. -/
namespace Go.Proofs.YthjghdpiokpnfaaDoor
open Go.RowKit Go.Maps Go.BigFrame

theorem wpList_append_run2 {P : Program} {w w' : World} {ops : Array Oper} {rest : List Oper} {o : Oper} {a : Act} {v' : Value} {Q : Exit → Act → World → Prop} (hgd : o.guard = none) (s x : Operand) (t t2 : TypeId)
    (ho : o.op = .call { callee := .builtin .append, args := #[s, x], argTypes := #[t, t2] }) (v u : Value) (hs : a.eval s = v) (hx : a.eval x = u)
    (hr : (Builtin.append_ #[t, t2] o.type #[v, u]).run P w = .ok v' w') (h : wpList P ops Q rest (a.put o.dst v') w') : wpList P ops Q (o :: rest) a w := by
  refine wpList_plain hgd fun K hK => ?_
  unfold Oper.wp execOp
  simp only [ho, resolve, invoke, builtin, Sem.run_bind, Sem.run_pure, Result.andThen_ok, List.map_toArray, List.map_cons, List.map_nil, hs, hx, hr]
  exact hK _ _ h

theorem zeroI_cells (n : Nat) : (Builtin.zeroCells (Value.int .i64 0).cells n).size = n := by
  simp [Builtin.zeroCells, Value.cells]

theorem sumT_take {l : List (List Int)} {k : Nat} {r : List Int} (h : l[k]? = some r) : ((l.take (k + 1)).map List.length).sum = ((l.take k).map List.length).sum + r.length := by
  rw [take_get h, List.map_append, List.sum_append]
  simp

theorem sumT_le (l : List (List Int)) (k : Nat) : ((l.take k).map List.length).sum ≤ (l.map List.length).sum := by
  have : (l.map List.length).sum = ((l.take k).map List.length).sum + ((l.drop k).map List.length).sum := by
    rw [← List.sum_append, ← List.map_append, List.take_append_drop]
  omega

theorem flat_len (l : List (List Int)) : l.flatten.length = (l.map List.length).sum := List.length_flatten

end Go.Proofs.YthjghdpiokpnfaaDoor

/- Replace and Above walked. -/
namespace Go.Proofs.YthjghdpiokpnfaaDoor
open Go.RowKit Go.Maps Go.BigFrame

/-- What is wrong with what Replace is asked. -/
def replE (sig : List Sy) (t : List Int) (p : Int) (u : List Int) : Int :=
  if termE sig t = 0 then (if rowE sig u = 0 then (if placeE sig t p = 0 then (if 512 < p.toNat + u.length + (t.length - (p.toNat + nodes sig t p.toNat)) then 2 else 0) else placeE sig t p) else rowE sig u) else termE sig t

def replL (sig : List Sy) (t : List Int) (p : Int) (u : List Int) : List Int := if replE sig t p u = 0 then t.take p.toNat ++ (u ++ t.drop (p.toNat + nodes sig t p.toNat)) else []

theorem repl_none {sig : List Sy} {t u : List Int} {p : Int} (h : replE sig t p u ≠ 0) : replL sig t p u = [] := by
  unfold replL
  rw [if_neg h]

theorem repl_ok {sig : List Sy} {t u : List Int} {k : Nat} (ht : termE sig t = 0) (hu : rowE sig u = 0) (hk : k < t.length) :
    replE sig t k u = (if 512 < k + u.length + (t.length - (k + nodes sig t k)) then 2 else 0) ∧ replL sig t k u = (if 512 < k + u.length + (t.length - (k + nodes sig t k)) then [] else t.take k ++ (u ++ t.drop (k + nodes sig t k))) := by
  have h1 : replE sig t k u = if 512 < k + u.length + (t.length - (k + nodes sig t k)) then 2 else 0 := by
    unfold replE
    rw [if_pos ht, if_pos hu, if_pos (place_in ht hk), Int.toNat_natCast]
  refine ⟨h1, ?_⟩
  unfold replL
  rw [h1, Int.toNat_natCast]
  by_cases h2 : 512 < k + u.length + (t.length - (k + nodes sig t k))
  · rw [if_pos h2, if_pos h2, if_neg (by omega)]
  · rw [if_neg h2, if_neg h2, if_pos rfl]

/-- The end of a row. -/
theorem Is.tail {w : World} {b off cap k : Nat} {t : List Int} (h : Is w (.slice (some ⟨b, off, none⟩) t.length cap) t) (hk : k ≤ t.length) : Is w (.slice (some ⟨b, if cap = k then off else off + k, none⟩) (t.length - k) (cap - k)) (t.drop k) := by
  by_cases he : k = t.length
  · subst he
    rw [List.drop_length, Nat.sub_self]
    obtain ⟨ao, cap', e, h1, h2, h3⟩ := h
    simp only [Value.slice.injEq, true_and] at e
    obtain ⟨_, rfl⟩ := e
    exact Row.nil (by omega)
  · have h1 : t.length ≤ cap := by
      obtain ⟨ao, cap', e, h1, _⟩ := h
      simp only [Value.slice.injEq, true_and] at e
      obtain ⟨_, rfl⟩ := e
      exact h1
    have h2 := h.mid (k := k) (m := t.length - k) (by omega) (by omega)
    rw [List.take_of_length_le (by rw [List.length_drop]; exact Nat.le_refl _)] at h2
    rw [if_neg (by omega)]
    exact h2

/-- The beginning of a row. -/
theorem Is.head {w : World} {b off cap k : Nat} {t : List Int} (h : Is w (.slice (some ⟨b, off, none⟩) t.length cap) t) (hk : k ≤ t.length) : Is w (.slice (some ⟨b, off, none⟩) k cap) (t.take k) := by
  obtain ⟨ao, cap', e, h1, h2, h3⟩ := h
  simp only [Value.slice.injEq, true_and] at e
  obtain ⟨rfl, rfl⟩ := e
  have hl : (t.take k).length = k := by rw [List.length_take]; omega
  refine ⟨some ⟨b, off, none⟩, cap, by rw [hl], by omega, h2, fun h0 => ?_⟩
  rw [hl] at h0
  obtain ⟨g, o, e, hg, hE⟩ := h3 (by omega)
  simp only [Option.some.injEq, Addr.mk.injEq, and_true] at e
  obtain ⟨rfl, rfl⟩ := e
  refine ⟨b, off, rfl, hg, fun j x hj => hE j x ?_⟩
  have := (List.getElem?_eq_some_iff.1 hj).1
  rw [List.getElem?_take_of_lt (by omega)] at hj
  exact hj

end Go.Proofs.YthjghdpiokpnfaaDoor

/- The document's Replace walked. -/
namespace Go.Proofs.YthjghdpiokpnfaaDoor
open Go.RowKit Go.Maps Go.BigFrame

set_option maxRecDepth 100000 in
set_option maxHeartbeats 1600000 in
theorem refReplace_any (sv v uv : Value) (sig : List Sy) (t u : List Int) (p : Int) (w : World) (hs : Sg w sv sig) (h : Is w v t) (hu : Is w uv u) (hb : (t.length + u.length) * 8 ≤ 140737488351232) (hp1 : -9223372036854775808 ≤ p) (hp2 : p ≤ 9223372036854775807) :
    Calls Tryd.prog 18 #[sv, v, .int .i64 p, uv] w fun e w' => ∃ v', e = .returned (.tuple #[v', .int .i64 (replE sig t p u)]) ∧ OwI w' w.heap.size v' (replL sig t p u) ∧ Below w.heap.size w w' := by
  obtain ⟨ao, cap, rfl, hao, hca, _⟩ := Row.flat h
  obtain ⟨uo, uc, rfl, huo, hcu, _⟩ := Row.flat hu
  unfold maxLen at hca hcu
  have HS := hid hs
  have HI := hid h
  have HU := hid hu
  have HP := hid (And.intro hp1 hp2)
  clear hs h hp1 hp2 hu
  go_enter Tryd.func18, Tryd.ntmps18
  go_wp2_with fail
  refine (refCheck_any sv _ sig t w HS.out HI.out (by omega)).mono ?_
  rintro e w1 ⟨rfl, hb1⟩
  have HB1 := hid hb1
  clear hb1
  by_cases hte : termE sig t = 0
  · have HTe := hid hte
    have HUt : Hid (termE sig u = rowE sig u) := by show _ = _; unfold termE; rw [if_pos (term_parts hte).1]
    have HA := hid (sigE_ok (term_parts hte).1)
    rw [hte]
    clear hte
    go_wp2_with fail
    refine (refCheck_any sv _ sig u w1 (HS.out.kp (Kp.of_below HB1.out)) (HU.out.kp (Kp.of_below HB1.out)) (by omega)).mono ?_
    rintro e w2 ⟨rfl, hb2⟩
    have HB2 := hid (below_step HB1.out hb2)
    clear hb2
    rw [HUt.out]
    by_cases hue : rowE sig u = 0
    · have HUe := hid hue
      rw [hue]
      clear hue
      go_wp2_with fail
      refine (refPlace_any sv _ sig t p w2 (HS.out.kp (Kp.of_below HB2.out)) (HI.out.kp (Kp.of_below HB2.out)) (by omega) HP.out.1 HP.out.2).mono ?_
      rintro e w3 ⟨rfl, hb3⟩
      have HB3 := hid (below_step HB2.out hb3)
      clear hb3
      by_cases he : placeE sig t p = 0
      · obtain ⟨_, hrt, k, _, hk, hkl, _⟩ := placeE_ok he
        subst hk
        obtain ⟨n1, n2, n3, _⟩ := at_place HA.out hrt hkl
        obtain ⟨r1, r2⟩ := repl_ok HTe.out HUe.out hkl
        have HR1 := hid r1
        have HR2 := hid r2
        have HN := hid n3
        obtain ⟨n, hn⟩ : ∃ n, n = nodes sig t k := ⟨_, rfl⟩
        rw [← hn] at n1 n2 HR1 HR2 HN
        obtain ⟨b, off, c0, rfl, _⟩ := HI.out.at (k := 0) (by omega)
        -- the three rows joined
        have hI3 := HI.out.kp (Kp.of_below HB3.out)
        obtain ⟨va, w4, hr4, ho4, hg4⟩ := copy_ints 24 (base := w3.heap.size) (g := w3.heap.size) (empty_row (w := w3) 3 (Nat.le_refl _)) ((hI3.head (k := k) (by omega)).kp (Kp.of_below (below_alloc (.cells #[] 3)))) (below_alloc _).size (by rw [List.length_take]; omega)
        have HK4 : Hid (Below w3.heap.size w3 w4) := grown_below (below_alloc _) hg4 (Nat.le_refl _)
        have hltk : (t.take k).length = k := by rw [List.length_take]; omega
        obtain ⟨vb, w5, hr5, ho5, hg5⟩ := join_ints 24 ho4 ((HU.out.kp (Kp.of_below HB3.out)).kp (Kp.of_below HK4.out)) HK4.out.size (by rw [hltk]; omega)
        have HK5 : Hid (Below w3.heap.size w3 w5) := HK4.out.grown hg5 HK4.out.size (fun j hj => own_blk ho4.2 hj)
        obtain ⟨vc, w6, hr6, ho6, hg6⟩ := join_ints 24 ho5 ((hI3.tail (k := k + n) n2).kp (Kp.of_below HK5.out)) HK5.out.size (by rw [List.length_append, hltk, List.length_drop]; omega)
        have HK6 : Hid (Below w3.heap.size w3 w6) := HK5.out.grown hg6 HK5.out.size (fun j hj => own_blk ho5.2 hj)
        obtain ⟨bo, bc, rfl, hbc1, hbc2⟩ := ho6.shape
        have hl6 : (t.take k ++ u ++ t.drop (k + n)).length = k + u.length + (t.length - (k + n)) := by rw [List.length_append, List.length_append, hltk, List.length_drop]
        rw [hl6] at hr6 hbc1 ho6
        unfold maxLen at hbc2
        have HR4 := hid hr4
        have HR5 := hid hr5
        have HO6 : Hid (OwI w6 w.heap.size (.slice bo (k + u.length + (t.length - (k + n))) bc) (t.take k ++ (u ++ t.drop (k + n)))) := by
          rw [← List.append_assoc]
          exact ho6.mono HB3.out.size
        have HB6 := hid (below_step HB3.out HK6.out)
        have HB5 := hid (below_step HB3.out HK5.out)
        have hkc : k ≤ cap := by omega
        have hknc : k + n ≤ cap := by omega
        rw [he]
        clear he hrt n3 r1 r2 hn hI3 hr4 ho4 hg4 hltk hr5 ho5 hg5 ho6 hg6 hl6
        by_cases hcn : cap = k + n
        · subst hcn
          rw [if_pos rfl] at hr6
          have HR6 := hid hr6
          obtain ⟨M, hM⟩ : ∃ M, M = k + u.length + (t.length - (k + n)) := ⟨_, rfl⟩
          rw [← hM] at HR6 HR1 HR2 HO6 hbc1
          clear hr6
          go_wp2_with (first
            | (at_builtin; refine wpList_append_run rfl _ _ _ rfl _ _ rfl rfl HR4.out ?_)
            | (at_builtin; refine wpList_append_run rfl _ _ _ rfl _ _ rfl rfl HR5.out ?_))
          refine (refEnd_any _ _ sig t k n w5 (HS.out.kp (Kp.of_below HB5.out)) (HI.out.kp (Kp.of_below HB5.out)) HA.out (by omega) HN.out).mono ?_
          rintro e w9 ⟨rfl, hw9⟩
          have hw8 := hw9.symm
          subst hw8
          clear hw9 HR4 HR5 hM
          by_cases hbig : 512 < M
          · rw [if_pos hbig] at HR1 HR2
            have hbg : (512 : Int) < (M : Int) := by omega
            go_wp2_with (first
              | (at_builtin; refine wpList_append_run rfl _ _ _ rfl _ _ rfl rfl HR6.out ?_))
            go_ret2
            exact ⟨_, by rw [HR1.out]; rfl, by rw [HR2.out]; exact nilI _ _, HB6.out⟩
          · rw [if_neg hbig] at HR1 HR2
            have hbg : ¬ (512 : Int) < (M : Int) := by omega
            go_wp2_with (first
              | (at_builtin; refine wpList_append_run rfl _ _ _ rfl _ _ rfl rfl HR6.out ?_))
            go_ret2
            exact ⟨_, by rw [HR1.out]; rfl, by rw [HR2.out]; exact HO6.out, HB6.out⟩
        · rw [if_neg hcn] at hr6
          have HR6 := hid hr6
          obtain ⟨M, hM⟩ : ∃ M, M = k + u.length + (t.length - (k + n)) := ⟨_, rfl⟩
          rw [← hM] at HR6 HR1 HR2 HO6 hbc1
          clear hr6
          go_wp2_with (first
            | (at_builtin; refine wpList_append_run rfl _ _ _ rfl _ _ rfl rfl HR4.out ?_)
            | (at_builtin; refine wpList_append_run rfl _ _ _ rfl _ _ rfl rfl HR5.out ?_))
          refine (refEnd_any _ _ sig t k n w5 (HS.out.kp (Kp.of_below HB5.out)) (HI.out.kp (Kp.of_below HB5.out)) HA.out (by omega) HN.out).mono ?_
          rintro e w9 ⟨rfl, hw9⟩
          have hw8 := hw9.symm
          subst hw8
          clear hw9 HR4 HR5 hM
          by_cases hbig : 512 < M
          · rw [if_pos hbig] at HR1 HR2
            have hbg : (512 : Int) < (M : Int) := by omega
            go_wp2_with (first
              | (at_builtin; refine wpList_append_run rfl _ _ _ rfl _ _ rfl rfl HR6.out ?_))
            go_ret2
            exact ⟨_, by rw [HR1.out]; rfl, by rw [HR2.out]; exact nilI _ _, HB6.out⟩
          · rw [if_neg hbig] at HR1 HR2
            have hbg : ¬ (512 : Int) < (M : Int) := by omega
            go_wp2_with (first
              | (at_builtin; refine wpList_append_run rfl _ _ _ rfl _ _ rfl rfl HR6.out ?_))
            go_ret2
            exact ⟨_, by rw [HR1.out]; rfl, by rw [HR2.out]; exact HO6.out, HB6.out⟩
      · have HR1 : Hid (replE sig t p u = placeE sig t p) := by show _ = _; unfold replE; rw [if_pos HTe.out, if_pos HUe.out, if_neg he]
        have HR2 := hid (repl_none (fun h => he (HR1.out.symm.trans h)))
        generalize placeE sig t p = E at he HR1 ⊢
        have heb : (E != 0) = true := by simpa using he
        go_wp2
        go_ret2
        exact ⟨_, by rw [HR1.out]; rfl, by rw [HR2.out]; exact nilI _ _, HB3.out⟩
    · have HR1 : Hid (replE sig t p u = rowE sig u) := by show _ = _; unfold replE; rw [if_pos HTe.out, if_neg hue]
      have HR2 := hid (repl_none (fun h => hue (HR1.out.symm.trans h)))
      clear HUt
      generalize rowE sig u = E at hue HR1 ⊢
      have heb : (E != 0) = true := by simpa using hue
      have heb2 : (E == 0) = false := by simpa using hue
      go_wp2
      go_ret2
      exact ⟨_, by rw [HR1.out]; rfl, by rw [HR2.out]; exact nilI _ _, HB2.out⟩
  · have HR1 : Hid (replE sig t p u = termE sig t) := by show _ = _; unfold replE; rw [if_neg hte]
    have HR2 := hid (repl_none (fun h => hte (HR1.out.symm.trans h)))
    generalize termE sig t = E at hte HR1 ⊢
    have heb : (E != 0) = true := by simpa using hte
    have heb2 : (E == 0) = false := by simpa using hte
    go_wp2
    go_ret2
    exact ⟨_, by rw [HR1.out]; rfl, by rw [HR2.out]; exact nilI _ _, HB1.out⟩

end Go.Proofs.YthjghdpiokpnfaaDoor

/- Terms with a part replaced, plainly. -/
namespace Go.Proofs.YthjghdpiokpnfaaDoor
open Go.RowKit Go.Maps Go.BigFrame

/-- What stands ahead of a place only counts what is missing there. -/
theorem first_pre {sig : List Sy} (ha : ArOk sig) (s : List Int) : ∀ (p : List Int) (m : Int) (j : Nat), 1 ≤ m → s ≠ [] → firstT sig m j (p ++ s) = ((j : Int) + (p ++ s).length, 0) → ∃ m' : Int, 1 ≤ m' ∧ ∀ r : List Int, firstT sig m j (p ++ r) = firstT sig m' (j + p.length) r
  | [], m, j, hm, _, _ => ⟨m, hm, fun r => rfl⟩
  | c :: p, m, j, hm, hs, h => by
    rw [List.cons_append, firstT_cons] at h
    cases hc : codeD sig c with
    | none => rw [hc] at h; simp at h
    | some e =>
      have he := codeD_ge ha hc
      rw [hc] at h
      simp only at h
      by_cases h0 : m + e = 0
      · rw [if_pos h0] at h
        have h1 := congrArg Prod.fst h
        have h2 : 0 < s.length := by
          cases s with
          | nil => exact absurd rfl hs
          | cons a s => simp
        simp only [List.length_cons, List.length_append] at h1
        omega
      · rw [if_neg h0] at h
        obtain ⟨m', h1, h2⟩ := first_pre ha s p (m + e) (j + 1) (by omega) hs (by rw [h]; simp only [List.length_cons, Prod.mk.injEq, and_true]; omega)
        refine ⟨m', h1, fun r => ?_⟩
        rw [List.cons_append, firstT_cons, hc]
        simp only
        rw [if_neg h0, h2 r, List.length_cons]
        congr 1
        omega

theorem first_move {sig : List Sy} : ∀ (r : List Int) (m : Int) (i j : Nat) (n : Nat), firstT sig m i r = ((i : Int) + n, 0) → firstT sig m j r = ((j : Int) + n, 0)
  | [], m, i, j, n, h => by simp [firstT] at h
  | c :: r, m, i, j, n, h => by
    rw [firstT_cons] at h ⊢
    cases hc : codeD sig c with
    | none => rw [hc] at h; simp at h
    | some e =>
      rw [hc] at h
      simp only at h ⊢
      by_cases h0 : m + e = 0
      · rw [if_pos h0] at h ⊢
        have := congrArg Prod.fst h
        simp only at this
        simp only [Prod.mk.injEq, and_true]
        omega
      · rw [if_neg h0] at h ⊢
        cases n with
        | zero =>
          exfalso
          obtain ⟨k, h1, h2, _⟩ := first_take r (m + e) (i + 1) _ h
          omega
        | succ n =>
          have := first_move r (m + e) (i + 1) (j + 1) n (by rw [h]; simp only [Prod.mk.injEq, and_true]; omega)
          rw [this]
          simp only [Prod.mk.injEq, and_true]
          omega

theorem right_len {sig : List Sy} {u : List Int} (h : rowE sig u = 0) : 0 < u.length := by
  cases u with
  | nil => simp [rowE, firstT] at h
  | cons c u => simp

/-- A right term with a right part replaced by a right term is one. -/
theorem right_mid {sig : List Sy} (ha : ArOk sig) {p v u q : List Int} (h : rowE sig (p ++ (v ++ q)) = 0) (hv : rowE sig v = 0) (hu : rowE sig u = 0) : rowE sig (p ++ (u ++ q)) = 0 := by
  have hvl := right_len hv
  have hvn : v ++ q ≠ [] := by
    intro e
    have := congrArg List.length e
    simp at this
    simp [this.1] at hvl
  have h1 := row_first.1 h
  obtain ⟨m', hm, hp⟩ := first_pre ha (v ++ q) p 1 0 (by omega) hvn (by rw [h1]; simp)
  rw [hp, first_app ha v 1 0 (by omega) (by rw [row_first.1 hv]; simp) m' _ q hm] at h1
  rw [row_first, hp, first_app ha u 1 0 (by omega) (by rw [row_first.1 hu]; simp) m' _ q hm]
  by_cases h0 : m' = 1
  · rw [if_pos h0] at h1 ⊢
    have h2 := congrArg Prod.fst h1
    simp only [List.length_append] at h2 ⊢
    simp only [Prod.mk.injEq, and_true]
    omega
  · rw [if_neg h0] at h1 ⊢
    rw [first_move q (m' - 1) (0 + p.length + v.length) (0 + p.length + u.length) q.length (by rw [h1]; simp only [List.length_append, Prod.mk.injEq, and_true]; omega)]
    simp only [List.length_append, Prod.mk.injEq, and_true]
    omega

theorem term_of {sig : List Sy} {t u : List Int} (h : termE sig t = 0) (hu : rowE sig u = 0) : termE sig u = 0 := by
  unfold termE
  rw [if_pos (term_parts h).1]
  exact hu

theorem nodes_mid {sig : List Sy} {p v q : List Int} (hv : rowE sig v = 0) : nodes sig (p ++ (v ++ q)) p.length = v.length := by
  have := nodes_behind (sig := sig) p (v ++ q) 0
  rw [Nat.add_zero] at this
  rw [this]
  unfold nodes
  rw [List.drop_zero, first_right hv]
  simp

/-- Replace, of a term that is taken apart. -/
theorem repl_mid {sig : List Sy} {p v u q : List Int} (h : termE sig (p ++ (v ++ q)) = 0) (hv : rowE sig v = 0) (hu : rowE sig u = 0) :
    replE sig (p ++ (v ++ q)) p.length u = (if 512 < p.length + u.length + q.length then 2 else 0) ∧ replL sig (p ++ (v ++ q)) p.length u = (if 512 < p.length + u.length + q.length then [] else p ++ (u ++ q)) := by
  have hvl := right_len hv
  have h1 := repl_ok h hu (k := p.length) (by simp only [List.length_append]; omega)
  rw [nodes_mid hv] at h1
  have h2 : (p ++ (v ++ q)).length - (p.length + v.length) = q.length := by simp only [List.length_append]; omega
  have h3 : (p ++ (v ++ q)).drop (p.length + v.length) = q := by rw [← List.append_assoc, ← List.length_append, List.drop_left]
  rw [h2, h3, List.take_left] at h1
  exact h1

/-- A right term taken apart at a place. -/
theorem split_place {sig : List Sy} {t : List Int} (h : termE sig t = 0) {k : Nat} (hk : k < t.length) : ∃ p v q, t = p ++ (v ++ q) ∧ p.length = k ∧ v.length = nodes sig t k ∧ rowE sig v = 0 := by
  obtain ⟨hs, hr⟩ := term_parts h
  obtain ⟨h1, h2, h3, h4⟩ := at_place (sigE_ok hs) hr hk
  refine ⟨t.take k, (t.drop k).take (nodes sig t k), (t.drop k).drop (nodes sig t k), ?_, ?_, ?_, h4⟩
  · rw [List.take_append_drop, List.take_append_drop]
  · rw [List.length_take]; omega
  · rw [List.length_take, List.length_drop]; omega

/-- A second place, behind the first one and not below it. -/
theorem split_second {sig : List Sy} {p v r : List Int} (h : termE sig (p ++ (v ++ r)) = 0) {k : Nat} (hk : k < (p ++ (v ++ r)).length) (hv : p.length + v.length ≤ k) :
    ∃ m x q, r = m ++ (x ++ q) ∧ p.length + v.length + m.length = k ∧ rowE sig x = 0 := by
  obtain ⟨p2, x, q, h1, h2, _, h4⟩ := split_place h hk
  have h5 : p2 = p ++ v ++ r.take (k - (p.length + v.length)) := by
    have := congrArg (List.take k) h1
    rw [← h2, List.take_left, h2] at this
    rw [← this, ← List.append_assoc, List.take_append, List.length_append, List.take_of_length_le (by rw [List.length_append]; omega)]
  refine ⟨r.take (k - (p.length + v.length)), x, q, ?_, ?_, h4⟩
  · rw [h5, List.append_assoc, List.append_assoc] at h1
    exact List.append_cancel_left (List.append_cancel_left h1)
  · have h6 := congrArg List.length h5
    rw [List.length_append, List.length_append, h2] at h6
    exact h6.symm

end Go.Proofs.YthjghdpiokpnfaaDoor
