/- Texts of the proof, one behind the other. -/
import Derived.Test.YtcoaabgaolblfaaDoorOwn10
import Derived.Test.YtcoaabgaolblfaaDoorOwn4
import Derived.Test.YtcoaabgaolblfaaDoorOwn11
import Derived.Test.YtcoaabgaolblfaaDoorOwn8
/- The path order on rows: plain. -/
namespace Go.Proofs.YtcoaabgaolblfaaDoor
open Go.RowKit Go.Maps

theorem may_of {sig : List Sy} {t : List Int} (h1 : t.length ≤ 512) (h2 : termE sig t = 0) : mayB sig t = true := by
  unfold mayB
  rw [decide_eq_true h1, decide_eq_true h2]
  rfl

theorem may_tree {sig : List Sy} {t : List Int} (h : mayB sig t = true) : ∃ x, growE sig t = [x] ∧ x.row = t ∧ WfT sig x := by
  obtain ⟨_, h1, h2⟩ := may_parts h
  exact growE_one (sigE_ok h1) h2

theorem may_term {sig : List Sy} {t : List Int} (h : mayB sig t = true) : termE sig t = 0 ∧ t.length ≤ 512 := by
  obtain ⟨h1, h2, h3⟩ := may_parts h
  unfold termE
  rw [if_pos h2]
  exact ⟨h3, h1⟩

theorem gr_may {sig : List Sy} {ps : List (Int × Int)} {s t : List Int} (h : grB sig ps s t = true) : mayB sig s = true ∧ mayB sig t = true := by
  cases h1 : mayB sig s with
  | false => rw [gr_no (fun h9 => by rw [h1] at h9; cases h9.1)] at h; cases h
  | true =>
    cases h2 : mayB sig t with
    | false => rw [gr_no (fun h9 => by rw [h2] at h9; cases h9.2)] at h; cases h
    | true => exact ⟨rfl, rfl⟩

theorem gr_own {sig : List Sy} {ps : List (Int × Int)} (hc : ∀ i, ¬ Up ps i i) (s : List Int) : grB sig ps s s = false := by
  cases h : grB sig ps s s with
  | false => rfl
  | true =>
    obtain ⟨h1, _⟩ := gr_may h
    obtain ⟨x, hx, _, _⟩ := may_tree h1
    exact absurd ((gr_yes h1 h1 hx hx).1 h) (LG.no hc x)

theorem gr_trans {sig : List Sy} {ps : List (Int × Int)} {a b c : List Int} (h1 : grB sig ps a b = true) (h2 : grB sig ps b c = true) : grB sig ps a c = true := by
  obtain ⟨ha, hb⟩ := gr_may h1
  obtain ⟨_, hc⟩ := gr_may h2
  obtain ⟨x, hx, _, _⟩ := may_tree ha
  obtain ⟨y, hy, _, _⟩ := may_tree hb
  obtain ⟨z, hz, _, _⟩ := may_tree hc
  exact (gr_yes ha hc hx hz).2 (LG.trans (abB_tr ps) _ (Nat.le_refl _) ((gr_yes ha hb hx hy).1 h1) ((gr_yes hb hc hy hz).1 h2))

theorem gr_not2 {sig : List Sy} {ps : List (Int × Int)} (hc : ∀ i, ¬ Up ps i i) {a b : List Int} (h : grB sig ps a b = true) : grB sig ps b a = false := by
  cases h2 : grB sig ps b a with
  | false => rfl
  | true =>
    have := gr_trans h h2
    rw [gr_own hc] at this
    cases this

/-- A tree that stands in a row is below what is made of it. -/
theorem sub_stack {ab : Int → Int → Bool} {sig : List Sy} {y : Te} (hy : WfT sig y) (q : List Int) : ∀ p : List Int, ∃ z ∈ growE sig (p ++ (y.row ++ q)), z = y ∨ LG ab z y
  | [] => ⟨y, by rw [List.nil_append, grow_row y hy]; simp, .inl rfl⟩
  | c :: p => by
    obtain ⟨z, hz, h⟩ := sub_stack (ab := ab) hy q p
    show ∃ z ∈ growStepE sig (growE sig (p ++ (y.row ++ q))) c, _
    unfold growStepE
    split
    · exact ⟨z, List.mem_append_left _ hz, h⟩
    · rw [← List.take_append_drop ((growE sig (p ++ (y.row ++ q))).length - arN sig c) (growE sig (p ++ (y.row ++ q)))] at hz
      rcases List.mem_append.1 hz with hz | hz
      · exact ⟨z, List.mem_append_left _ hz, h⟩
      · refine ⟨_, List.mem_append_right _ (List.mem_singleton.2 rfl), .inr ?_⟩
        rcases h with rfl | h
        · exact .part (List.mem_reverse.2 hz)
        · exact .down (List.mem_reverse.2 hz) h

/-- A term is greater than each of its proper parts. -/
theorem gr_part {sig : List Sy} {ps : List (Int × Int)} {t p u q : List Int} (ht : mayB sig t = true) (hu : rowE sig u = 0) (he : t = p ++ (u ++ q)) (hp : p ≠ []) : grB sig ps t u = true := by
  obtain ⟨hl, hs, hr⟩ := may_parts ht
  have hul : u.length ≤ 512 := by rw [he, List.length_append, List.length_append] at hl; omega
  have hmu : mayB sig u = true := may_of hul (by unfold termE; rw [if_pos hs, hu])
  obtain ⟨x, hx, hxr, _⟩ := may_tree ht
  obtain ⟨y, hy, hyr, wy⟩ := may_tree hmu
  refine (gr_yes ht hmu hx hy).2 ?_
  obtain ⟨z, hz, h⟩ := sub_stack (ab := abB ps) wy q p
  rw [hyr, ← he, hx, List.mem_singleton] at hz
  subst hz
  refine h.resolve_left (fun e => ?_)
  subst e
  have h1 := congrArg List.length he
  rw [← hxr, hyr, List.length_append, List.length_append] at h1
  have := List.length_pos_iff.2 hp
  omega

/-- More pairs take nothing away. -/
theorem gr_more {sig : List Sy} {ps qs : List (Int × Int)} (h : ∀ x ∈ ps, x ∈ qs) {s t : List Int} (hg : grB sig ps s t = true) : grB sig qs s t = true := by
  obtain ⟨h1, h2⟩ := gr_may hg
  obtain ⟨x, hx, _, _⟩ := may_tree h1
  obtain ⟨y, hy, _, _⟩ := may_tree h2
  refine (gr_yes h1 h2 hx hy).2 (LG.more (fun f g hab => ?_) ((gr_yes h1 h2 hx hy).1 hg))
  rw [abB_iff] at hab ⊢
  exact ⟨hab.1, hab.2.1, Up.mono h hab.2.2⟩

/-- Kept by what stands around. -/
theorem gr_round {sig : List Sy} {ps : List (Int × Int)} {p q s t : List Int} (hg : grB sig ps s t = true) (h1 : mayB sig (p ++ (s ++ q)) = true) (h2 : mayB sig (p ++ (t ++ q)) = true) : grB sig ps (p ++ (s ++ q)) (p ++ (t ++ q)) = true := by
  obtain ⟨hs, ht⟩ := gr_may hg
  obtain ⟨x, hx, hxr, wx⟩ := may_tree hs
  obtain ⟨y, hy, hyr, wy⟩ := may_tree ht
  obtain ⟨u, hu, _, _⟩ := may_tree h1
  obtain ⟨v, hv, _, _⟩ := may_tree h2
  refine (gr_yes h1 h2 hu hv).2 (round_rows wx wy ((gr_yes hs ht hx hy).1 hg) (p := p) (q := q) ?_ ?_)
  · rw [hxr]; exact hu
  · rw [hyr]; exact hv

mutual
/-- A tree laid is the row laid. -/
theorem lay_row {sig : List Sy} (F : Int → Te) (P : Int → List Int) (hP : ∀ c, ¬ c < 0 → P c = [c]) : ∀ x : Te, WfT sig x → (∀ c ∈ x.row, c < 0 → (F c).row = P c ∧ WfT sig (F c)) → (x.lay F).row = x.row.flatMap P ∧ WfT sig (x.lay F)
  | .v c, hw, h => by
    cases hw with
    | v hc =>
      obtain ⟨h1, h2⟩ := h c (by simp [Te.row]) hc
      simp only [Te.lay, Te.row, List.flatMap_cons, List.flatMap_nil, List.append_nil]
      exact ⟨h1, h2⟩
  | .a c ts, hw, h => by
    cases hw with
    | a hc hl hts =>
      obtain ⟨h1, h2, h3⟩ := lay_rows F P hP ts hts (fun d hd => h d (by simp [Te.row, hd]))
      simp only [Te.lay, Te.row, List.flatMap_cons, hP c hc]
      exact ⟨by rw [h1]; rfl, .a hc (by rw [h3, hl]) h2⟩
theorem lay_rows {sig : List Sy} (F : Int → Te) (P : Int → List Int) (hP : ∀ c, ¬ c < 0 → P c = [c]) : ∀ ts : List Te, (∀ x ∈ ts, WfT sig x) → (∀ c ∈ rowL ts, c < 0 → (F c).row = P c ∧ WfT sig (F c)) → rowL (layT F ts) = (rowL ts).flatMap P ∧ (∀ x ∈ layT F ts, WfT sig x) ∧ (layT F ts).length = ts.length
  | [], _, _ => ⟨rfl, fun x hx => (by cases hx), rfl⟩
  | x :: ts, hw, h => by
    obtain ⟨a1, a2⟩ := lay_row F P hP x (hw x (List.mem_cons_self ..)) (fun c hc => h c (by simp [rowL, hc]))
    obtain ⟨b1, b2, b3⟩ := lay_rows F P hP ts (fun y hy => hw y (List.mem_cons_of_mem _ hy)) (fun c hc => h c (by simp [rowL, hc]))
    simp only [layT, rowL, List.flatMap_append, a1, b1, List.length_cons, b3, and_true, true_and]
    intro y hy
    rcases List.mem_cons.1 hy with rfl | hy
    · exact a2
    · exact b2 y hy
end

theorem grow_laid {sig : List Sy} (F : Int → Te) (P : Int → List Int) (hP : ∀ c, ¬ c < 0 → P c = [c]) {x : Te} (hx : WfT sig x) (h : ∀ c ∈ x.row, c < 0 → (F c).row = P c ∧ WfT sig (F c)) : growE sig (x.row.flatMap P) = [x.lay F] := by
  obtain ⟨h1, h2⟩ := lay_row F P hP x hx h
  have h3 := grow_row _ h2 []
  rw [List.append_nil, h1] at h3
  rw [h3]
  rfl

theorem row_codeL {sig : List Sy} {t : List Int} (h : rowE sig t = 0) : ∀ c ∈ t, codeD sig c ≠ none := first_codes t 1 0 (by rw [row_first.1 h]; simp)

theorem var_rowL {sig : List Sy} {c : Int} (h : codeD sig c ≠ none) (hc : c < 0) : rowE sig [c] = 0 := by
  have h1 : ¬ c < -1048576 := fun h9 => h (codeD_none (.inr h9))
  unfold rowE firstT
  rw [codeD_var (by omega) hc]
  simp

/-- Kept by binds. -/
theorem gr_laid {sig : List Sy} {ps : List (Int × Int)} {r : List Bd} {s t : List Int} (hg : grB sig ps s t = true) (h1 : applyE sig r s = 0) (h2 : applyE sig r t = 0) : grB sig ps (applyL sig r s) (applyL sig r t) = true := by
  obtain ⟨hs, ht⟩ := gr_may hg
  obtain ⟨hb, ts, ls, es⟩ := apply_ok h1
  obtain ⟨_, tt, lt, et⟩ := apply_ok h2
  obtain ⟨_, hsig, rs⟩ := may_parts hs
  obtain ⟨_, _, rt⟩ := may_parts ht
  obtain ⟨x, hx, hxr, wx⟩ := may_tree hs
  obtain ⟨y, hy, hyr, wy⟩ := may_tree ht
  have m1 : mayB sig (laidL (bnd r) s) = true := may_of ls (term_laid hb ts)
  have m2 : mayB sig (laidL (bnd r) t) = true := may_of lt (term_laid hb tt)
  have hF : ∀ c, c < 0 → codeD sig c ≠ none → (((growE sig (piece (bnd r) c)).head?).getD (.v c)).row = piece (bnd r) c ∧ WfT sig (((growE sig (piece (bnd r) c)).head?).getD (.v c)) := fun c hc hcd => by
    have hr : rowE sig (piece (bnd r) c) = 0 := by
      unfold piece
      rw [if_pos hc]
      cases h : bnd r (-1 - c) with
      | none => exact var_rowL hcd hc
      | some u => exact bnd_right hb _ u h
    obtain ⟨z, hz, hzr, wz⟩ := growE_one (sigE_ok hsig) hr
    rw [hz]
    exact ⟨hzr, wz⟩
  have hP : ∀ c : Int, ¬ c < 0 → piece (bnd r) c = [c] := fun c hc => by unfold piece; rw [if_neg hc]
  have g1 := grow_laid (fun c => ((growE sig (piece (bnd r) c)).head?).getD (.v c)) (piece (bnd r)) hP wx (fun c hc h0 => hF c h0 (row_codeL rs c (hxr ▸ hc)))
  have g2 := grow_laid (fun c => ((growE sig (piece (bnd r) c)).head?).getD (.v c)) (piece (bnd r)) hP wy (fun c hc h0 => hF c h0 (row_codeL rt c (hyr ▸ hc)))
  rw [hxr] at g1
  rw [hyr] at g2
  rw [es, et]
  exact (gr_yes m1 m2 g1 g2).2 (((gr_yes hs ht hx hy).1 hg).laid _)

mutual
theorem lay_back {sig : List Sy} {F G : Int → Te} : ∀ {x : Te}, WfT sig x → (∀ c ∈ x.row, c < 0 → (F c).lay G = .v c) → (x.lay F).lay G = x
  | .v c, hw, h => by
    cases hw with
    | v hc => simp only [Te.lay]; exact h c (by simp [Te.row]) hc
  | .a c ts, hw, h => by
    cases hw with
    | a _ _ hts => simp only [Te.lay, lay_backs hts (fun d hd => h d (by simp [Te.row, hd]))]
theorem lay_backs {sig : List Sy} {F G : Int → Te} : ∀ {ts : List Te}, (∀ x ∈ ts, WfT sig x) → (∀ c ∈ rowL ts, c < 0 → (F c).lay G = .v c) → layT G (layT F ts) = ts
  | [], _, _ => rfl
  | x :: ts, hw, h => by simp only [layT, lay_back (hw x (List.mem_cons_self ..)) (fun c hc => h c (by simp [rowL, hc])), lay_backs (fun y hy => hw y (List.mem_cons_of_mem _ hy)) (fun c hc => h c (by simp [rowL, hc]))]
end

theorem mov_flatL (d : Int) (t : List Int) : movL d t = t.flatMap fun c => [if c < 0 then c - d else c] := by
  unfold movL
  rw [List.map_eq_flatMap]

/-- Variables are nothing but names. -/
theorem gr_named {sig : List Sy} {ps : List (Int × Int)} {d : Int} {s t : List Int} (hs : mayB sig s = true) (ht : mayB sig t = true) (o1 : okShift d s = true) (o2 : okShift d t = true) : mayB sig (movL d s) = true ∧ mayB sig (movL d t) = true ∧ grB sig ps (movL d s) (movL d t) = grB sig ps s t := by
  obtain ⟨x, hx, hxr, wx⟩ := may_tree hs
  obtain ⟨y, hy, hyr, wy⟩ := may_tree ht
  obtain ⟨es, ls⟩ := may_term hs
  obtain ⟨et, lt⟩ := may_term ht
  have m1 : mayB sig (movL d s) = true := may_of (by unfold movL; rw [List.length_map]; exact ls) (mov_term o1 es)
  have m2 : mayB sig (movL d t) = true := may_of (by unfold movL; rw [List.length_map]; exact lt) (mov_term o2 et)
  refine ⟨m1, m2, ?_⟩
  have key : ∀ {u : List Int}, okShift d u = true → ∀ c ∈ u, c < 0 → (if c < 0 then c - d else c) < 0 := fun {u} ho c hc h0 => by
    unfold okShift at ho
    rw [List.all_eq_true] at ho
    have h9 := ho c hc
    simp only [h0, decide_true, Bool.not_true, Bool.false_or] at h9
    have := isVarB_iff.1 h9
    rw [if_pos h0]
    omega
  have hP : ∀ c : Int, ¬ c < 0 → [if c < 0 then c - d else c] = [c] := fun c hc => by rw [if_neg hc]
  have hF : ∀ {u : List Int}, okShift d u = true → ∀ c ∈ u, c < 0 → (Te.v (if c < 0 then c - d else c)).row = [if c < 0 then c - d else c] ∧ WfT sig (.v (if c < 0 then c - d else c)) := fun {u} ho c hc h0 => ⟨rfl, .v (key ho c hc h0)⟩
  have g1 := grow_laid (fun c => Te.v (if c < 0 then c - d else c)) (fun c => [if c < 0 then c - d else c]) hP wx (fun c hc h0 => hF o1 c (hxr ▸ hc) h0)
  have g2 := grow_laid (fun c => Te.v (if c < 0 then c - d else c)) (fun c => [if c < 0 then c - d else c]) hP wy (fun c hc h0 => hF o2 c (hyr ▸ hc) h0)
  rw [hxr, ← mov_flatL] at g1
  rw [hyr, ← mov_flatL] at g2
  rw [Bool.eq_iff_iff, gr_yes m1 m2 g1 g2, gr_yes hs ht hx hy]
  constructor
  · intro h
    have h2 := h.laid (fun c => .v (c + d))
    have back : ∀ {u : List Int} {z : Te}, okShift d u = true → z.row = u → WfT sig z → (z.lay fun c => Te.v (if c < 0 then c - d else c)).lay (fun c => .v (c + d)) = z := fun {u z} ho hz wz => by
      refine lay_back wz (fun c hc h0 => ?_)
      simp only [Te.lay, Te.v.injEq]
      rw [if_pos h0]
      omega
    rw [back o1 hxr wx, back o2 hyr wy] at h2
    exact h2
  · exact fun h => h.laid _

end Go.Proofs.YtcoaabgaolblfaaDoor

/- The document's table of layer 11: plain. -/
namespace Go.Proofs.YtcoaabgaolblfaaDoor

/-- The tree that stands at a place. -/
def tA (sig : List Sy) (s : List Int) (i : Nat) : Te := ((growE sig (s.drop i)).getLast?).getD (.v 0)

theorem tA_eq {sig : List Sy} {s : List Int} {i : Nat} {x : Te} (hw : WfT sig x) (h : AtP s x i) : tA sig s i = x := by
  obtain ⟨r, hr⟩ := h
  unfold tA
  rw [hr, grow_row x hw]
  simp

/-- Each place has its tree. -/
theorem tA_ok {sig : List Sy} (ha : ArOk sig) {s : List Int} (h : rowE sig s = 0) {i : Nat} (hi : i < s.length) :
    WfT sig (tA sig s i) ∧ AtP s (tA sig s i) i ∧ firstT sig 1 0 (s.drop i) = (((tA sig s i).size : Int), 0) := by
  obtain ⟨h1, h2, h3, h4⟩ := at_place ha h hi
  obtain ⟨x, _, x2, x3⟩ := growE_one ha h4
  have hp : AtP s x i := ⟨(s.drop i).drop (nodes sig s i), by rw [x2, List.take_append_drop]⟩
  have hx := tA_eq x3 hp
  rw [hx]
  refine ⟨x3, hp, ?_⟩
  rw [h3, ← size_row, x2, List.length_take, List.length_drop, Nat.min_eq_left (by omega)]

mutual
theorem shape_size : ∀ x : Te, x.shape.size = x.size
  | .v _ => rfl
  | .a _ ts => by simp only [Te.shape, Tr.size, Te.size, shape_sizes ts]
theorem shape_sizes : ∀ ts : List Te, sizes (shapeL ts) = sizeL ts
  | [] => rfl
  | t :: ts => by simp only [shapeL, sizes, sizeL, shape_size t, shape_sizes ts]
end

theorem kidsGo_get : ∀ {ts : List Te} {p k : Nat} {z : Te}, ts[k]? = some z → (kidsGo p (shapeL ts))[k]? = some ((p + sizeL (ts.take k) : Nat) : Int)
  | [], p, k, z, h => by simp at h
  | t :: ts, p, 0, z, h => by simp [shapeL, kidsGo, sizeL]
  | t :: ts, p, k + 1, z, h => by
    rw [List.getElem?_cons_succ] at h
    simp only [shapeL, kidsGo, List.getElem?_cons_succ, List.take_succ_cons, sizeL]
    rw [kidsGo_get h, shape_size, Nat.add_assoc]

theorem kids_shape {sig : List Sy} {s : List Int} {i : Nat} (h : placeE sig s i = 0) : kidsL sig s i = kidsR i (tA sig s i).shape := by
  obtain ⟨ha, hr, k, m, hk, hkl, hm1, hend, hkm, hsub, hrow⟩ := placeE_ok h
  obtain rfl : i = k := by omega
  obtain ⟨x, x1, x2, x3⟩ := growE_one ha hrow
  have hp : AtP s x i := ⟨(s.drop i).drop m, by rw [x2, List.take_append_drop]⟩
  rw [tA_eq x3 hp]
  unfold kidsL
  rw [hsub, ← growE_shape, x1]
  simp

/-- A variable has no arguments; those of a symbol are trees behind it. -/
theorem kids_v {sig : List Sy} {s : List Int} {i : Nat} (h : placeE sig s i = 0) {c : Int} (hx : tA sig s i = .v c) : kidsL sig s i = [] := by
  rw [kids_shape h, hx]
  rfl

theorem kids_a {sig : List Sy} {s : List Int} {i : Nat} (h : placeE sig s i = 0) {c : Int} {ts : List Te} (hx : tA sig s i = .a c ts) :
    (kidsL sig s i).length = ts.length ∧ ∀ (k : Nat) (z : Te), ts[k]? = some z → ∃ p : Nat, (kidsL sig s i)[k]? = some (p : Int) ∧ i < p ∧ p < s.length ∧ tA sig s p = z := by
  obtain ⟨ha, hr, k, m, hk, hkl, _⟩ := placeE_ok h
  obtain rfl : i = k := by omega
  obtain ⟨hw, hp, _⟩ := tA_ok ha hr hkl
  rw [hx] at hw hp
  rw [kids_shape h, hx]
  refine ⟨by simp [Te.shape, kidsR, kidsGo_len, shapeL_map], fun k z hz => ⟨i + 1 + sizeL (ts.take k), ?_, by omega, ?_, ?_⟩⟩
  · simp only [Te.shape, kidsR]
    exact kidsGo_get hz
  · have h1 := (hp.kid hz).len
    have h2 := size_pos z
    omega
  · refine tA_eq ?_ (hp.kid hz)
    cases hw with
    | a _ _ h3 => exact h3 z (List.mem_of_getElem? hz)

/-- What a place has of the tree's head. -/
theorem tA_head {sig : List Sy} (ha : ArOk sig) {s : List Int} (h : rowE sig s = 0) {i : Nat} {c : Int} (hc : s[i]? = some c) :
    (c < 0 ∧ tA sig s i = .v c) ∨ (¬ c < 0 ∧ ∃ ts, tA sig s i = .a c ts ∧ ts.length = arN sig c) := by
  obtain ⟨hi, _⟩ := List.getElem?_eq_some_iff.1 hc
  obtain ⟨hw, ⟨r, hr⟩, _⟩ := tA_ok ha h hi
  rw [drop_get hc] at hr
  generalize tA sig s i = x at hw hr ⊢
  cases hw with
  | v h1 =>
    simp only [Te.row, List.cons_append, List.cons.injEq] at hr
    rw [← hr.1] at h1 ⊢
    exact .inl ⟨h1, rfl⟩
  | a h1 h2 _ =>
    simp only [Te.row, List.cons_append, List.cons.injEq] at hr
    rw [← hr.1] at h1 h2 ⊢
    exact .inr ⟨h1, _, rfl, h2⟩

/-- Rows from a place to its end are the trees' rows. -/
theorem tA_same {sig : List Sy} (ha : ArOk sig) {s t : List Int} (hs : rowE sig s = 0) (ht : rowE sig t = 0) {i j : Nat} (hi : i < s.length) (hj : j < t.length) :
    (s.drop i).take (tA sig s i).size = (t.drop j).take (tA sig t j).size ↔ tA sig s i = tA sig t j := by
  obtain ⟨w1, p1, _⟩ := tA_ok ha hs hi
  obtain ⟨w2, p2, _⟩ := tA_ok ha ht hj
  rw [p1.take, p2.take]
  exact ⟨fun h => wf_inj w1 w2 h, fun h => by rw [h]⟩

theorem place_ok {sig : List Sy} (ha : ArOk sig) {s : List Int} (h : termE sig s = 0) {i : Nat} (hi : i < s.length) : placeE sig s i = 0 := by
  have hr := (term_parts h).2
  obtain ⟨_, _, h3, _⟩ := at_place ha hr hi
  unfold placeE endP
  rw [if_pos h, if_neg (by omega), Int.toNat_natCast, h3]

/-- The five ways of the definition, at places. -/
structure TabO (sig : List Sy) (ab : Int → Int → Bool) (s t : List Int) (i j : Nat) (a b : List Int) (c d : Int) : Prop where
  low : c < 0 → ¬ LG ab (tA sig s i) (tA sig t j)
  part : ∀ (k p : Nat), a[k]? = some (p : Int) → (tA sig s p = tA sig t j ∨ LG ab (tA sig s p) (tA sig t j)) → LG ab (tA sig s i) (tA sig t j)
  right : d < 0 → (∀ (k p : Nat), a[k]? = some (p : Int) → ¬ (tA sig s p = tA sig t j ∨ LG ab (tA sig s p) (tA sig t j))) → ¬ LG ab (tA sig s i) (tA sig t j)
  up : ¬ c < 0 → ¬ d < 0 → (∀ (k p : Nat), a[k]? = some (p : Int) → ¬ (tA sig s p = tA sig t j ∨ LG ab (tA sig s p) (tA sig t j))) → ab c d = true → (LG ab (tA sig s i) (tA sig t j) ↔ ∀ (k q : Nat), b[k]? = some (q : Int) → LG ab (tA sig s i) (tA sig t q))
  unlike : ¬ c < 0 → ¬ d < 0 → (∀ (k p : Nat), a[k]? = some (p : Int) → ¬ (tA sig s p = tA sig t j ∨ LG ab (tA sig s p) (tA sig t j))) → ab c d = false → c ≠ d → ¬ LG ab (tA sig s i) (tA sig t j)
  len : ¬ c < 0 → c = d → a.length = b.length
  lexNo : ¬ c < 0 → c = d → (∀ (k p : Nat), a[k]? = some (p : Int) → ¬ (tA sig s p = tA sig t j ∨ LG ab (tA sig s p) (tA sig t j))) → (∀ (k p q : Nat), a[k]? = some (p : Int) → b[k]? = some (q : Int) → tA sig s p = tA sig t q) → ¬ LG ab (tA sig s i) (tA sig t j)
  lex : ¬ c < 0 → c = d → (∀ (k p : Nat), a[k]? = some (p : Int) → ¬ (tA sig s p = tA sig t j ∨ LG ab (tA sig s p) (tA sig t j))) → ∀ k0 p0 q0 : Nat, (∀ (k p q : Nat), k < k0 → a[k]? = some (p : Int) → b[k]? = some (q : Int) → tA sig s p = tA sig t q) → a[k0]? = some (p0 : Int) → b[k0]? = some (q0 : Int) → tA sig s p0 ≠ tA sig t q0 →
    (LG ab (tA sig s i) (tA sig t j) ↔ LG ab (tA sig s p0) (tA sig t q0) ∧ ∀ (k q : Nat), b[k]? = some (q : Int) → LG ab (tA sig s i) (tA sig t q))
  ka : ∀ (k : Nat) (p : Int), a[k]? = some p → ∃ P : Nat, p = P ∧ i < P ∧ P < s.length
  kb : ∀ (k : Nat) (p : Int), b[k]? = some p → ∃ P : Nat, p = P ∧ j < P ∧ P < t.length

/-- Arguments by places. -/
theorem kids_to {sig : List Sy} {s : List Int} {i : Nat} (h : placeE sig s i = 0) {c : Int} {ts : List Te} (hx : tA sig s i = .a c ts) {k p : Nat} (hk : (kidsL sig s i)[k]? = some (p : Int)) : ts[k]? = some (tA sig s p) := by
  obtain ⟨h1, h2⟩ := kids_a h hx
  obtain ⟨hl, _⟩ := List.getElem?_eq_some_iff.1 hk
  obtain ⟨z, hz⟩ : ∃ z, ts[k]? = some z := ⟨_, List.getElem?_eq_getElem (by omega)⟩
  obtain ⟨q, q1, _, _, q4⟩ := h2 k z hz
  rw [hk] at q1
  simp only [Option.some.injEq, Int.natCast_inj] at q1
  subst q1
  rw [hz, q4]

theorem kids_of {sig : List Sy} {s : List Int} {i : Nat} (h : placeE sig s i = 0) {c : Int} {ts : List Te} (hx : tA sig s i = .a c ts) {z : Te} (hz : z ∈ ts) : ∃ k p : Nat, (kidsL sig s i)[k]? = some (p : Int) ∧ tA sig s p = z := by
  obtain ⟨k, hk⟩ := List.getElem?_of_mem hz
  obtain ⟨p, p1, _, _, p4⟩ := (kids_a h hx).2 k z hk
  exact ⟨k, p, p1, p4⟩

theorem kids_in {sig : List Sy} {s : List Int} (ha : ArOk sig) (ht : termE sig s = 0) {i : Nat} {c : Int} (hc : s[i]? = some c) (k : Nat) (p : Int) (hk : (kidsL sig s i)[k]? = some p) : ∃ P : Nat, p = P ∧ i < P ∧ P < s.length := by
  obtain ⟨hi, _⟩ := List.getElem?_eq_some_iff.1 hc
  have hp := place_ok ha ht hi
  rcases tA_head ha (term_parts ht).2 hc with ⟨_, e⟩ | ⟨_, ts, e, _⟩
  · rw [kids_v hp e] at hk
    simp at hk
  · obtain ⟨h1, h2⟩ := kids_a hp e
    obtain ⟨hl, _⟩ := List.getElem?_eq_some_iff.1 hk
    obtain ⟨q, q1, q2, q3, _⟩ := h2 k _ (List.getElem?_eq_getElem (by omega))
    rw [hk] at q1
    simp only [Option.some.injEq] at q1
    exact ⟨q, q1, q2, q3⟩

theorem tab_of {sig : List Sy} {ab : Int → Int → Bool} (hn : ∀ x, ¬ LG ab x x) (hi : ∀ f, ab f f = false) {s t : List Int} (ha : ArOk sig) (hs : termE sig s = 0) (ht : termE sig t = 0) {i j : Nat} {c d : Int} (hc : s[i]? = some c) (hd : t[j]? = some d) : TabO sig ab s t i j (kidsL sig s i) (kidsL sig t j) c d := by
  have hil := (List.getElem?_eq_some_iff.1 hc).1
  have hjl := (List.getElem?_eq_some_iff.1 hd).1
  have hp := place_ok ha hs hil
  have hq := place_ok ha ht hjl
  have k1 := kids_in ha hs hc
  have k2 := kids_in ha ht hd
  rcases tA_head ha (term_parts hs).2 hc with ⟨c0, ex⟩ | ⟨c0, ss, ex, hsl⟩
  · rw [kids_v hp ex]
    refine ⟨fun _ => by rw [ex]; exact LG.var, fun k p hk => by simp at hk, fun _ _ => by rw [ex]; exact LG.var, fun h => absurd c0 h, fun h => absurd c0 h, fun h => absurd c0 h, fun h => absurd c0 h, fun h => absurd c0 h, fun k p hk => by simp at hk, k2⟩
  · have hst : (∀ (k p : Nat), (kidsL sig s i)[k]? = some (p : Int) → ¬ (tA sig s p = tA sig t j ∨ LG ab (tA sig s p) (tA sig t j))) → ¬ ∃ s' ∈ ss, s' = tA sig t j ∨ LG ab s' (tA sig t j) := by
      rintro h ⟨z, hz, h9⟩
      obtain ⟨k, p, p1, rfl⟩ := kids_of hp ex hz
      exact h k p p1 h9
    have hall : ∀ {g : Int} {ts : List Te}, tA sig t j = .a g ts → ((∀ u ∈ ts, LG ab (.a c ss) u) ↔ ∀ (k q : Nat), (kidsL sig t j)[k]? = some (q : Int) → LG ab (.a c ss) (tA sig t q)) := fun {g ts} ey =>
      ⟨fun h k q hk => h _ (List.mem_of_getElem? (kids_to hq ey hk)), fun h u hu => by
        obtain ⟨k, q, q1, rfl⟩ := kids_of hq ey hu
        exact h k q q1⟩
    refine ⟨fun h => absurd h c0, fun k p hk h => ?_, fun d0 h hg => ?_, fun _ d0 h hab => ?_, fun _ d0 h hab hne hg => ?_, fun _ e => ?_, fun _ e h hsm hg => ?_, fun _ e h k0 p0 q0 hb hk0 hq0 hne => ?_, k1, k2⟩
    · rw [ex]
      have hm := List.mem_of_getElem? (kids_to hp ex hk)
      rcases h with h | h
      · rw [← h]; exact .part hm
      · exact .down hm h
    · rcases tA_head ha (term_parts ht).2 hd with ⟨_, ey⟩ | ⟨d1, _⟩
      · rw [ex, LG.step hn hi] at hg
        rcases hg with hg | ⟨g, ts, e, _⟩
        · exact hst h hg
        · rw [ey] at e; cases e
      · exact d1 d0
    · rcases tA_head ha (term_parts ht).2 hd with ⟨d1, _⟩ | ⟨_, ts, ey, _⟩
      · exact absurd d1 d0
      · rw [ex, ← hall ey, LG.step hn hi]
        constructor
        · rintro (hg | ⟨g, ts', e, _, h9⟩)
          · exact absurd hg (hst h)
          · rw [ey] at e; cases e; exact h9
        · intro h9
          exact .inr ⟨d, ts, ey, .inr ⟨(fun e => by rw [e, hi] at hab; exact absurd hab (by decide)), hab⟩, h9⟩
    · rcases tA_head ha (term_parts ht).2 hd with ⟨d1, _⟩ | ⟨_, ts, ey, _⟩
      · exact absurd d1 d0
      · rw [ex, LG.step hn hi] at hg
        rcases hg with hg | ⟨g, ts', e, ⟨e2, _⟩ | ⟨_, h8⟩, _⟩
        · exact hst h hg
        · rw [ey] at e; cases e; exact hne e2
        · rw [ey] at e; cases e; rw [hab] at h8; exact absurd h8 (by decide)
    · subst e
      rcases tA_head ha (term_parts ht).2 hd with ⟨d1, _⟩ | ⟨_, ts, ey, htl⟩
      · exact absurd d1 c0
      · rw [(kids_a hp ex).1, (kids_a hq ey).1, hsl, htl]
    · subst e
      rcases tA_head ha (term_parts ht).2 hd with ⟨d1, _⟩ | ⟨_, ts, ey, htl⟩
      · exact absurd d1 c0
      · have ets : ss = ts := by
          apply List.ext_getElem?
          intro k
          by_cases hk : k < ss.length
          · have hz := List.getElem?_eq_getElem hk
            have hy := List.getElem?_eq_getElem (show k < ts.length by omega)
            obtain ⟨p, p1, _, _, p4⟩ := (kids_a hp ex).2 k _ hz
            obtain ⟨q, q1, _, _, q4⟩ := (kids_a hq ey).2 k _ hy
            have := hsm k p q p1 q1
            rw [hz, hy, ← p4, ← q4, this]
          · rw [List.getElem?_eq_none (by omega), List.getElem?_eq_none (by omega)]
        subst ets
        rw [ex, ey] at hg
        exact hn _ hg
    · subst e
      rcases tA_head ha (term_parts ht).2 hd with ⟨d1, _⟩ | ⟨_, ts, ey, htl⟩
      · exact absurd d1 c0
      · have z1 := kids_to hp ex hk0
        have z2 := kids_to hq ey hq0
        have htk : ss.take k0 = ts.take k0 := by
          apply List.ext_getElem?
          intro k
          by_cases hk : k < k0
          · have hz1 := (List.getElem?_eq_some_iff.1 z1).1
            have hz := List.getElem?_eq_getElem (show k < ss.length by omega)
            have hy := List.getElem?_eq_getElem (show k < ts.length by omega)
            obtain ⟨p, p1, _, _, p4⟩ := (kids_a hp ex).2 k _ hz
            obtain ⟨q, q1, _, _, q4⟩ := (kids_a hq ey).2 k _ hy
            have := hb k p q hk p1 q1
            rw [List.getElem?_take_of_lt hk, List.getElem?_take_of_lt hk, hz, hy, ← p4, ← q4, this]
          · rw [List.getElem?_eq_none (by rw [List.length_take]; omega), List.getElem?_eq_none (by rw [List.length_take]; omega)]
        have hfg := firstG_at (ab := ab) htk z1 z2 hne
        rw [ex, ← hall ey, LG.step hn hi, ← hfg]
        constructor
        · rintro (hg | ⟨g, ts', e, ⟨_, h7⟩ | ⟨h7, _⟩, h9⟩)
          · exact absurd hg (hst h)
          · rw [ey] at e; cases e; exact ⟨h7, h9⟩
          · rw [ey] at e; cases e; exact absurd rfl h7
        · rintro ⟨h7, h9⟩
          exact .inr ⟨c, ts, ey, .inl ⟨rfl, h7⟩, h9⟩

end Go.Proofs.YtcoaabgaolblfaaDoor

/- package prec: Close. -/
namespace Go.Proofs.YtcoaabgaolblfaaDoor
open Go.RowKit Go.Maps

/-- A pair of numbers at an address. -/
def E2 (w : World) (g o : Nat) (x : Int × Int) : Prop :=
  (-9223372036854775808 ≤ x.1 ∧ x.1 ≤ 9223372036854775807) ∧ (-9223372036854775808 ≤ x.2 ∧ x.2 ≤ 9223372036854775807) ∧ w.cell? ⟨g, o, none⟩ = some (.int .i64 x.1) ∧ w.cell? ⟨g, o + 1, none⟩ = some (.int .i64 x.2)

theorem E2.kp {w w' : World} (hk : Kp w w') (g o : Nat) (x : Int × Int) (h : E2 w g o x) : E2 w' g o x := ⟨h.1, h.2.1, hk.cell _ _ h.2.2.1, hk.cell _ _ h.2.2.2⟩

/-- A row of pairs. -/
def Prs (w : World) (v : Value) (ps : List (Int × Int)) : Prop := Row E2 2 w v ps

theorem Prs.kp {w w' : World} {v : Value} {ps : List (Int × Int)} (h : Prs w v ps) (hk : Kp w w') : Prs w' v ps := Row.imp h hk.size (E2.kp hk)

theorem Prs.later {w w' : World} {v : Value} {ps : List (Int × Int)} (h : Prs w v ps) (hb : Below w.heap.size w w') : Prs w' v ps := h.kp (Kp.of_below hb)

theorem Prs.at {w : World} {ao : Option Addr} {n cap : Nat} {ps : List (Int × Int)} (h : Prs w (.slice ao n cap) ps) {k : Nat} (hk : k < ps.length) :
    ∃ g off a b, ao = some ⟨g, off, none⟩ ∧ ps[k]? = some (a, b) ∧ w.cell? ⟨g, off + k * 2, none⟩ = some (.int .i64 a) ∧ w.cell? ⟨g, off + k * 2 + 1, none⟩ = some (.int .i64 b) ∧ (-9223372036854775808 ≤ a ∧ a ≤ 9223372036854775807) ∧ -9223372036854775808 ≤ b ∧ b ≤ 9223372036854775807 := by
  obtain ⟨ao', cap', hv, _, _, hx⟩ := Row.flat h
  simp only [Value.slice.injEq] at hv
  obtain ⟨rfl, rfl, rfl⟩ := hv
  obtain ⟨g, off, x, rfl, hm, h1, h2, h3, h4⟩ := hx k hk
  exact ⟨g, off, x.1, x.2, rfl, hm, h3, h4, h1, h2⟩

theorem inN_take_step {n : Int} {ps : List (Int × Int)} {k : Nat} {a b : Int} (h : InN n (ps.take k)) (hk : ps[k]? = some (a, b)) (h1 : 0 ≤ a ∧ a < n) (h2 : 0 ≤ b ∧ b < n) : InN n (ps.take (k + 1)) := by
  rw [take_get hk]
  intro x hx
  rcases List.mem_append.1 hx with hx | hx
  · exact h x hx
  · simp only [List.mem_singleton] at hx
    subst hx
    exact ⟨h1.1, h1.2, h2.1, h2.2⟩

theorem not_inN {n : Int} {ps : List (Int × Int)} {k : Nat} {a b : Int} (hk : ps[k]? = some (a, b)) (h : ¬ ((0 ≤ a ∧ a < n) ∧ (0 ≤ b ∧ b < n))) : ¬ InN n ps := fun hh => by
  have := hh _ (List.mem_of_getElem? hk)
  simp only at this
  exact h ⟨⟨this.1, this.2.1⟩, this.2.2⟩

theorem setN_row {U : List Nat} {f g a b : Nat} (h1 : U[f * 2]? = some a) (h2 : U[f * 2 + 1]? = some b) :
    (g < 64 → U.set (f * 2) (a ||| 2 ^ (g % 64)) = setN U f g) ∧ (¬ g < 64 → g < 128 → U.set (f * 2 + 1) (b ||| 2 ^ (g % 64)) = setN U f g) := by
  constructor
  · intro hg
    unfold setN
    rw [show 2 * f + g / 64 = f * 2 by omega, h1]
    rfl
  · intro hg hg2
    unfold setN
    rw [show 2 * f + g / 64 = f * 2 + 1 by omega, h2]
    rfl

/-- What Close answers. -/
def CloseO (n : Int) (ps : List (Int × Int)) (w : World) (e : Ending) (w' : World) : Prop :=
  Below w.heap.size w w' ∧ ((closeE n ps ≠ 0 ∧ e = .returned (.tuple #[.pointer none, .int .i64 (closeE n ps)])) ∨ (closeE n ps = 0 ∧ ∃ g, e = .returned (.tuple #[.pointer (some ⟨g, 0, none⟩), .int .i64 0]) ∧ Pc w' (.pointer (some ⟨g, 0, none⟩)) ps))

theorem closeO_err {n c : Int} {ps : List (Int × Int)} {w w' : World} (hE : closeE n ps = c) (hc : c ≠ 0) (hb : Below w.heap.size w w') : CloseO n ps w (.returned (.tuple #[.pointer none, .int .i64 c])) w' :=
  ⟨hb, .inl ⟨by rw [hE]; exact hc, by rw [hE]⟩⟩

theorem tab_row {T : List Nat} (hT : Tab T) {f : Nat} (hf : f < 128) : ∃ x y, T[f * 2]? = some x ∧ T[f * 2 + 1]? = some y ∧ x < 18446744073709551616 ∧ y < 18446744073709551616 := by
  obtain ⟨x, h1, h2⟩ := hT.get (k := f * 2) (by omega)
  obtain ⟨y, h3, h4⟩ := hT.get (k := f * 2 + 1) (by omega)
  exact ⟨x, y, h1, h3, h2, h4⟩

/-- A row stored. -/
theorem Tb.row {t : TypeId} {w : World} {g : Nat} {T : List Nat} (h : Tb t w g T) (k x y : Nat) : Tb t ((w.setCell ⟨g, k, none⟩ (.int .u64 (x : Int))).setCell ⟨g, k + 1, none⟩ (.int .u64 (y : Int))) g ((T.set k x).set (k + 1) y) := (h.set k x).set (k + 1) y

theorem with_form {T : List Nat} (hT : Tab T) {f g x y : Nat} (hf : f < 128) (hg : g < 128) (h1 : T[f * 2]? = some x) (h2 : T[f * 2 + 1]? = some y) : ∃ x2 y2, rowWith x y g = .agg #[.int .u64 ((x2 : Nat) : Int), .int .u64 ((y2 : Nat) : Int)] ∧ (T.set (f * 2) x2).set (f * 2 + 1) y2 = setN T f g := by
  have hl := hT.len
  have hs := setN_row (g := g) h1 h2
  by_cases h : g < 64
  · refine ⟨x ||| 2 ^ (g % 64), y, by unfold rowWith; rw [if_pos h]; rfl, ?_⟩
    rw [← hs.1 h]
    apply List.ext_getElem?
    intro k
    rw [List.getElem?_set]
    split
    · next e =>
      subst e
      rw [if_pos (by rw [List.length_set]; omega), List.getElem?_set_ne (by omega), h2]
    · rfl
  · refine ⟨x, y ||| 2 ^ (g % 64), by unfold rowWith; rw [if_neg h]; rfl, ?_⟩
    rw [← hs.2 h hg]
    congr 1
    apply List.ext_getElem?
    intro k
    rw [List.getElem?_set]
    split
    · next e =>
      subst e
      rw [if_pos (by omega), h1]
    · rfl

theorem fold_set : ∀ (l : List Value) (k : Nat) (c : Array Value), c.size = k + l.length →
    ((l.zipIdx k).foldl (fun (cs : Array Value) (x : Value × Nat) => cs.setIfInBounds x.snd x.fst) c).toList = c.toList.take k ++ l
  | [], k, c, h => by
    simp only [List.length_nil, Nat.add_zero] at h
    subst h
    simp [← Array.length_toList]
  | x :: l, k, c, h => by
    rw [List.zipIdx_cons, List.foldl_cons, fold_set l (k + 1) _ (by simp at h ⊢; omega)]
    simp only [Array.toList_setIfInBounds]
    have hk : k < c.toList.length := by simp at h ⊢; omega
    rw [List.take_add_one, List.take_set_of_le (Nat.le_refl _), List.getElem?_set_self hk]
    simp

theorem build_table (c : Array Value) (U : List Nat) (n : Nat) (hn : n = U.length) (hc : c.size = U.length) : Array.foldl (fun (cs : Array Value) (x : Value × Nat) => cs.setIfInBounds x.snd x.fst) c (cellsT U).zipIdx 0 n = cellsT U := by
  subst hn
  have h1 : (cellsT U).zipIdx = (((U.map U64).zipIdx 0)).toArray := by
    unfold cellsT
    simp
  rw [h1]
  have h2 : (((U.map U64).zipIdx 0)).length = U.length := by simp
  have h3 : Array.foldl (fun (cs : Array Value) (x : Value × Nat) => cs.setIfInBounds x.snd x.fst) c (((U.map U64).zipIdx 0)).toArray 0 U.length = ((U.map U64).zipIdx 0).foldl (fun (cs : Array Value) (x : Value × Nat) => cs.setIfInBounds x.snd x.fst) c := by
    rw [← h2]
    exact List.foldl_toArray' _ _ _ (by simp)
  rw [h3]
  apply Array.ext'
  rw [fold_set _ 0 c (by simpa using hc)]
  simp [cellsT]

set_option maxRecDepth 100000 in
theorem zero_prec : (Tryd.prog.info? 77).map (fun i => (i.zero, i.size)) = some (some (.agg (cellsT zeroT)), 256) := by kernel_rfl

theorem run_zero_prec (w : World) : (zeroValue 77).run Tryd.prog w = .ok (.agg (cellsT zeroT)) w := (zero_of_info zero_prec).1 w

set_option maxRecDepth 100000 in
set_option maxHeartbeats 3200000 in
theorem close_any (n : Int) (v : Value) (ps : List (Int × Int)) (w : World) (h : Prs w v ps) :
    Calls Tryd.prog 12 #[.int .i64 n, v] w (CloseO n ps w) := by
  obtain ⟨ao, cap, rfl, hcap, hcm, _⟩ := Row.flat h
  unfold maxLen at hcm
  have HP : Hid (Prs w (.slice ao ps.length cap) ps) := h
  clear h
  have hz := run_zero_table
  by_cases hn0 : n < 0
  · go_enter Tryd.func12, Tryd.ntmps12
    go_wp2
    go_ret2
    exact closeO_err (closeE_arg (.inl hn0)) (by decide) (Below.refl _ _)
  by_cases hn1 : 128 < n
  · go_enter Tryd.func12, Tryd.ntmps12
    go_wp2
    go_ret2
    exact closeO_err (closeE_arg (.inr hn1)) (by decide) (Below.refl _ _)
  have hn2 : 0 ≤ n := by omega
  have hn3 : n ≤ 128 := by omega
  have hd0 : decide (n < 0) = false := by simpa using hn0
  have hd1 : decide (128 < n) = false := by simpa using hn1
  clear hn0 hn1
  go_enter Tryd.func12, Tryd.ntmps12
  go_wp2
  go_loopw [20] (fun i wr => ∃ (k : Nat) (T : List Nat), k ≤ ps.length ∧ i = .int .i64 k ∧ ToldT (ps.take k) T ∧ InN n (ps.take k) ∧ Tb 72 wr w.heap.size T ∧ Below w.heap.size w wr) (fun i _ => ps.length - (intOf i).toNat)
  case atStart => exact ⟨0, zeroT, by omega, rfl, told_zero, (fun x hx => by simp at hx), heap_alloc_new _ _, below_alloc _⟩
  case round =>
    obtain ⟨k, T, hk, rfl, hT, hI, hb, hbl⟩ := hrel
    have HT : Hid (ToldT (ps.take k) T) := hT
    have HI : Hid (InN n (ps.take k)) := hI
    have HB : Hid (Tb 72 wr w.heap.size T) := hb
    have HL : Hid (Below w.heap.size w wr) := hbl
    clear hT hI hb hbl
    by_cases hlt : k < ps.length
    · obtain ⟨g, off, a, b, rfl, hab, c1, c2, ha, hb⟩ := (HP.out.later HL.out).at hlt
      have HAB : Hid (ps[k]? = some (a, b)) := hab
      clear hab
      go_wp2
      go_region
      obtain ⟨w2, hw2⟩ : ∃ X, X = (wr.alloc (.cells #[.int .i64 a, .int .i64 b] 43)).drew := ⟨_, rfl⟩
      have hstep : Below wr.heap.size wr w2 := by rw [hw2]; exact (below_alloc _).drew
      have HB2 : Hid (Tb 72 w2 w.heap.size T) := HB.out.later hstep
      have HL2 : Hid (Below w.heap.size w w2) := HL.out.trans (hstep.mono HL.out.size)
      rw [← hw2]
      clear hw2 hstep HB HL c1 c2
      go_wp2_with fail
      refine (isSymbol_any n a w2).mono ?_
      rintro e w3 ⟨rfl, hw3⟩
      subst hw3
      by_cases h1 : 0 ≤ a ∧ a < n
      · have e1 : decide (0 ≤ a ∧ a < n) = true := by simp [h1]
        rw [e1]
        have H1 := hidP h1
        clear e1 h1
        go_wp2_with fail
        refine (isSymbol_any n b w3).mono ?_
        rintro e w4 ⟨rfl, hw4⟩
        subst hw4
        by_cases h2 : 0 ≤ b ∧ b < n
        · have e2 : decide (0 ≤ b ∧ b < n) = true := by simp [h2]
          rw [e2]
          clear e2
          have h1 := H1.out
          obtain ⟨f, rfl⟩ := Int.eq_ofNat_of_zero_le h1.1
          obtain ⟨g', rfl⟩ := Int.eq_ofNat_of_zero_le h2.1
          have hf : f < 128 := by omega
          have hg : g' < 128 := by omega
          have hfi : (f : Int) < 128 := by omega
          obtain ⟨x, y, hx1, hy1, hx2, hy2⟩ := tab_row HT.out.1 hf
          obtain ⟨x2, y2, hw5, hset⟩ := with_form HT.out.1 hf hg hx1 hy1
          have c1 := HB2.out.cell hx1
          have c2 := HB2.out.cell hy1
          have HX := hidP hx1
          have HY := hidP hy1
          have HW := hidP hw5
          have HS := hidP hset
          have HI2 : Hid (InN n (ps.take (k + 1))) := inN_take_step HI.out HAB.out h1 h2
          have HT2 : Hid (ToldT (ps.take (k + 1)) (setN T f g')) := by rw [take_get HAB.out]; exact told_step HT.out hf hg
          clear hx1 hy1 hw5 hset h1 h2 H1 HI
          go_wp2_with fail
          refine (with_any x y g' w4 hx2 hy2 hg).mono ?_
          rintro e w5 ⟨rfl, hb5⟩
          rw [HW.out]
          have HB3 : Hid (Tb 72 w5 w.heap.size T) := HB2.out.later hb5
          have HL3 : Hid (Below w.heap.size w w5) := HL2.out.trans (hb5.mono HL2.out.size)
          clear hb5 c1 c2 HB2 HL2 HT
          have c1 := HB3.out.cell HX.out
          have c2 := HB3.out.cell HY.out
          have c3 := HB3.out.frozen (f * 2)
          have c4 := HB3.out.frozen (f * 2 + 1)
          have HB4 := hidP (HB3.out.row (f * 2) x2 y2)
          rw [HS.out] at HB4
          have HL4 := hidP ((HL3.out.setCell (p := ⟨w.heap.size, f * 2, none⟩) (Nat.le_refl _) (.int .u64 (x2 : Int))).setCell (p := ⟨w.heap.size, f * 2 + 1, none⟩) (Nat.le_refl _) (.int .u64 (y2 : Int)))
          go_wp2
          go_roundw
          case rel => exact ⟨k + 1, setN T f g', by omega, by go_num, HT2.out, HI2.out, HB4.out, HL4.out⟩
          case measure => simp [intOf]; omega
        · have e2 : decide (0 ≤ b ∧ b < n) = false := by simp only [decide_eq_false_iff_not]; exact h2
          rw [e2]
          have H2 := hidP h2
          clear e2 h2
          go_wp2
          go_ret2
          exact closeO_err (closeE_sym hn2 hn3 (not_inN HAB.out (fun h => H2.out h.2))) (by decide) HL2.out
      · have e1 : decide (0 ≤ a ∧ a < n) = false := by simp only [decide_eq_false_iff_not]; exact h1
        rw [e1]
        have H1 := hidP h1
        clear e1 h1
        go_wp2
        go_ret2
        exact closeO_err (closeE_sym hn2 hn3 (not_inN HAB.out (fun h => H1.out h.1))) (by decide) HL2.out
    · obtain rfl : k = ps.length := by omega
      have hI2 := HI.out
      have hT2 := HT.out
      rw [List.take_length] at hI2 hT2
      have HI3 := hidP hI2
      have HT3 := hidP hT2
      clear hI2 hT2 HI HT
      go_wp2_with (first
        | fail
        | (refine wpList_load_row rfl _ _ rfl w.heap.size rfl _ _ _ _ HB.out under_table rfl (by rw [info_table, cellsT_size, HT3.out.1.len]) ?_))
      refine (closed_any (PR ps) T wr HT3.out.1 (HT3.out.mid HI3.out hn3)).mono ?_
      rintro e w2 ⟨U, rfl, hU, hcl, hb2⟩
      have HU := hidP hU
      have HC : Hid (∀ i j, TR U i j ↔ Up ps i j) := up_of_closed hcl
      have HL2 : Hid (Below w.heap.size w w2) := HL.out.trans (hb2.mono HL.out.size)
      clear hU hcl hb2 HL HB HT3
      go_wp2_with (first
        | fail
        | (refine wpList_store_row rfl _ _ _ rfl w2.heap.size (cellsT U) rfl rfl _ _ (heap_alloc_new _ _) (by rw [info_table, cellsT_size, HU.out.len]) (by rw [cellsT_size, cellsT_size, HU.out.len]; rfl) (cellsT_one _) ?_))
      rw [World.setRow_alloc_new]
      obtain ⟨w3, hw3⟩ : ∃ X, X = w2.alloc (.cells (cellsT U) 72) := ⟨_, rfl⟩
      have HB3 : Hid (Tb 72 w3 w2.heap.size U) := by rw [hw3]; exact heap_alloc_new _ _
      have HL3 : Hid (Below w.heap.size w w3) := by rw [hw3]; exact HL2.out.trans ((below_alloc _).mono HL2.out.size)
      rw [← hw3]
      clear hw3
      simp only [Act.put]
      refine wp_load_row _ _ rfl w2.heap.size rfl _ _ _ _ HB3.out under_table rfl (by rw [info_table, cellsT_size, HU.out.len]) ?_
      go_wp2_with fail
      refine (hasCycle_any U w3 HU.out).mono ?_
      rintro e w4 ⟨rfl, hb4⟩
      have HB4 : Hid (Tb 72 w4 w2.heap.size U) := HB3.out.later hb4
      have HL4 : Hid (Below w.heap.size w w4) := HL3.out.trans (hb4.mono HL3.out.size)
      clear hb4 HB3 HL3
      cases hc : cycB U 128 with
      | true =>
        have HX : Hid (∃ i, Up ps i i) := by
          obtain ⟨i, hi⟩ := (cycB_iff U).1 hc
          exact ⟨i, (HC.out i i).1 hi⟩
        clear hc
        go_wp2
        go_ret2
        exact closeO_err (closeE_cyc hn2 hn3 HI3.out HX.out) (by decide) HL4.out
      | false =>
        have HX : Hid (∀ i, ¬ Up ps i i) := fun i hi => by
          have := (cycB_iff U).2 ⟨i, (HC.out i i).2 hi⟩
          rw [hc] at this
          cases this
        clear hc
        have hs1 : (cellsT U).size = 256 := by rw [cellsT_size]; exact HU.out.len
        have hs2 : (cellsT zeroT).size = 256 := by rw [cellsT_size]; rfl
        go_wp2_with (first
          | (refine wpList_load_row rfl _ _ rfl w2.heap.size rfl _ _ _ _ HB4.out under_table rfl (by rw [info_table, cellsT_size, HU.out.len]) ?_))
        rw [build_table Tryd.zeroCells77 U 256 HU.out.len.symm (by rw [HU.out.len]; kernel_rfl)]
        go_ret2
        exact ⟨HL4.out.trans ((below_alloc _).mono HL4.out.size), .inr ⟨closeE_ok hn2 hn3 HI3.out HX.out, w4.heap.size, rfl, w4.heap.size, U, rfl, HU.out, heap_alloc_new _ _, HC.out⟩⟩

end Go.Proofs.YtcoaabgaolblfaaDoor

/- The examples of layer 10. -/
namespace Go.Proofs.YtcoaabgaolblfaaDoor
open Go.RowKit Go.Maps

theorem exA_ok : closeE 3 [(2, 1), (1, 0)] = 0 := by
  refine closeE_ok (by decide) (by decide) ?_ ?_
  · intro x hx
    simp only [List.mem_cons, List.not_mem_nil, or_false] at hx
    rcases hx with rfl | rfl <;> decide
  · intro i hi
    have := hi (fun i j => j < i) (fun i j hp => by
      simp only [PR, List.mem_cons, Prod.mk.injEq, List.not_mem_nil, or_false] at hp
      omega) (fun i j k h1 h2 => Nat.lt_trans h2 h1)
    exact Nat.lt_irrefl _ this

theorem exA_less {i j : Nat} (h : Up [(2, 1), (1, 0)] i j) : j < i :=
  h (fun i j => j < i) (fun i j hp => by
    simp only [PR, List.mem_cons, Prod.mk.injEq, List.not_mem_nil, or_false] at hp
    omega) (fun i j k h1 h2 => Nat.lt_trans h2 h1)

theorem exA_20 : abB [(2, 1), (1, 0)] 2 0 = true :=
  (abB_nat _ 2 0).2 (Up.tr _ 2 1 0 (Up.base (by simp [PR])) (Up.base (by simp [PR])))

theorem exA_no {f g : Int} (h : ¬ (0 ≤ f ∧ 0 ≤ g ∧ g < f)) : abB [(2, 1), (1, 0)] f g = false := by
  rw [Bool.eq_false_iff]
  intro hh
  rw [abB_iff] at hh
  have := exA_less hh.2.2
  omega

theorem exB_cyc : closeE 2 [(0, 1), (1, 0)] = 101 := by
  refine closeE_cyc (by decide) (by decide) ?_ ⟨0, Up.tr _ 0 1 0 (Up.base (by simp [PR])) (Up.base (by simp [PR]))⟩
  intro x hx
  simp only [List.mem_cons, List.not_mem_nil, or_false] at hx
  rcases hx with rfl | rfl <;> decide

theorem exC_sym : closeE 2 [(0, 2)] = 100 := closeE_sym (by decide) (by decide) (fun h => by
  have := h (0, 2) (List.mem_cons_self ..)
  simp at this)

theorem exD_arg : closeE 129 [] = 1 := closeE_arg (.inr (by decide))

theorem CloseO.ok {n : Int} {ps : List (Int × Int)} {w w' : World} {e : Ending} (h : CloseO n ps w e w') (h0 : closeE n ps = 0) : Below w.heap.size w w' ∧ ∃ g, e = .returned (.tuple #[.pointer (some ⟨g, 0, none⟩), .int .i64 0]) ∧ Pc w' (.pointer (some ⟨g, 0, none⟩)) ps := by
  rcases h.2 with ⟨h1, _⟩ | ⟨_, h2⟩
  · exact absurd h0 h1
  · exact ⟨h.1, h2⟩

theorem CloseO.err {n c : Int} {ps : List (Int × Int)} {w w' : World} {e : Ending} (h : CloseO n ps w e w') (h0 : closeE n ps = c) (hc : c ≠ 0) : Below w.heap.size w w' ∧ e = .returned (.tuple #[.pointer none, .int .i64 c]) := by
  subst h0
  rcases h.2 with ⟨_, h1⟩ | ⟨h2, _⟩
  · exact ⟨h.1, h1⟩
  · exact absurd h2 hc

/-- Two pairs, just laid. -/
theorem prs_two (w : World) (a b c d : Int) (ha : -9223372036854775808 ≤ a ∧ a ≤ 9223372036854775807) (hb : -9223372036854775808 ≤ b ∧ b ≤ 9223372036854775807) (hc : -9223372036854775808 ≤ c ∧ c ≤ 9223372036854775807) (hd : -9223372036854775808 ≤ d ∧ d ≤ 9223372036854775807) :
    Prs (w.alloc (.cells #[.int .i64 a, .int .i64 b, .int .i64 c, .int .i64 d] 43)) (.slice (some ⟨w.heap.size, 0, none⟩) 2 2) [(a, b), (c, d)] := by
  refine ⟨_, 2, rfl, Nat.le_refl _, by decide, fun _ => ⟨w.heap.size, 0, rfl, by simp, fun k x hk => ?_⟩⟩
  have hcell := fun j => cell_of_row _ w.heap.size j _ _ _ (heap_alloc_new w (.cells #[.int .i64 a, .int .i64 b, .int .i64 c, .int .i64 d] 43))
  match k, hk with
  | 0, hk => cases hk; exact ⟨ha, hb, hcell 0, hcell 1⟩
  | 1, hk => cases hk; exact ⟨hc, hd, hcell 2, hcell 3⟩

theorem prs_one (w : World) (a b : Int) (ha : -9223372036854775808 ≤ a ∧ a ≤ 9223372036854775807) (hb : -9223372036854775808 ≤ b ∧ b ≤ 9223372036854775807) :
    Prs (w.alloc (.cells #[.int .i64 a, .int .i64 b] 43)) (.slice (some ⟨w.heap.size, 0, none⟩) 1 1) [(a, b)] := by
  refine ⟨_, 1, rfl, Nat.le_refl _, by decide, fun _ => ⟨w.heap.size, 0, rfl, by simp, fun k x hk => ?_⟩⟩
  have hcell := fun j => cell_of_row _ w.heap.size j _ _ _ (heap_alloc_new w (.cells #[.int .i64 a, .int .i64 b] 43))
  match k, hk with
  | 0, hk => cases hk; exact ⟨ha, hb, hcell 0, hcell 1⟩

end Go.Proofs.YtcoaabgaolblfaaDoor

/- Rows of pairs of one's own. -/
namespace Go.Proofs.YtcoaabgaolblfaaDoor
open Go.RowKit Go.Maps

/-- The cells of a row of pairs. -/
def cellsQ (ps : List (Int × Int)) : List Value := ps.flatMap fun x => [.int .i64 x.1, .int .i64 x.2]

theorem cellsQ_len (ps : List (Int × Int)) : (cellsQ ps).length = ps.length * 2 := by
  induction ps with
  | nil => rfl
  | cons x ps ih =>
    unfold cellsQ at ih ⊢
    rw [List.flatMap_cons, List.length_append, ih]
    simp only [List.length_cons, List.length_nil]
    omega

theorem cellsQ_append (ps qs : List (Int × Int)) : cellsQ (ps ++ qs) = cellsQ ps ++ cellsQ qs := List.flatMap_append

theorem cellsQ_at : ∀ {ps : List (Int × Int)} {k : Nat} {x : Int × Int}, ps[k]? = some x → (cellsQ ps)[k * 2]? = some (.int .i64 x.1) ∧ (cellsQ ps)[k * 2 + 1]? = some (.int .i64 x.2)
  | [], k, x, h => by simp at h
  | y :: ps, 0, x, h => by
    simp only [List.getElem?_cons_zero, Option.some.injEq] at h
    subst h
    exact ⟨rfl, rfl⟩
  | y :: ps, k + 1, x, h => by
    simp only [List.getElem?_cons_succ] at h
    have ih := cellsQ_at h
    have e : cellsQ (y :: ps) = .int .i64 y.1 :: .int .i64 y.2 :: cellsQ ps := rfl
    rw [e, show (k + 1) * 2 = k * 2 + 1 + 1 by omega]
    simpa using ih

def Bd64 (ps : List (Int × Int)) : Prop := ∀ (k : Nat) (x : Int × Int), ps[k]? = some x → (-9223372036854775808 ≤ x.1 ∧ x.1 ≤ 9223372036854775807) ∧ (-9223372036854775808 ≤ x.2 ∧ x.2 ≤ 9223372036854775807)

theorem Bd64.append {ps qs : List (Int × Int)} (h : Bd64 ps) (k : Bd64 qs) : Bd64 (ps ++ qs) := fun i x hx => by
  rw [List.getElem?_append] at hx
  split at hx
  · exact h _ _ hx
  · exact k _ _ hx

theorem Prs.bd {w : World} {v : Value} {ps : List (Int × Int)} (h : Prs w v ps) : Bd64 ps := fun k x hk => by
  obtain ⟨ao, cap, rfl, _, _, hx⟩ := Row.flat h
  obtain ⟨_, _, y, _, hy, h1, h2, _⟩ := hx k (List.getElem?_eq_some_iff.1 hk).1
  rw [hk] at hy
  cases hy
  exact ⟨h1, h2⟩

/-- A row of pairs of one's own, at the head of its row. -/
def OwQ (w : World) (base : Nat) (v : Value) (ps : List (Int × Int)) : Prop := Bd64 ps ∧ w.ownsRow base 43 2 v ps.length (cellsQ ps)

theorem OwQ.prs {w : World} {base : Nat} {v : Value} {ps : List (Int × Int)} (h : OwQ w base v ps) : Prs w v ps := by
  have h2 := h.2
  rcases h2.2 with ⟨rfl, hn⟩ | ⟨g, cap, cur, rfl, hb, hg, hc, hm, hs, ht⟩
  · exact ⟨none, 0, by rw [hn], by omega, by simp [maxLen], by omega⟩
  · refine ⟨_, cap, rfl, hc, hm, fun _ => ⟨g, 0, rfl, (Array.getElem?_eq_some_iff.1 hg).1, ?_⟩⟩
    intro k x hk
    have hlt : k < ps.length := (List.getElem?_eq_some_iff.1 hk).1
    have hc := cellsQ_at hk
    refine ⟨(h.1 k x hk).1, (h.1 k x hk).2, ?_, ?_⟩
    · rw [Nat.zero_add, World.ownsRow.cellAt h2 (k * 2) (by omega)]
      exact hc.1
    · rw [Nat.zero_add, World.ownsRow.cellAt h2 (k * 2 + 1) (by omega)]
      exact hc.2

theorem OwQ.later {w w' : World} {base : Nat} {v : Value} {ps : List (Int × Int)} (h : OwQ w base v ps) (hb : Below w.heap.size w w') : OwQ w' base v ps := ⟨h.1, ownsRow_later h.2 hb⟩

theorem info_pairP : (Tryd.prog.info? 43).map (fun i => (i.zero, i.size, i.bytes)) = some (some (.agg #[.int .i64 0, .int .i64 0]), 2, 16) := by kernel_rfl

theorem under_pairsP : Tryd.prog.underlying 23 = some (.slice 43) := by kernel_rfl

theorem info_parts3 {t : TypeId} {z : Value} {n b : Nat} (h : (Tryd.prog.info? t).map (fun i => (i.zero, i.size, i.bytes)) = some (some z, n, b)) : ∃ i, Tryd.prog.info? t = some i ∧ i.zero = some z ∧ i.size = n ∧ i.bytes = b := by
  cases hi : Tryd.prog.info? t with
  | none => rw [hi] at h; cases h
  | some i =>
    rw [hi] at h
    simp only [Option.map_some, Option.some.injEq, Prod.mk.injEq] at h
    exact ⟨i, rfl, h.1, h.2.1, h.2.2⟩

/-- A row of pairs joined to one of one's own. -/
theorem join_prs (ty : TypeId) {w : World} {base : Nat} {v u : Value} {ps qs : List (Int × Int)} (ho : OwQ w base v ps) (hq : Prs w u qs) (hb : base ≤ w.heap.size) (hl : (ps.length + qs.length) * 16 ≤ 140737488355328) :
    ∃ v' w', (Builtin.append_ #[23, 23] ty #[v, u]).run Tryd.prog w = .ok v' w' ∧ OwQ w' base v' (ps ++ qs) ∧ w.grownBy w' v.ownBlock ∧ (v'.ownBlock = v.ownBlock ∨ v'.ownBlock = some w.heap.size) := by
  obtain ⟨i0, hi, hz0, hz1, hz2⟩ := info_parts3 info_pairP
  have hbd := ho.1.append hq.bd
  obtain ⟨ao, cap, rfl, hc, hm, hx⟩ := hq
  by_cases h0 : qs.length = 0
  · obtain rfl : qs = [] := List.eq_nil_of_length_eq_zero h0
    obtain ⟨av, cv, hv, hcv⟩ : ∃ av cv, v = .slice av ps.length cv ∧ ps.length ≤ cv := by
      rcases ho.2.2 with ⟨rfl, hn⟩ | ⟨g, cap, cur, rfl, _, _, hc, _⟩
      · exact ⟨none, 0, by rw [hn], by omega⟩
      · exact ⟨_, cap, rfl, hc⟩
    subst hv
    refine ⟨_, w, run_append_nothing w 23 23 ty 43 i0 under_pairsP hi av ps.length cv hcv _ ?_, by rw [List.append_nil]; exact ho, World.grownBy.refl _ _, .inl rfl⟩
    cases ao with
    | none => exact Src.ofNil w under_pairsP _
    | some a => exact Src.ofSlice w under_pairsP a 0 _ [] (by simp) (fun j u hj => (by simp at hj)) (fun u hu => (by simp at hu))
  · obtain ⟨g', off, rfl, hg, hcell⟩ := hx (by omega)
    obtain ⟨v', w', hr, h2, h3, _, h5⟩ := run_append_own_at (P := Tryd.prog) w base 23 ty 43 i0 _ 2 16 under_pairsP hi hz0 hz1 hz2 rfl (by decide) _ ps.length (cellsQ ps) ho.2 ⟨g', off, none⟩ qs.length cap (cellsQ qs) (cellsQ_len qs) (fun j u hj => by
      have hlt := (List.getElem?_eq_some_iff.1 hj).1
      rw [cellsQ_len] at hlt
      have hk : j / 2 < qs.length := by omega
      have hk2 := List.getElem?_eq_getElem hk
      have ha := cellsQ_at hk2
      have hE := hcell (j / 2) _ hk2
      rw [Addr.add_lit]
      rcases (show j = j / 2 * 2 ∨ j = j / 2 * 2 + 1 by omega) with e | e
      · rw [e, ha.1] at hj
        cases hj
        have h9 := hE.2.2.1
        rw [← e] at h9
        exact h9
      · rw [e, ha.2] at hj
        cases hj
        have h9 := hE.2.2.2
        rw [Nat.add_assoc, ← e] at h9
        exact h9) (fun u hu => by
      unfold cellsQ at hu
      obtain ⟨x, _, hx2⟩ := List.mem_flatMap.1 hu
      simp only [List.mem_cons, List.not_mem_nil, or_false] at hx2
      rcases hx2 with rfl | rfl <;> rfl) (by unfold maxLen; omega) (by omega) hb
    refine ⟨v', w', hr, ⟨hbd, ?_⟩, h3, h5⟩
    rw [List.length_append, cellsQ_append]
    exact h2

theorem wpList_append_runP {P : Program} {w w' : World} {ops : Array Oper} {rest : List Oper} {o : Oper} {a : Act} {v' : Value} {Q : Exit → Act → World → Prop} (hgd : o.guard = none) (s x : Operand) (t : TypeId)
    (ho : o.op = .call { callee := .builtin .append, args := #[s, x], argTypes := #[t, t] }) (v u : Value) (hs : a.eval s = v) (hx : a.eval x = u)
    (hr : (Builtin.append_ #[t, t] o.type #[v, u]).run P w = .ok v' w') (h : wpList P ops Q rest (a.put o.dst v') w') : wpList P ops Q (o :: rest) a w := by
  refine wpList_plain hgd fun K hK => ?_
  unfold Oper.wp execOp
  simp only [ho, resolve, invoke, builtin, Sem.run_bind, Sem.run_pure, Result.andThen_ok, List.map_toArray, List.map_cons, List.map_nil, hs, hx, hr]
  exact hK _ _ h

/-- No pairs, just laid. -/
theorem empty_prs {w : World} {base : Nat} (hb : base ≤ w.heap.size) : OwQ (w.alloc (.cells #[] 43)) base (.slice (some ⟨w.heap.size, 0, none⟩) 0 0) [] :=
  ⟨fun k x h => by simp at h, rfl, .inr ⟨w.heap.size, 0, #[], rfl, hb, heap_alloc_new _ _, Nat.le_refl _, Nat.zero_le _, rfl, rfl⟩⟩

theorem OwQ.grown {w0 w w' : World} {v : Value} {ps : List (Int × Int)} (h : OwQ w w0.heap.size v ps) (hB : Below w0.heap.size w0 w) (hg : w.grownBy w' v.ownBlock) : Below w0.heap.size w0 w' :=
  hB.grown hg hB.size (fun _ hk => (World.ownsRow.lt h.2 _ hk).1)

end Go.Proofs.YtcoaabgaolblfaaDoor
