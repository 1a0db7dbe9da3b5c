/- What the document's Check answers is what Check answers: plain data. -/
import Derived.Test.YtfifgmcjilkigaaPRefB
namespace Go.Proofs.Ytfifgmcjilkigaa
open Go.RowKit Go.Maps

/-- The document's order, from the front on. -/
def ordN : List Int → Int
  | [] => 0
  | b :: fs => if 0 < b then -1 else if b < 0 then 1 else ordN fs
def ordZ : List Int → List Int → Int
  | [], fs => ordN fs
  | a :: es, [] => if a < 0 then -1 else if 0 < a then 1 else ordZ es []
  | a :: es, b :: fs => if a < b then -1 else if b < a then 1 else ordZ es fs

theorem ordGo_eq (es fs : List Int) : ∀ n k, max es.length fs.length - k = n → ordGo es fs n k = ordZ (es.drop k) (fs.drop k) := by
  intro n
  induction n with
  | zero =>
    intro k hk
    rw [List.drop_of_length_le (by omega), List.drop_of_length_le (by omega)]
    rfl
  | succ n ih =>
    intro k hk
    rw [ordGo, ih (k + 1) (by omega)]
    by_cases h1 : k < es.length
    · have e1 : expI es k = es[k] := by unfold expI; rw [List.getElem?_eq_getElem h1]; rfl
      rw [List.drop_eq_getElem_cons h1, e1]
      by_cases h2 : k < fs.length
      · have e2 : expI fs k = fs[k] := by unfold expI; rw [List.getElem?_eq_getElem h2]; rfl
        rw [List.drop_eq_getElem_cons h2, e2]
        rfl
      · have e2 : expI fs k = 0 := by unfold expI; rw [List.getElem?_eq_none (by omega)]; rfl
        rw [e2, List.drop_of_length_le (show fs.length ≤ k by omega), List.drop_of_length_le (show fs.length ≤ k + 1 by omega)]
        rfl
    · have e1 : expI es k = 0 := by unfold expI; rw [List.getElem?_eq_none (by omega)]; rfl
      have h2 : k < fs.length := by omega
      have e2 : expI fs k = fs[k] := by unfold expI; rw [List.getElem?_eq_getElem h2]; rfl
      rw [e1, e2, List.drop_eq_getElem_cons h2, List.drop_of_length_le (show es.length ≤ k by omega), List.drop_of_length_le (show es.length ≤ k + 1 by omega)]
      rfl

theorem ordX_eq (es fs : List Int) : ordX es fs = ordZ es fs := by
  unfold ordX
  rw [ordGo_eq es fs _ 0 (by omega)]
  rfl

/-- Exponents as a monomial has them. -/
def RightX (es : List Int) : Prop := (∀ x ∈ es, 0 ≤ x) ∧ es.getLast? ≠ some 0

theorem RightX.tail {a : Int} {es : List Int} (h : RightX (a :: es)) (hne : es ≠ []) : RightX es :=
  ⟨fun x hx => h.1 x (List.mem_cons_of_mem _ hx), by have := h.2; rwa [List.getLast?_cons_of_ne_nil hne] at this⟩

theorem ordZ_nil_left : ∀ {fs : List Int}, RightX fs → fs ≠ [] → ordN fs = -1
  | [], _, h => absurd rfl h
  | b :: fs, h, _ => by
    unfold ordN
    have hb := h.1 b (by simp)
    by_cases h0 : 0 < b
    · rw [if_pos h0]
    · have hb0 : b = 0 := by omega
      subst hb0
      rw [if_neg (by omega), if_neg (by omega)]
      have hne : fs ≠ [] := by rintro rfl; exact h.2 rfl
      exact ordZ_nil_left (h.tail hne) hne

theorem ordZ_nil_right : ∀ {fs : List Int}, RightX fs → fs ≠ [] → ordZ fs [] = 1
  | [], _, h => absurd rfl h
  | b :: fs, h, _ => by
    unfold ordZ
    have hb := h.1 b (by simp)
    by_cases h0 : 0 < b
    · rw [if_neg (by omega), if_pos h0]
    · have hb0 : b = 0 := by omega
      subst hb0
      rw [if_neg (by omega), if_neg (by omega)]
      have hne : fs ≠ [] := by rintro rfl; exact h.2 rfl
      exact ordZ_nil_right (h.tail hne) hne

theorem ordZ_cmpX : ∀ {es fs : List Int}, (es = [] ∨ RightX es) → (fs = [] ∨ RightX fs) → ordZ es fs = cmpX es fs
  | [], [], _, _ => rfl
  | [], b :: fs, _, h => by show ordN (b :: fs) = _; rw [ordZ_nil_left (h.resolve_left (by simp)) (by simp)]; rfl
  | a :: es, [], h, _ => by rw [ordZ_nil_right (h.resolve_left (by simp)) (by simp)]; rfl
  | a :: es, b :: fs, h, h' => by
    have h1 := h.resolve_left (by simp)
    have h2 := h'.resolve_left (by simp)
    unfold ordZ cmpX
    split
    · rfl
    · split
      · rfl
      · refine ordZ_cmpX ?_ ?_
        · by_cases he : es = []
          · exact .inl he
          · exact .inr (h1.tail he)
        · by_cases he : fs = []
          · exact .inl he
          · exact .inr (h2.tail he)

theorem monB_parts {m : Mn} (h : monB m = true) : m.1 ≠ [] ∧ rightB m.1 = true ∧ (m.2 = [] ∨ RightX m.2) := by
  obtain ⟨c, es⟩ := m
  simp only [monB, Bool.and_eq_true, List.all_eq_true, decide_eq_true_eq, Bool.or_eq_true, Bool.not_eq_true', beq_eq_false_iff_ne, ne_eq, beq_iff_eq] at h
  obtain ⟨⟨⟨h1, h2⟩, h3⟩, h4⟩ := h
  refine ⟨fun e => h1 (by simp only at e; rw [e]; rfl), h2, ?_⟩
  by_cases he : es = []
  · exact .inl he
  · refine .inr ⟨h3, ?_⟩
    rcases h4 with h4 | h4
    · exact absurd (List.eq_nil_of_length_eq_zero h4) he
    · rw [List.getLast?_eq_getElem?]
      exact h4

theorem ordX_cmpX {m n : Mn} (h : monB m = true) (h' : monB n = true) : ordX m.2 n.2 = cmpX m.2 n.2 := by
  rw [ordX_eq]
  exact ordZ_cmpX (monB_parts h).2.2 (monB_parts h').2.2

/-- Whether the monomial of that number is right where it stands, as the document's Check asks it. -/
def okR (p : List Mn) (vars : Int) (k : Nat) : Bool :=
  (match p[k]? with | some m => monB m && decide ((m.2.length : Int) ≤ vars) | none => false) && (k == 0 || decide (ordX (expsAt p (k - 1)) (expsAt p k) < 0))

def polyR (p : List Mn) (vars : Int) : Bool := (List.range p.length).all (okR p vars)

theorem polyR_iff {p : List Mn} {vars : Int} : polyR p vars = true ↔ ∀ k, k < p.length → okR p vars k = true := by
  simp [polyR, List.all_eq_true]

def checkR (p : List Mn) (vars : Int) : Int := if vars < 0 then 1 else if polyR p vars = false then 20 else if p.all smallR = false then 2 else if p.length ≤ 256 then 0 else 2

theorem polyR_eq (p : List Mn) (vars : Int) : polyR p vars = polyB p vars := by
  have key : (∀ k, k < p.length → ∃ m, p[k]? = some m ∧ monB m = true) → ∀ k, k < p.length → okR p vars k = okAt p vars k := by
    intro hm k hk
    unfold okR okAt
    by_cases h0 : k = 0
    · subst h0
      obtain ⟨m, h1, _⟩ := hm 0 hk
      rw [h1]
      simp
    · obtain ⟨m, h1, h2⟩ := hm k hk
      obtain ⟨n, h3, h4⟩ := hm (k - 1) (by omega)
      have e : ordX (expsAt p (k - 1)) (expsAt p k) = cmpX (expsAt p (k - 1)) (expsAt p k) := by
        unfold expsAt
        rw [h1, h3]
        exact ordX_cmpX h4 h2
      rw [e, h1]
  have mon1 : (∀ k, k < p.length → okR p vars k = true) → ∀ k, k < p.length → ∃ m, p[k]? = some m ∧ monB m = true := by
    intro h k hk
    have := h k hk
    unfold okR at this
    rw [List.getElem?_eq_getElem hk] at this ⊢
    simp only [Bool.and_eq_true] at this
    exact ⟨_, rfl, this.1.1⟩
  have mon2 : (∀ k, k < p.length → okAt p vars k = true) → ∀ k, k < p.length → ∃ m, p[k]? = some m ∧ monB m = true := by
    intro h k hk
    have := h k hk
    unfold okAt at this
    rw [List.getElem?_eq_getElem hk] at this ⊢
    simp only [Bool.and_eq_true] at this
    exact ⟨_, rfl, this.1.1⟩
  rw [Bool.eq_iff_iff, polyR_iff, polyB_iff]
  exact ⟨fun h k hk => (key (mon1 h) k hk) ▸ h k hk, fun h k hk => (key (mon2 h) k hk).symm ▸ h k hk⟩

theorem polyB_mon {p : List Mn} {vars : Int} (h : polyB p vars = true) {m : Mn} (hm : m ∈ p) : monB m = true := by
  obtain ⟨k, hk⟩ := List.mem_iff_getElem?.1 hm
  have := polyB_iff.1 h k (List.getElem?_eq_some_iff.1 hk).1
  unfold okAt at this
  rw [hk] at this
  simp only [Bool.and_eq_true] at this
  exact this.1.1

theorem smallR_eq {m : Mn} (h : monB m = true) : smallR m = smallB m := by
  have := length_le_of_right (monB_parts h).2.1
  unfold smallR smallB
  rw [decide_eq_true this, Bool.true_and, Bool.and_comm]

theorem all_congr' {α : Type} {p : List α} {f g : α → Bool} (h : ∀ x ∈ p, f x = g x) : p.all f = p.all g := by
  rw [Bool.eq_iff_iff, List.all_eq_true, List.all_eq_true]
  exact ⟨fun H x hx => h x hx ▸ H x hx, fun H x hx => (h x hx).symm ▸ H x hx⟩

theorem checkR_eq (p : List Mn) (vars : Int) : checkR p vars = checkE p vars := by
  unfold checkR checkE
  rw [polyR_eq]
  split
  · rfl
  · cases hp : polyB p vars
    · rfl
    · rw [all_congr' (fun m hm => smallR_eq (polyB_mon hp hm))]
      simp only [Bool.true_eq_false, if_false]
      unfold boundsB
      by_cases h : p.length ≤ 256
      · rw [decide_eq_true h, Bool.true_and, if_pos h]
      · rw [decide_eq_false h, Bool.false_and, if_neg h]
        split <;> rfl

end Go.Proofs.Ytfifgmcjilkigaa
