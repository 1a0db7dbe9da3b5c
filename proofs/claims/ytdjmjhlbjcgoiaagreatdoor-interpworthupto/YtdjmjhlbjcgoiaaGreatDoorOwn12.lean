/- Texts of the proof, one behind the other. -/
import Derived.Test.YtdjmjhlbjcgoiaaGreatDoorOwn10
import Derived.Deep.Quiet
import Derived.BigQuiet
import Derived.Test.YtdjmjhlbjcgoiaaGreatDoorOwn11
import Derived.Test.YtdjmjhlbjcgoiaaGreatDoorOwn8
import Derived.Deep.DeepAppendRoom
/- What the document's Check answers is what Check answers: plain data. -/
namespace Go.Proofs.YtdjmjhlbjcgoiaaGreatDoor
open Go.RowKit Go.Maps

/-- The document's order, from the front on. -/
def ordN : List Int → Int
  | [] => 0
  | b :: fs => if 0 < b then -1 else if b < 0 then 1 else ordN fs

def ordZ : List Int → List Int → Int
  | [], fs => ordN fs
  | a :: es, [] => if a < 0 then -1 else if 0 < a then 1 else ordZ es []
  | a :: es, b :: fs => if a < b then -1 else if b < a then 1 else ordZ es fs

theorem ordGo_eq (es fs : List Int) : ∀ n k, max es.length fs.length - k = n → ordGo es fs n k = ordZ (es.drop k) (fs.drop k) := by
  intro n
  induction n with
  | zero =>
    intro k hk
    rw [List.drop_of_length_le (by omega), List.drop_of_length_le (by omega)]
    rfl
  | succ n ih =>
    intro k hk
    rw [ordGo, ih (k + 1) (by omega)]
    by_cases h1 : k < es.length
    · have e1 : expI es k = es[k] := by unfold expI; rw [List.getElem?_eq_getElem h1]; rfl
      rw [List.drop_eq_getElem_cons h1, e1]
      by_cases h2 : k < fs.length
      · have e2 : expI fs k = fs[k] := by unfold expI; rw [List.getElem?_eq_getElem h2]; rfl
        rw [List.drop_eq_getElem_cons h2, e2]
        rfl
      · have e2 : expI fs k = 0 := by unfold expI; rw [List.getElem?_eq_none (by omega)]; rfl
        rw [e2, List.drop_of_length_le (show fs.length ≤ k by omega), List.drop_of_length_le (show fs.length ≤ k + 1 by omega)]
        rfl
    · have e1 : expI es k = 0 := by unfold expI; rw [List.getElem?_eq_none (by omega)]; rfl
      have h2 : k < fs.length := by omega
      have e2 : expI fs k = fs[k] := by unfold expI; rw [List.getElem?_eq_getElem h2]; rfl
      rw [e1, e2, List.drop_eq_getElem_cons h2, List.drop_of_length_le (show es.length ≤ k by omega), List.drop_of_length_le (show es.length ≤ k + 1 by omega)]
      rfl

theorem ordX_eq (es fs : List Int) : ordX es fs = ordZ es fs := by
  unfold ordX
  rw [ordGo_eq es fs _ 0 (by omega)]
  rfl

/-- Exponents as a monomial has them. -/
def RightX (es : List Int) : Prop := (∀ x ∈ es, 0 ≤ x) ∧ es.getLast? ≠ some 0

theorem RightX.tail {a : Int} {es : List Int} (h : RightX (a :: es)) (hne : es ≠ []) : RightX es :=
  ⟨fun x hx => h.1 x (List.mem_cons_of_mem _ hx), by have := h.2; rwa [List.getLast?_cons_of_ne_nil hne] at this⟩

theorem ordZ_nil_left : ∀ {fs : List Int}, RightX fs → fs ≠ [] → ordN fs = -1
  | [], _, h => absurd rfl h
  | b :: fs, h, _ => by
    unfold ordN
    have hb := h.1 b (by simp)
    by_cases h0 : 0 < b
    · rw [if_pos h0]
    · have hb0 : b = 0 := by omega
      subst hb0
      rw [if_neg (by omega), if_neg (by omega)]
      have hne : fs ≠ [] := by rintro rfl; exact h.2 rfl
      exact ordZ_nil_left (h.tail hne) hne

theorem ordZ_nil_right : ∀ {fs : List Int}, RightX fs → fs ≠ [] → ordZ fs [] = 1
  | [], _, h => absurd rfl h
  | b :: fs, h, _ => by
    unfold ordZ
    have hb := h.1 b (by simp)
    by_cases h0 : 0 < b
    · rw [if_neg (by omega), if_pos h0]
    · have hb0 : b = 0 := by omega
      subst hb0
      rw [if_neg (by omega), if_neg (by omega)]
      have hne : fs ≠ [] := by rintro rfl; exact h.2 rfl
      exact ordZ_nil_right (h.tail hne) hne

theorem ordZ_cmpX : ∀ {es fs : List Int}, (es = [] ∨ RightX es) → (fs = [] ∨ RightX fs) → ordZ es fs = cmpX es fs
  | [], [], _, _ => rfl
  | [], b :: fs, _, h => by show ordN (b :: fs) = _; rw [ordZ_nil_left (h.resolve_left (by simp)) (by simp)]; rfl
  | a :: es, [], h, _ => by rw [ordZ_nil_right (h.resolve_left (by simp)) (by simp)]; rfl
  | a :: es, b :: fs, h, h' => by
    have h1 := h.resolve_left (by simp)
    have h2 := h'.resolve_left (by simp)
    unfold ordZ cmpX
    split
    · rfl
    · split
      · rfl
      · refine ordZ_cmpX ?_ ?_
        · by_cases he : es = []
          · exact .inl he
          · exact .inr (h1.tail he)
        · by_cases he : fs = []
          · exact .inl he
          · exact .inr (h2.tail he)

theorem monB_parts {m : Mn} (h : monB m = true) : m.1 ≠ [] ∧ rightB m.1 = true ∧ (m.2 = [] ∨ RightX m.2) := by
  obtain ⟨c, es⟩ := m
  simp only [monB, Bool.and_eq_true, List.all_eq_true, decide_eq_true_eq, Bool.or_eq_true, Bool.not_eq_true', beq_eq_false_iff_ne, ne_eq, beq_iff_eq] at h
  obtain ⟨⟨⟨h1, h2⟩, h3⟩, h4⟩ := h
  refine ⟨fun e => h1 (by simp only at e; rw [e]; rfl), h2, ?_⟩
  by_cases he : es = []
  · exact .inl he
  · refine .inr ⟨h3, ?_⟩
    rcases h4 with h4 | h4
    · exact absurd (List.eq_nil_of_length_eq_zero h4) he
    · rw [List.getLast?_eq_getElem?]
      exact h4

theorem ordX_cmpX {m n : Mn} (h : monB m = true) (h' : monB n = true) : ordX m.2 n.2 = cmpX m.2 n.2 := by
  rw [ordX_eq]
  exact ordZ_cmpX (monB_parts h).2.2 (monB_parts h').2.2

/-- Whether the monomial of that number is right where it stands, as the document's Check asks it. -/
def okR (p : List Mn) (vars : Int) (k : Nat) : Bool :=
  (match p[k]? with | some m => monB m && decide ((m.2.length : Int) ≤ vars) | none => false) && (k == 0 || decide (ordX (expsAt p (k - 1)) (expsAt p k) < 0))

def polyR (p : List Mn) (vars : Int) : Bool := (List.range p.length).all (okR p vars)

theorem polyR_iff {p : List Mn} {vars : Int} : polyR p vars = true ↔ ∀ k, k < p.length → okR p vars k = true := by
  simp [polyR, List.all_eq_true]

def checkR (p : List Mn) (vars : Int) : Int := if vars < 0 then 1 else if polyR p vars = false then 20 else if p.all smallR = false then 2 else if p.length ≤ 256 then 0 else 2

theorem polyR_eq (p : List Mn) (vars : Int) : polyR p vars = polyB p vars := by
  have key : (∀ k, k < p.length → ∃ m, p[k]? = some m ∧ monB m = true) → ∀ k, k < p.length → okR p vars k = okAt p vars k := by
    intro hm k hk
    unfold okR okAt
    by_cases h0 : k = 0
    · subst h0
      obtain ⟨m, h1, _⟩ := hm 0 hk
      rw [h1]
      simp
    · obtain ⟨m, h1, h2⟩ := hm k hk
      obtain ⟨n, h3, h4⟩ := hm (k - 1) (by omega)
      have e : ordX (expsAt p (k - 1)) (expsAt p k) = cmpX (expsAt p (k - 1)) (expsAt p k) := by
        unfold expsAt
        rw [h1, h3]
        exact ordX_cmpX h4 h2
      rw [e, h1]
  have mon1 : (∀ k, k < p.length → okR p vars k = true) → ∀ k, k < p.length → ∃ m, p[k]? = some m ∧ monB m = true := by
    intro h k hk
    have := h k hk
    unfold okR at this
    rw [List.getElem?_eq_getElem hk] at this ⊢
    simp only [Bool.and_eq_true] at this
    exact ⟨_, rfl, this.1.1⟩
  have mon2 : (∀ k, k < p.length → okAt p vars k = true) → ∀ k, k < p.length → ∃ m, p[k]? = some m ∧ monB m = true := by
    intro h k hk
    have := h k hk
    unfold okAt at this
    rw [List.getElem?_eq_getElem hk] at this ⊢
    simp only [Bool.and_eq_true] at this
    exact ⟨_, rfl, this.1.1⟩
  rw [Bool.eq_iff_iff, polyR_iff, polyB_iff]
  exact ⟨fun h k hk => (key (mon1 h) k hk) ▸ h k hk, fun h k hk => (key (mon2 h) k hk).symm ▸ h k hk⟩

theorem polyB_mon {p : List Mn} {vars : Int} (h : polyB p vars = true) {m : Mn} (hm : m ∈ p) : monB m = true := by
  obtain ⟨k, hk⟩ := List.mem_iff_getElem?.1 hm
  have := polyB_iff.1 h k (List.getElem?_eq_some_iff.1 hk).1
  unfold okAt at this
  rw [hk] at this
  simp only [Bool.and_eq_true] at this
  exact this.1.1

theorem smallR_eq {m : Mn} (h : monB m = true) : smallR m = smallB m := by
  have := length_le_of_right (monB_parts h).2.1
  unfold smallR smallB
  rw [decide_eq_true this, Bool.true_and, Bool.and_comm]

theorem all_congr' {α : Type} {p : List α} {f g : α → Bool} (h : ∀ x ∈ p, f x = g x) : p.all f = p.all g := by
  rw [Bool.eq_iff_iff, List.all_eq_true, List.all_eq_true]
  exact ⟨fun H x hx => h x hx ▸ H x hx, fun H x hx => (h x hx).symm ▸ H x hx⟩

theorem checkR_eq (p : List Mn) (vars : Int) : checkR p vars = checkE p vars := by
  unfold checkR checkE
  rw [polyR_eq]
  split
  · rfl
  · cases hp : polyB p vars
    · rfl
    · rw [all_congr' (fun m hm => smallR_eq (polyB_mon hp hm))]
      simp only [Bool.true_eq_false, if_false]
      unfold boundsB
      by_cases h : p.length ≤ 256
      · rw [decide_eq_true h, Bool.true_and, if_pos h]
      · rw [decide_eq_false h, Bool.false_and, if_neg h]
        split <;> rfl

end Go.Proofs.YtdjmjhlbjcgoiaaGreatDoor

/- What the document's Check answers. -/
namespace Go.Proofs.YtdjmjhlbjcgoiaaGreatDoor
open Go.RowKit Go.Maps Go.BigFrame

theorem okR_no {p : List Mn} {vars : Int} {k : Nat} {m : Mn} (hk : p[k]? = some m) (h : (monB m && decide ((m.2.length : Int) ≤ vars)) = false) : okR p vars k = false := by
  unfold okR
  rw [hk]
  simp only [h, Bool.false_and]

theorem okR_0 {p : List Mn} {vars : Int} {m : Mn} (hk : p[0]? = some m) (h : (monB m && decide ((m.2.length : Int) ≤ vars)) = true) : okR p vars 0 = true := by
  unfold okR
  rw [hk]
  simp only [h]
  rfl

theorem okR_s {p : List Mn} {vars : Int} {j : Nat} {m n : Mn} (hk : p[j + 1]? = some m) (hj : p[j]? = some n) (h : (monB m && decide ((m.2.length : Int) ≤ vars)) = true) : okR p vars (j + 1) = decide (ordX n.2 m.2 < 0) := by
  unfold okR expsAt
  rw [hk, Nat.add_sub_cancel, hj]
  simp only [h, Bool.true_and, Option.map_some, Option.getD_some]
  rw [show (j + 1 == 0) = false from rfl, Bool.false_or]

theorem polyR_no {p : List Mn} {vars : Int} {k : Nat} (hk : k < p.length) (h : okR p vars k = false) : polyR p vars = false := by
  rw [Bool.eq_false_iff]
  intro hh
  rw [polyR_iff.1 hh k hk] at h
  cases h

theorem region_belowY {P : Program} {id : Nat} {Q : Exit → Act → World → Prop} {a : Act} {w : World} {l : List Oper} (hm : P.follows .mixedOrders = true) (hB : Region.lexB .any l.toArray = true)
    (h : wpQuiet P l.toArray (fun w' => Below w.heap.size w w') (fun a' => ∀ w', Below w.heap.size w w' → Q .normal a' w') l a) : (Code.region id l.toArray true).wp P Q a w :=
  wp_region_quiet (C := fun w' => Below w.heap.size w w') hm hB (Below.refl _ _).drew (by simpa using h)

set_option maxRecDepth 100000 in
set_option maxHeartbeats 40000000 in
theorem refCheck_anyY (v : Value) (p : List Mn) (vars : Int) (w : World) (h : Ms w v p) (hv1 : -9223372036854775808 ≤ vars) (hv2 : vars ≤ 9223372036854775807) :
    Calls Tryz.prog 42 #[v, .int .i64 vars] w fun e w' => e = .returned (.int .i64 (checkR p vars)) ∧ Below w.heap.size w w' := by
  by_cases h0 : vars < 0
  · have HF : Hid (checkR p vars = 1) := by show _ = _; unfold checkR; rw [if_pos h0]
    go_enter Tryz.func42, Tryz.ntmps42
    go_wp2
    go_ret
    exact ⟨ret1i HF.out.symm, Below.refl _ _⟩
  have H0 : Hid (0 ≤ vars) := by show _ ≤ _; omega
  have hnn : 0 ≤ vars := by omega
  obtain ⟨ao, cap, rfl, hao, hca, q0⟩ := Row.flat h
  unfold maxLen at hca
  have HM : Hid (Ms w (.slice ao p.length cap) p) := h
  clear h q0 h0
  go_enter Tryz.func42, Tryz.ntmps42
  go_wp2
  go_loopw [5] (fun i wr => ∃ k : Nat, k ≤ p.length ∧ i = .int .i64 k ∧ (∀ j : Nat, j < k → okR p vars j = true) ∧ Below w.heap.size w wr) (fun i _ => p.length - (intOf i).toNat)
  case atStart => exact ⟨0, by omega, rfl, fun j hj => absurd hj (by omega), Below.refl _ _⟩
  case round =>
    obtain ⟨k, hk, rfl, hp, hbl⟩ := hrel
    have HP : Hid (∀ j : Nat, j < k → okR p vars j = true) := hp
    clear hp
    by_cases hlt : k < p.length
    · have HMr : Hid (Ms wr (.slice ao p.length cap) p) := HM.out.kp (Kp.of_below hbl)
      obtain ⟨g, off, c, es, a1, c1, a2, c2, rfl, hm1, hc0, hc1, hmo, hl1, hl2, hl3, hl4⟩ := HMr.out.at hlt
      have HX : Hid (p[k]? = some (c, es)) := hm1
      have HMo : Hid (Mo wr (.slice a1 c.length c1) (.slice a2 es.length c2) (c, es)) := hmo
      have HBd : Hid (Below w.heap.size w wr) := hbl
      clear hm1 hmo
      cases hmb : monB (c, es)
      · have HF : Hid (checkR p vars = 20) := by
          show _ = _
          unfold checkR
          rw [if_neg (Int.not_lt.2 H0.out), if_pos (polyR_no hlt (okR_no HX.out (by rw [hmb]; rfl)))]
        have HMb : Hid (monB (c, es) = false) := hmb
        clear hmb
        go_wp2_with fail
        refine region_belowY (by kernel_rfl) (by kernel_rfl) ?_
        (go_big_quiet_want; go_big_quiet_op; go_big_quiet_on)
        (go_big_quiet_want; go_big_quiet_op; go_big_quiet_on)
        go_big_quiet_want
        refine ⟨.pointer (some ⟨g, off + k * 2, none⟩), fun w' hw' => ?_, ?_⟩
        · unfold Oper.quietAt; go_simp
        simp only [Act.put, List.setIfInBounds_toArray, List.set_cons_zero, List.set_cons_succ]
        go_big_quiet_on
        go_big_quiet_want
        refine ⟨.agg #[.slice a1 c.length c1, .slice a2 es.length c2], fun w' hw' => ?_, ?_⟩
        · have hh0 := (Kp.of_below hw').cell _ _ hc0; have hh1 := (Kp.of_below hw').cell _ _ hc1; unfold Oper.quietAt; go_simp
        simp only [Act.put, List.setIfInBounds_toArray, List.set_cons_zero, List.set_cons_succ]
        go_big_quiet_on
        go_big_quiet_want
        refine ⟨.bool false, fun w' hw' => ?_, ?_⟩
        · unfold Oper.quietAt; go_simp; exact (refForm_any _ _ (c, es) _ (HMo.out.kp (Kp.of_below hw'))).mono (fun e w1 ⟨he, hb⟩ => ⟨by rw [he, HMb.out], below_step hw' hb⟩)
        simp only [Act.put, List.setIfInBounds_toArray, List.set_cons_zero, List.set_cons_succ]
        go_big_quiet_on
        go_big_quiet_want
        refine ⟨.bool true, fun w' hw' => ?_, ?_⟩
        · unfold Oper.quietAt; go_simp
        simp only [Act.put, List.setIfInBounds_toArray, List.set_cons_zero, List.set_cons_succ]
        go_big_quiet_on
        (go_big_quiet_want; go_big_quiet_op; go_big_quiet_on)
        go_big_quiet_skip
        go_big_quiet_skip
        go_big_quiet_skip
        go_big_quiet_skip
        go_big_quiet_skip
        go_big_quiet_skip
        go_big_quiet_skip
        go_big_quiet_skip
        go_big_quiet_want
        refine ⟨.bool true, fun w' hw' => ?_, ?_⟩
        · unfold Oper.quietAt; go_simp
        simp only [Act.put, List.setIfInBounds_toArray, List.set_cons_zero, List.set_cons_succ]
        go_big_quiet_on
        (go_big_quiet_want; go_big_quiet_op; go_big_quiet_on)
        go_big_quiet_skip
        go_big_quiet_skip
        go_big_quiet_skip
        go_big_quiet_skip
        go_big_quiet_skip
        go_big_quiet_skip
        go_big_quiet_skip
        go_big_quiet_skip
        go_big_quiet_skip
        go_big_quiet_skip
        go_big_quiet_skip
        go_big_quiet_skip
        go_big_quiet_skip
        go_big_quiet_skip
        go_big_quiet_skip
        go_big_quiet_skip
        go_big_quiet_skip
        go_big_quiet_want
        refine ⟨.bool true, fun w' hw' => ?_, ?_⟩
        · unfold Oper.quietAt; go_simp
        simp only [Act.put, List.setIfInBounds_toArray, List.set_cons_zero, List.set_cons_succ]
        go_big_quiet_on
        refine wpQuiet_nil ?_
        intro w1 hb1
        go_wp2
        go_ret
        exact ⟨ret1i HF.out.symm, below_step HBd.out hb1⟩
      have HMb : Hid (monB (c, es) = true) := hmb
      clear hmb
      by_cases hv : (es.length : Int) ≤ vars
      · have hT : (monB (c, es) && decide (((c, es).2.length : Int) ≤ vars)) = true := by rw [HMb.out]; simpa using hv
        have HT : Hid ((monB (c, es) && decide (((c, es).2.length : Int) ≤ vars)) = true) := hT
        clear hT
        by_cases hk0 : k = 0
        · subst hk0
          have HO : Hid (okR p vars 0 = true) := okR_0 HX.out HT.out
          rw [Nat.zero_mul, Nat.add_zero] at hc0 hc1
          go_wp2_with fail
          refine region_belowY (by kernel_rfl) (by kernel_rfl) ?_
          (go_big_quiet_want; go_big_quiet_op; go_big_quiet_on)
          (go_big_quiet_want; go_big_quiet_op; go_big_quiet_on)
          go_big_quiet_want
          refine ⟨.pointer (some ⟨g, off, none⟩), fun w' hw' => ?_, ?_⟩
          · unfold Oper.quietAt; go_simp
          simp only [Act.put, List.setIfInBounds_toArray, List.set_cons_zero, List.set_cons_succ]
          go_big_quiet_on
          go_big_quiet_want
          refine ⟨.agg #[.slice a1 c.length c1, .slice a2 es.length c2], fun w' hw' => ?_, ?_⟩
          · have hh0 := (Kp.of_below hw').cell _ _ hc0; have hh1 := (Kp.of_below hw').cell _ _ hc1; unfold Oper.quietAt; go_simp
          simp only [Act.put, List.setIfInBounds_toArray, List.set_cons_zero, List.set_cons_succ]
          go_big_quiet_on
          go_big_quiet_want
          refine ⟨.bool true, fun w' hw' => ?_, ?_⟩
          · unfold Oper.quietAt; go_simp; exact (refForm_any _ _ (c, es) _ (HMo.out.kp (Kp.of_below hw'))).mono (fun e w1 ⟨he, hb⟩ => ⟨by rw [he, HMb.out], below_step hw' hb⟩)
          simp only [Act.put, List.setIfInBounds_toArray, List.set_cons_zero, List.set_cons_succ]
          go_big_quiet_on
          go_big_quiet_want
          refine ⟨.bool false, fun w' hw' => ?_, ?_⟩
          · unfold Oper.quietAt; go_simp
          simp only [Act.put, List.setIfInBounds_toArray, List.set_cons_zero, List.set_cons_succ]
          go_big_quiet_on
          (go_big_quiet_want; go_big_quiet_op; go_big_quiet_on)
          (go_big_quiet_want; go_big_quiet_op; go_big_quiet_on)
          (go_big_quiet_want; go_big_quiet_op; go_big_quiet_on)
          go_big_quiet_want
          refine ⟨.pointer (some ⟨g, off, none⟩), fun w' hw' => ?_, ?_⟩
          · unfold Oper.quietAt; go_simp
          simp only [Act.put, List.setIfInBounds_toArray, List.set_cons_zero, List.set_cons_succ]
          go_big_quiet_on
          go_big_quiet_want
          refine ⟨.pointer (some ⟨g, off + 1, none⟩), fun w' hw' => ?_, ?_⟩
          · unfold Oper.quietAt; go_simp
          simp only [Act.put, List.setIfInBounds_toArray, List.set_cons_zero, List.set_cons_succ]
          go_big_quiet_on
          go_big_quiet_want
          refine ⟨.slice a2 es.length c2, fun w' hw' => ?_, ?_⟩
          · have hh := (Kp.of_below hw').cell _ _ hc1; unfold Oper.quietAt; go_simp
          simp only [Act.put, List.setIfInBounds_toArray, List.set_cons_zero, List.set_cons_succ]
          go_big_quiet_on
          go_big_quiet_want
          refine ⟨.int .i64 (es.length : Int), fun w' hw' => ?_, ?_⟩
          · unfold Oper.quietAt; go_simp
          simp only [Act.put, List.setIfInBounds_toArray, List.set_cons_zero, List.set_cons_succ]
          go_big_quiet_on
          (go_big_quiet_want; go_big_quiet_op; go_big_quiet_on)
          go_big_quiet_want
          refine ⟨.bool false, fun w' hw' => ?_, ?_⟩
          · unfold Oper.quietAt; go_simp
          simp only [Act.put, List.setIfInBounds_toArray, List.set_cons_zero, List.set_cons_succ]
          go_big_quiet_on
          go_big_quiet_want
          refine ⟨.bool false, fun w' hw' => ?_, ?_⟩
          · unfold Oper.quietAt; go_simp
          simp only [Act.put, List.setIfInBounds_toArray, List.set_cons_zero, List.set_cons_succ]
          go_big_quiet_on
          (go_big_quiet_want; go_big_quiet_op; go_big_quiet_on)
          (go_big_quiet_want; go_big_quiet_op; go_big_quiet_on)
          go_big_quiet_want
          refine ⟨.bool false, fun w' hw' => ?_, ?_⟩
          · unfold Oper.quietAt; go_simp
          simp only [Act.put, List.setIfInBounds_toArray, List.set_cons_zero, List.set_cons_succ]
          go_big_quiet_on
          (go_big_quiet_want; go_big_quiet_op; go_big_quiet_on)
          go_big_quiet_skip
          go_big_quiet_skip
          go_big_quiet_skip
          go_big_quiet_skip
          go_big_quiet_skip
          go_big_quiet_skip
          go_big_quiet_skip
          go_big_quiet_skip
          go_big_quiet_skip
          go_big_quiet_skip
          go_big_quiet_skip
          go_big_quiet_skip
          go_big_quiet_skip
          go_big_quiet_want
          refine ⟨.bool false, fun w' hw' => ?_, ?_⟩
          · unfold Oper.quietAt; go_simp
          simp only [Act.put, List.setIfInBounds_toArray, List.set_cons_zero, List.set_cons_succ]
          go_big_quiet_on
          go_big_quiet_want
          refine ⟨.bool false, fun w' hw' => ?_, ?_⟩
          · unfold Oper.quietAt; go_simp
          simp only [Act.put, List.setIfInBounds_toArray, List.set_cons_zero, List.set_cons_succ]
          go_big_quiet_on
          refine wpQuiet_nil ?_
          intro w1 hb1
          have HB1 : Hid (Below w.heap.size w w1) := below_step HBd.out hb1
          clear hb1
          go_wp2
          go_roundw
          case rel => exact ⟨1, by omega, by go_num, fun j hj => by obtain rfl : j = 0 := Nat.lt_one_iff.1 hj; exact HO.out, HB1.out⟩
          case measure => simp [intOf]; omega
        · obtain ⟨j, rfl⟩ : ∃ j, k = j + 1 := ⟨k - 1, by omega⟩
          clear hk0
          obtain ⟨g', off', d, fs, b1, d1, b2, d2, hq, hm2, he0, he1, hmo2, hk1, hk2, hk3, hk4⟩ := HMr.out.at (k := j) (by omega)
          obtain ⟨rfl, rfl⟩ : g = g' ∧ off = off' := by simpa using hq
          have HX2 : Hid (p[j]? = some (d, fs)) := hm2
          have HI2 : Hid (Is wr (.slice b2 fs.length d2) fs) := hmo2.2
          have HO : Hid (okR p vars (j + 1) = decide (ordX fs es < 0)) := okR_s HX.out HX2.out HT.out
          obtain ⟨O, hO⟩ : ∃ O, O = ordX fs es := ⟨_, rfl⟩
          have HOe : Hid (O = ordX fs es) := hO
          rw [← hO] at HO
          clear hm2 hmo2 he0 hq hO
          have hg0 : (0 : Int) < (j : Int) + 1 := by omega
          have hg1 : (0 : Int) ≤ (j : Int) + 1 := by omega
          have HJw : Hid (IntKind.i64.wrap (j : Int) = (j : Int)) := IntWalk.i64_in _ ⟨by omega, by omega⟩
          have hjl : j < p.length := by omega
          by_cases hneg : O < 0
          · obtain ⟨BO, hBO⟩ : ∃ B, B = false := ⟨_, rfl⟩
            have hdn : decide (0 ≤ O) = BO := by rw [hBO]; exact decide_eq_false (by omega)
            have HOk : Hid (okR p vars (j + 1) = true) := by show _ = _; rw [HO.out]; exact decide_eq_true hneg
            clear hneg
            go_wp2_with fail
            refine region_belowY (by kernel_rfl) (by kernel_rfl) ?_
            (go_big_quiet_want; go_big_quiet_op; go_big_quiet_on)
            (go_big_quiet_want; go_big_quiet_op; go_big_quiet_on)
            go_big_quiet_want
            refine ⟨.pointer (some ⟨g, off + (j + 1) * 2, none⟩), fun w' hw' => ?_, ?_⟩
            · unfold Oper.quietAt; go_simp
            simp only [Act.put, List.setIfInBounds_toArray, List.set_cons_zero, List.set_cons_succ]
            go_big_quiet_on
            go_big_quiet_want
            refine ⟨.agg #[.slice a1 c.length c1, .slice a2 es.length c2], fun w' hw' => ?_, ?_⟩
            · have hh0 := (Kp.of_below hw').cell _ _ hc0; have hh1 := (Kp.of_below hw').cell _ _ hc1; unfold Oper.quietAt; go_simp
            simp only [Act.put, List.setIfInBounds_toArray, List.set_cons_zero, List.set_cons_succ]
            go_big_quiet_on
            go_big_quiet_want
            refine ⟨.bool true, fun w' hw' => ?_, ?_⟩
            · unfold Oper.quietAt; go_simp; exact (refForm_any _ _ (c, es) _ (HMo.out.kp (Kp.of_below hw'))).mono (fun e w1 ⟨he, hb⟩ => ⟨by rw [he, HMb.out], below_step hw' hb⟩)
            simp only [Act.put, List.setIfInBounds_toArray, List.set_cons_zero, List.set_cons_succ]
            go_big_quiet_on
            go_big_quiet_want
            refine ⟨.bool false, fun w' hw' => ?_, ?_⟩
            · unfold Oper.quietAt; go_simp
            simp only [Act.put, List.setIfInBounds_toArray, List.set_cons_zero, List.set_cons_succ]
            go_big_quiet_on
            (go_big_quiet_want; go_big_quiet_op; go_big_quiet_on)
            (go_big_quiet_want; go_big_quiet_op; go_big_quiet_on)
            (go_big_quiet_want; go_big_quiet_op; go_big_quiet_on)
            go_big_quiet_want
            refine ⟨.pointer (some ⟨g, off + (j + 1) * 2, none⟩), fun w' hw' => ?_, ?_⟩
            · unfold Oper.quietAt; go_simp
            simp only [Act.put, List.setIfInBounds_toArray, List.set_cons_zero, List.set_cons_succ]
            go_big_quiet_on
            go_big_quiet_want
            refine ⟨.pointer (some ⟨g, off + (j + 1) * 2 + 1, none⟩), fun w' hw' => ?_, ?_⟩
            · unfold Oper.quietAt; go_simp
            simp only [Act.put, List.setIfInBounds_toArray, List.set_cons_zero, List.set_cons_succ]
            go_big_quiet_on
            go_big_quiet_want
            refine ⟨.slice a2 es.length c2, fun w' hw' => ?_, ?_⟩
            · have hh := (Kp.of_below hw').cell _ _ hc1; unfold Oper.quietAt; go_simp
            simp only [Act.put, List.setIfInBounds_toArray, List.set_cons_zero, List.set_cons_succ]
            go_big_quiet_on
            go_big_quiet_want
            refine ⟨.int .i64 (es.length : Int), fun w' hw' => ?_, ?_⟩
            · unfold Oper.quietAt; go_simp
            simp only [Act.put, List.setIfInBounds_toArray, List.set_cons_zero, List.set_cons_succ]
            go_big_quiet_on
            (go_big_quiet_want; go_big_quiet_op; go_big_quiet_on)
            go_big_quiet_want
            refine ⟨.bool false, fun w' hw' => ?_, ?_⟩
            · unfold Oper.quietAt; go_simp
            simp only [Act.put, List.setIfInBounds_toArray, List.set_cons_zero, List.set_cons_succ]
            go_big_quiet_on
            go_big_quiet_want
            refine ⟨.bool false, fun w' hw' => ?_, ?_⟩
            · unfold Oper.quietAt; go_simp
            simp only [Act.put, List.setIfInBounds_toArray, List.set_cons_zero, List.set_cons_succ]
            go_big_quiet_on
            (go_big_quiet_want; go_big_quiet_op; go_big_quiet_on)
            (go_big_quiet_want; go_big_quiet_op; go_big_quiet_on)
            go_big_quiet_want
            refine ⟨.bool true, fun w' hw' => ?_, ?_⟩
            · unfold Oper.quietAt; go_simp
            simp only [Act.put, List.setIfInBounds_toArray, List.set_cons_zero, List.set_cons_succ]
            go_big_quiet_on
            (go_big_quiet_want; go_big_quiet_op; go_big_quiet_on)
            (go_big_quiet_want; go_big_quiet_op; go_big_quiet_on)
            (go_big_quiet_want; go_big_quiet_op; go_big_quiet_on)
            go_big_quiet_want
            refine ⟨.int .i64 (j : Int), fun w' hw' => ?_, ?_⟩
            · unfold Oper.quietAt; go_simp; exact HJw.out
            simp only [Act.put, List.setIfInBounds_toArray, List.set_cons_zero, List.set_cons_succ]
            go_big_quiet_on
            go_big_quiet_want
            refine ⟨.pointer (some ⟨g, off + j * 2, none⟩), fun w' hw' => ?_, ?_⟩
            · unfold Oper.quietAt; go_simp
            simp only [Act.put, List.setIfInBounds_toArray, List.set_cons_zero, List.set_cons_succ]
            go_big_quiet_on
            go_big_quiet_want
            refine ⟨.pointer (some ⟨g, off + j * 2 + 1, none⟩), fun w' hw' => ?_, ?_⟩
            · unfold Oper.quietAt; go_simp
            simp only [Act.put, List.setIfInBounds_toArray, List.set_cons_zero, List.set_cons_succ]
            go_big_quiet_on
            go_big_quiet_want
            refine ⟨.slice b2 fs.length d2, fun w' hw' => ?_, ?_⟩
            · have hh := (Kp.of_below hw').cell _ _ he1; unfold Oper.quietAt; go_simp
            simp only [Act.put, List.setIfInBounds_toArray, List.set_cons_zero, List.set_cons_succ]
            go_big_quiet_on
            (go_big_quiet_want; go_big_quiet_op; go_big_quiet_on)
            (go_big_quiet_want; go_big_quiet_op; go_big_quiet_on)
            go_big_quiet_want
            refine ⟨.pointer (some ⟨g, off + (j + 1) * 2, none⟩), fun w' hw' => ?_, ?_⟩
            · unfold Oper.quietAt; go_simp
            simp only [Act.put, List.setIfInBounds_toArray, List.set_cons_zero, List.set_cons_succ]
            go_big_quiet_on
            go_big_quiet_want
            refine ⟨.pointer (some ⟨g, off + (j + 1) * 2 + 1, none⟩), fun w' hw' => ?_, ?_⟩
            · unfold Oper.quietAt; go_simp
            simp only [Act.put, List.setIfInBounds_toArray, List.set_cons_zero, List.set_cons_succ]
            go_big_quiet_on
            go_big_quiet_want
            refine ⟨.slice a2 es.length c2, fun w' hw' => ?_, ?_⟩
            · have hh := (Kp.of_below hw').cell _ _ hc1; unfold Oper.quietAt; go_simp
            simp only [Act.put, List.setIfInBounds_toArray, List.set_cons_zero, List.set_cons_succ]
            go_big_quiet_on
            go_big_quiet_want
            refine ⟨.int .i64 O, fun w' hw' => ?_, ?_⟩
            · unfold Oper.quietAt; go_simp; exact (refOrder_any _ _ fs es _ (HI2.out.kp (Kp.of_below hw')) (HMo.out.2.kp (Kp.of_below hw'))).mono (fun e w1 ⟨he, hw9⟩ => ⟨by rw [he, ← HOe.out], by rw [hw9]; exact hw'⟩)
            simp only [Act.put, List.setIfInBounds_toArray, List.set_cons_zero, List.set_cons_succ]
            go_big_quiet_on
            go_big_quiet_want
            refine ⟨.bool BO, fun w' hw' => ?_, ?_⟩
            · unfold Oper.quietAt; go_simp
            simp only [Act.put, List.setIfInBounds_toArray, List.set_cons_zero, List.set_cons_succ]
            go_big_quiet_on
            go_big_quiet_want
            refine ⟨.bool BO, fun w' hw' => ?_, ?_⟩
            · unfold Oper.quietAt; go_simp
            simp only [Act.put, List.setIfInBounds_toArray, List.set_cons_zero, List.set_cons_succ]
            go_big_quiet_on
            go_big_quiet_want
            refine ⟨.bool BO, fun w' hw' => ?_, ?_⟩
            · unfold Oper.quietAt; go_simp
            simp only [Act.put, List.setIfInBounds_toArray, List.set_cons_zero, List.set_cons_succ]
            go_big_quiet_on
            refine wpQuiet_nil ?_
            intro w1 hb1
            subst hBO
            have HB1 : Hid (Below w.heap.size w w1) := below_step HBd.out hb1
            clear hb1
            go_wp2
            go_roundw
            case rel =>
              refine ⟨j + 1 + 1, by omega, by go_num, fun i hi => ?_, HB1.out⟩
              by_cases hij : i = j + 1
              · subst hij; exact HOk.out
              · exact HP.out i (by omega)
            case measure => simp [intOf]; omega
          · obtain ⟨BO, hBO⟩ : ∃ B, B = true := ⟨_, rfl⟩
            have hdn : decide (0 ≤ O) = BO := by rw [hBO]; exact decide_eq_true (by omega)
            have HF : Hid (checkR p vars = 20) := by
              show _ = _
              unfold checkR
              rw [if_neg (Int.not_lt.2 H0.out), if_pos (polyR_no hlt (HO.out.trans (decide_eq_false hneg)))]
            clear hneg
            go_wp2_with fail
            refine region_belowY (by kernel_rfl) (by kernel_rfl) ?_
            (go_big_quiet_want; go_big_quiet_op; go_big_quiet_on)
            (go_big_quiet_want; go_big_quiet_op; go_big_quiet_on)
            go_big_quiet_want
            refine ⟨.pointer (some ⟨g, off + (j + 1) * 2, none⟩), fun w' hw' => ?_, ?_⟩
            · unfold Oper.quietAt; go_simp
            simp only [Act.put, List.setIfInBounds_toArray, List.set_cons_zero, List.set_cons_succ]
            go_big_quiet_on
            go_big_quiet_want
            refine ⟨.agg #[.slice a1 c.length c1, .slice a2 es.length c2], fun w' hw' => ?_, ?_⟩
            · have hh0 := (Kp.of_below hw').cell _ _ hc0; have hh1 := (Kp.of_below hw').cell _ _ hc1; unfold Oper.quietAt; go_simp
            simp only [Act.put, List.setIfInBounds_toArray, List.set_cons_zero, List.set_cons_succ]
            go_big_quiet_on
            go_big_quiet_want
            refine ⟨.bool true, fun w' hw' => ?_, ?_⟩
            · unfold Oper.quietAt; go_simp; exact (refForm_any _ _ (c, es) _ (HMo.out.kp (Kp.of_below hw'))).mono (fun e w1 ⟨he, hb⟩ => ⟨by rw [he, HMb.out], below_step hw' hb⟩)
            simp only [Act.put, List.setIfInBounds_toArray, List.set_cons_zero, List.set_cons_succ]
            go_big_quiet_on
            go_big_quiet_want
            refine ⟨.bool false, fun w' hw' => ?_, ?_⟩
            · unfold Oper.quietAt; go_simp
            simp only [Act.put, List.setIfInBounds_toArray, List.set_cons_zero, List.set_cons_succ]
            go_big_quiet_on
            (go_big_quiet_want; go_big_quiet_op; go_big_quiet_on)
            (go_big_quiet_want; go_big_quiet_op; go_big_quiet_on)
            (go_big_quiet_want; go_big_quiet_op; go_big_quiet_on)
            go_big_quiet_want
            refine ⟨.pointer (some ⟨g, off + (j + 1) * 2, none⟩), fun w' hw' => ?_, ?_⟩
            · unfold Oper.quietAt; go_simp
            simp only [Act.put, List.setIfInBounds_toArray, List.set_cons_zero, List.set_cons_succ]
            go_big_quiet_on
            go_big_quiet_want
            refine ⟨.pointer (some ⟨g, off + (j + 1) * 2 + 1, none⟩), fun w' hw' => ?_, ?_⟩
            · unfold Oper.quietAt; go_simp
            simp only [Act.put, List.setIfInBounds_toArray, List.set_cons_zero, List.set_cons_succ]
            go_big_quiet_on
            go_big_quiet_want
            refine ⟨.slice a2 es.length c2, fun w' hw' => ?_, ?_⟩
            · have hh := (Kp.of_below hw').cell _ _ hc1; unfold Oper.quietAt; go_simp
            simp only [Act.put, List.setIfInBounds_toArray, List.set_cons_zero, List.set_cons_succ]
            go_big_quiet_on
            go_big_quiet_want
            refine ⟨.int .i64 (es.length : Int), fun w' hw' => ?_, ?_⟩
            · unfold Oper.quietAt; go_simp
            simp only [Act.put, List.setIfInBounds_toArray, List.set_cons_zero, List.set_cons_succ]
            go_big_quiet_on
            (go_big_quiet_want; go_big_quiet_op; go_big_quiet_on)
            go_big_quiet_want
            refine ⟨.bool false, fun w' hw' => ?_, ?_⟩
            · unfold Oper.quietAt; go_simp
            simp only [Act.put, List.setIfInBounds_toArray, List.set_cons_zero, List.set_cons_succ]
            go_big_quiet_on
            go_big_quiet_want
            refine ⟨.bool false, fun w' hw' => ?_, ?_⟩
            · unfold Oper.quietAt; go_simp
            simp only [Act.put, List.setIfInBounds_toArray, List.set_cons_zero, List.set_cons_succ]
            go_big_quiet_on
            (go_big_quiet_want; go_big_quiet_op; go_big_quiet_on)
            (go_big_quiet_want; go_big_quiet_op; go_big_quiet_on)
            go_big_quiet_want
            refine ⟨.bool true, fun w' hw' => ?_, ?_⟩
            · unfold Oper.quietAt; go_simp
            simp only [Act.put, List.setIfInBounds_toArray, List.set_cons_zero, List.set_cons_succ]
            go_big_quiet_on
            (go_big_quiet_want; go_big_quiet_op; go_big_quiet_on)
            (go_big_quiet_want; go_big_quiet_op; go_big_quiet_on)
            (go_big_quiet_want; go_big_quiet_op; go_big_quiet_on)
            go_big_quiet_want
            refine ⟨.int .i64 (j : Int), fun w' hw' => ?_, ?_⟩
            · unfold Oper.quietAt; go_simp; exact HJw.out
            simp only [Act.put, List.setIfInBounds_toArray, List.set_cons_zero, List.set_cons_succ]
            go_big_quiet_on
            go_big_quiet_want
            refine ⟨.pointer (some ⟨g, off + j * 2, none⟩), fun w' hw' => ?_, ?_⟩
            · unfold Oper.quietAt; go_simp
            simp only [Act.put, List.setIfInBounds_toArray, List.set_cons_zero, List.set_cons_succ]
            go_big_quiet_on
            go_big_quiet_want
            refine ⟨.pointer (some ⟨g, off + j * 2 + 1, none⟩), fun w' hw' => ?_, ?_⟩
            · unfold Oper.quietAt; go_simp
            simp only [Act.put, List.setIfInBounds_toArray, List.set_cons_zero, List.set_cons_succ]
            go_big_quiet_on
            go_big_quiet_want
            refine ⟨.slice b2 fs.length d2, fun w' hw' => ?_, ?_⟩
            · have hh := (Kp.of_below hw').cell _ _ he1; unfold Oper.quietAt; go_simp
            simp only [Act.put, List.setIfInBounds_toArray, List.set_cons_zero, List.set_cons_succ]
            go_big_quiet_on
            (go_big_quiet_want; go_big_quiet_op; go_big_quiet_on)
            (go_big_quiet_want; go_big_quiet_op; go_big_quiet_on)
            go_big_quiet_want
            refine ⟨.pointer (some ⟨g, off + (j + 1) * 2, none⟩), fun w' hw' => ?_, ?_⟩
            · unfold Oper.quietAt; go_simp
            simp only [Act.put, List.setIfInBounds_toArray, List.set_cons_zero, List.set_cons_succ]
            go_big_quiet_on
            go_big_quiet_want
            refine ⟨.pointer (some ⟨g, off + (j + 1) * 2 + 1, none⟩), fun w' hw' => ?_, ?_⟩
            · unfold Oper.quietAt; go_simp
            simp only [Act.put, List.setIfInBounds_toArray, List.set_cons_zero, List.set_cons_succ]
            go_big_quiet_on
            go_big_quiet_want
            refine ⟨.slice a2 es.length c2, fun w' hw' => ?_, ?_⟩
            · have hh := (Kp.of_below hw').cell _ _ hc1; unfold Oper.quietAt; go_simp
            simp only [Act.put, List.setIfInBounds_toArray, List.set_cons_zero, List.set_cons_succ]
            go_big_quiet_on
            go_big_quiet_want
            refine ⟨.int .i64 O, fun w' hw' => ?_, ?_⟩
            · unfold Oper.quietAt; go_simp; exact (refOrder_any _ _ fs es _ (HI2.out.kp (Kp.of_below hw')) (HMo.out.2.kp (Kp.of_below hw'))).mono (fun e w1 ⟨he, hw9⟩ => ⟨by rw [he, ← HOe.out], by rw [hw9]; exact hw'⟩)
            simp only [Act.put, List.setIfInBounds_toArray, List.set_cons_zero, List.set_cons_succ]
            go_big_quiet_on
            go_big_quiet_want
            refine ⟨.bool BO, fun w' hw' => ?_, ?_⟩
            · unfold Oper.quietAt; go_simp
            simp only [Act.put, List.setIfInBounds_toArray, List.set_cons_zero, List.set_cons_succ]
            go_big_quiet_on
            go_big_quiet_want
            refine ⟨.bool BO, fun w' hw' => ?_, ?_⟩
            · unfold Oper.quietAt; go_simp
            simp only [Act.put, List.setIfInBounds_toArray, List.set_cons_zero, List.set_cons_succ]
            go_big_quiet_on
            go_big_quiet_want
            refine ⟨.bool BO, fun w' hw' => ?_, ?_⟩
            · unfold Oper.quietAt; go_simp
            simp only [Act.put, List.setIfInBounds_toArray, List.set_cons_zero, List.set_cons_succ]
            go_big_quiet_on
            refine wpQuiet_nil ?_
            intro w1 hb1
            subst hBO
            have HB1 : Hid (Below w.heap.size w w1) := below_step HBd.out hb1
            clear hb1
            go_wp2
            go_ret
            exact ⟨ret1i HF.out.symm, HB1.out⟩
      · have HF : Hid (checkR p vars = 20) := by
          show _ = _
          unfold checkR
          rw [if_neg (Int.not_lt.2 H0.out), if_pos (polyR_no hlt (okR_no HX.out (by rw [HMb.out]; simpa using hv)))]
        go_wp2_with fail
        refine region_belowY (by kernel_rfl) (by kernel_rfl) ?_
        (go_big_quiet_want; go_big_quiet_op; go_big_quiet_on)
        (go_big_quiet_want; go_big_quiet_op; go_big_quiet_on)
        go_big_quiet_want
        refine ⟨.pointer (some ⟨g, off + k * 2, none⟩), fun w' hw' => ?_, ?_⟩
        · unfold Oper.quietAt; go_simp
        simp only [Act.put, List.setIfInBounds_toArray, List.set_cons_zero, List.set_cons_succ]
        go_big_quiet_on
        go_big_quiet_want
        refine ⟨.agg #[.slice a1 c.length c1, .slice a2 es.length c2], fun w' hw' => ?_, ?_⟩
        · have hh0 := (Kp.of_below hw').cell _ _ hc0; have hh1 := (Kp.of_below hw').cell _ _ hc1; unfold Oper.quietAt; go_simp
        simp only [Act.put, List.setIfInBounds_toArray, List.set_cons_zero, List.set_cons_succ]
        go_big_quiet_on
        go_big_quiet_want
        refine ⟨.bool true, fun w' hw' => ?_, ?_⟩
        · unfold Oper.quietAt; go_simp; exact (refForm_any _ _ (c, es) _ (HMo.out.kp (Kp.of_below hw'))).mono (fun e w1 ⟨he, hb⟩ => ⟨by rw [he, HMb.out], below_step hw' hb⟩)
        simp only [Act.put, List.setIfInBounds_toArray, List.set_cons_zero, List.set_cons_succ]
        go_big_quiet_on
        go_big_quiet_want
        refine ⟨.bool false, fun w' hw' => ?_, ?_⟩
        · unfold Oper.quietAt; go_simp
        simp only [Act.put, List.setIfInBounds_toArray, List.set_cons_zero, List.set_cons_succ]
        go_big_quiet_on
        (go_big_quiet_want; go_big_quiet_op; go_big_quiet_on)
        (go_big_quiet_want; go_big_quiet_op; go_big_quiet_on)
        (go_big_quiet_want; go_big_quiet_op; go_big_quiet_on)
        go_big_quiet_want
        refine ⟨.pointer (some ⟨g, off + k * 2, none⟩), fun w' hw' => ?_, ?_⟩
        · unfold Oper.quietAt; go_simp
        simp only [Act.put, List.setIfInBounds_toArray, List.set_cons_zero, List.set_cons_succ]
        go_big_quiet_on
        go_big_quiet_want
        refine ⟨.pointer (some ⟨g, off + k * 2 + 1, none⟩), fun w' hw' => ?_, ?_⟩
        · unfold Oper.quietAt; go_simp
        simp only [Act.put, List.setIfInBounds_toArray, List.set_cons_zero, List.set_cons_succ]
        go_big_quiet_on
        go_big_quiet_want
        refine ⟨.slice a2 es.length c2, fun w' hw' => ?_, ?_⟩
        · have hh := (Kp.of_below hw').cell _ _ hc1; unfold Oper.quietAt; go_simp
        simp only [Act.put, List.setIfInBounds_toArray, List.set_cons_zero, List.set_cons_succ]
        go_big_quiet_on
        go_big_quiet_want
        refine ⟨.int .i64 (es.length : Int), fun w' hw' => ?_, ?_⟩
        · unfold Oper.quietAt; go_simp
        simp only [Act.put, List.setIfInBounds_toArray, List.set_cons_zero, List.set_cons_succ]
        go_big_quiet_on
        (go_big_quiet_want; go_big_quiet_op; go_big_quiet_on)
        go_big_quiet_want
        refine ⟨.bool true, fun w' hw' => ?_, ?_⟩
        · unfold Oper.quietAt; go_simp
        simp only [Act.put, List.setIfInBounds_toArray, List.set_cons_zero, List.set_cons_succ]
        go_big_quiet_on
        go_big_quiet_want
        refine ⟨.bool true, fun w' hw' => ?_, ?_⟩
        · unfold Oper.quietAt; go_simp
        simp only [Act.put, List.setIfInBounds_toArray, List.set_cons_zero, List.set_cons_succ]
        go_big_quiet_on
        (go_big_quiet_want; go_big_quiet_op; go_big_quiet_on)
        go_big_quiet_skip
        go_big_quiet_skip
        go_big_quiet_skip
        go_big_quiet_skip
        go_big_quiet_skip
        go_big_quiet_skip
        go_big_quiet_skip
        go_big_quiet_skip
        go_big_quiet_skip
        go_big_quiet_skip
        go_big_quiet_skip
        go_big_quiet_skip
        go_big_quiet_skip
        go_big_quiet_skip
        go_big_quiet_skip
        go_big_quiet_skip
        go_big_quiet_skip
        go_big_quiet_want
        refine ⟨.bool true, fun w' hw' => ?_, ?_⟩
        · unfold Oper.quietAt; go_simp
        simp only [Act.put, List.setIfInBounds_toArray, List.set_cons_zero, List.set_cons_succ]
        go_big_quiet_on
        refine wpQuiet_nil ?_
        intro w1 hb1
        go_wp2
        go_ret
        exact ⟨ret1i HF.out.symm, below_step HBd.out hb1⟩
    · have HR : Hid (polyR p vars = true) := polyR_iff.2 fun j hj => HP.out j (by omega)
      have HBw : Hid (Below w.heap.size w wr) := hbl
      clear hbl
      go_wp2
      go_loopw [6] (fun i ws => ∃ l : Nat, l ≤ p.length ∧ i = .int .i64 l ∧ (∀ (j : Nat) (m : Mn), j < l → p[j]? = some m → smallR m = true) ∧ Below w.heap.size w ws) (fun i _ => p.length - (intOf i).toNat)
      case atStart => exact ⟨0, by omega, rfl, fun j m hj => absurd hj (by omega), HBw.out⟩
      case round =>
        obtain ⟨l, hl, rfl, hq, hbl⟩ := hrel
        have HQ : Hid (∀ (j : Nat) (m : Mn), j < l → p[j]? = some m → smallR m = true) := hq
        clear hq
        by_cases hll : l < p.length
        · obtain ⟨g, off, c, es, a1, c1, a2, c2, rfl, hm1, hc0, hc1, hmo, hl1, hl2, hl3, hl4⟩ := (HM.out.kp (Kp.of_below hbl)).at hll
          have HX : Hid (p[l]? = some (c, es)) := hm1
          have HMo : Hid (Mo wr (.slice a1 c.length c1) (.slice a2 es.length c2) (c, es)) := hmo
          have HBs : Hid (Below w.heap.size w wr) := hbl
          clear hm1 hmo hbl
          go_wp2_with fail
          refine (refSmall_any _ _ (c, es) _ HMo.out).mono ?_
          rintro e w1 ⟨rfl, hb1⟩
          have HB1 : Hid (Below w.heap.size w w1) := below_step HBs.out hb1
          clear hb1 hc0 hc1
          cases hs : smallR (c, es)
          · have HF : Hid (checkR p vars = 2) := by
              show _ = _
              unfold checkR
              have : p.all smallR = false := by rw [List.all_eq_false]; exact ⟨_, List.mem_of_getElem? HX.out, by rw [hs]; simp⟩
              rw [if_neg (Int.not_lt.2 H0.out), HR.out, this, if_neg (by simp), if_pos rfl]
            clear hs
            go_wp2
            go_ret
            exact ⟨ret1i HF.out.symm, HB1.out⟩
          · have HSm : Hid (smallR (c, es) = true) := hs
            clear hs
            go_wp2
            go_roundw
            case rel =>
              refine ⟨l + 1, by omega, by go_num, fun j m hj hm => ?_, HB1.out⟩
              by_cases hjl : j = l
              · subst hjl; rw [HX.out] at hm; cases hm; exact HSm.out
              · exact HQ.out j m (by omega) hm
            case measure => simp [intOf]; omega
        · have HAll : Hid (p.all smallR = true) := by
            show _ = _
            rw [List.all_eq_true]
            intro m hm
            obtain ⟨j, hj⟩ := List.mem_iff_getElem?.1 hm
            exact HQ.out j m (by have := (List.getElem?_eq_some_iff.1 hj).1; omega) hj
          have HBs : Hid (Below w.heap.size w wr) := hbl
          clear hbl
          by_cases h256 : p.length ≤ 256
          · have HF : Hid (checkR p vars = 0) := by
              show _ = _
              unfold checkR
              rw [if_neg (Int.not_lt.2 H0.out), HR.out, HAll.out, if_neg (by simp), if_neg (by simp), if_pos h256]
            go_wp2
            go_ret
            exact ⟨ret1i HF.out.symm, HBs.out⟩
          · have HF : Hid (checkR p vars = 2) := by
              show _ = _
              unfold checkR
              rw [if_neg (Int.not_lt.2 H0.out), HR.out, HAll.out, if_neg (by simp), if_neg (by simp), if_neg h256]
            go_wp2
            go_ret
            exact ⟨ret1i HF.out.symm, HBs.out⟩

end Go.Proofs.YtdjmjhlbjcgoiaaGreatDoor

/- What the document's Value answers is what Value answers: plain data. -/
namespace Go.Proofs.YtdjmjhlbjcgoiaaGreatDoor
open Go.RowKit Go.Maps

theorem polyB_two {p : List Mn} {a b : Int} (ha : ∀ m ∈ p, (m.2.length : Int) ≤ a) (hb : ∀ m ∈ p, (m.2.length : Int) ≤ b) : polyB p a = polyB p b := by
  rw [Bool.eq_iff_iff, polyB_iff, polyB_iff]
  exact ⟨fun h k hk => okAt_vars (h k hk) fun m hm => hb m (List.mem_of_getElem? hm), fun h k hk => okAt_vars (h k hk) fun m hm => ha m (List.mem_of_getElem? hm)⟩

theorem check_len {p : List Mn} {n : Nat} (h : checkE p 9223372036854775807 = 0) : checkE p (n : Int) = 0 ↔ varsN p ≤ n := by
  obtain ⟨h1, h2⟩ := (check_iff (by omega)).1 h
  rw [check_iff (by omega), varsN_iff]
  constructor
  · rintro ⟨h3, _⟩ m hm
    have := (polyB_good h3 hm).2
    omega
  · intro h3
    refine ⟨?_, h2⟩
    rw [polyB_two (b := 9223372036854775807) (fun m hm => by have := h3 m hm; omega) (fun m hm => (polyB_good h1 hm).2)]
    exact h1

end Go.Proofs.YtdjmjhlbjcgoiaaGreatDoor

/- What the document's Add answers. -/
namespace Go.Proofs.YtdjmjhlbjcgoiaaGreatDoor
open Go.RowKit Go.Maps

theorem Ms.limA {w : World} {v : Value} {p : List Mn} (h : Ms w v p) : ∀ m ∈ p, Lim m.1 := by
  intro m hm
  obtain ⟨k, hk⟩ := List.mem_iff_getElem?.1 hm
  obtain ⟨ao, cap, rfl, _, _, hx⟩ := Row.flat h
  obtain ⟨g, off, x, _, hk2, cv, ev, _, _, hmo⟩ := hx k (List.getElem?_eq_some_iff.1 hk).1
  rw [hk] at hk2
  cases hk2
  exact hmo.1.1

end Go.Proofs.YtdjmjhlbjcgoiaaGreatDoor

/- What the document's times answers. -/
namespace Go.Proofs.YtdjmjhlbjcgoiaaGreatDoor
open Go.RowKit Go.Maps

theorem results_cell {P : Program} {fn : Func} {w : World} {tmps : Array Value} {t u : Tmp} {ty : TypeId} {ad : Addr} {v : Value} (h : fn.results = #[.cell t ty, .tmp u]) (ht : tmps.getD t undef = .pointer (some ad)) (hl : (loadVar ty ad).run P w = .ok v w) : (results fn tmps).run P w = .ok (.tuple #[v, tmps.getD u undef]) w := by
  have ht2 : tmps[t]?.getD undef = .pointer (some ad) := by simpa using ht
  simp [results, h, ht2, hl, asAddr]

end Go.Proofs.YtdjmjhlbjcgoiaaGreatDoor
