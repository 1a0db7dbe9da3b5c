/- Texts of the proof, one behind the other. -/
import Derived.Test.YtfeeafkfjngemaaDoorOwn4
import Derived.Sort.QuietTacIn
import Derived.Sort.CutIn
import Derived.Deep.DeepAppendRoom
import Derived.Test.YtfeeafkfjngemaaDoorOwn2
/- What binds make of a right term is right; two rows of binds in one. -/
namespace Go.Proofs.YtfeeafkfjngemaaDoor
open Go.RowKit Go.Maps

theorem codeD_ge {sig : List Sy} (ha : ArOk sig) {c e : Int} (h : codeD sig c = some e) : -1 ≤ e := by
  unfold codeD at h
  split at h
  · cases h
  · split at h
    · cases h; omega
    · cases hs : sig[c.toNat]? with
      | none => rw [hs] at h; cases h
      | some s =>
        rw [hs] at h
        have := ha s (List.mem_of_getElem? hs)
        simp only [Option.some.injEq] at h
        omega

theorem firstT_cons (sig : List Sy) (m : Int) (i : Nat) (c : Int) (t : List Int) : firstT sig m i (c :: t) = (match codeD sig c with | none => (0, 30) | some e => if m + e = 0 then ((i : Int) + 1, 0) else firstT sig (m + e) (i + 1) t) := rfl

theorem firstT_le (sig : List Sy) : ∀ (t : List Int) (m : Int) (i : Nat), (firstT sig m i t).2 = 0 → (firstT sig m i t).1 ≤ (i : Int) + t.length
  | [], m, i, h => by simp [firstT] at h
  | c :: t, m, i, h => by
    rw [firstT_cons] at h ⊢
    cases hc : codeD sig c with
    | none => rw [hc] at h; simp at h
    | some e =>
      rw [hc] at h
      simp only at h ⊢
      split
      · simp only [List.length_cons]; omega
      · rename_i hm
        rw [if_neg hm] at h
        have := firstT_le sig t (m + e) (i + 1) h
        simp only [List.length_cons]
        omega

theorem row_first {sig : List Sy} {t : List Int} : rowE sig t = 0 ↔ firstT sig 1 0 t = ((t.length : Int), 0) := by
  unfold rowE
  constructor
  · intro h
    split at h
    · cases h
    · rename_i hn
      have h1 := firstT_le sig t 1 0 h
      have h2 : ¬ (firstT sig 1 0 t).1 < (t.length : Int) := fun h3 => hn ⟨h, h3⟩
      refine Prod.ext ?_ h
      show (firstT sig 1 0 t).1 = _
      omega
  · intro h
    rw [h]
    simp

/-- A row that closes d terms, ahead of another one. -/
theorem first_app {sig : List Sy} (ha : ArOk sig) : ∀ (x : List Int) (d : Int) (j : Nat), 1 ≤ d → firstT sig d j x = ((j : Int) + x.length, 0) → ∀ (m : Int) (i : Nat) (r : List Int), d ≤ m → firstT sig m i (x ++ r) = if m = d then ((i : Int) + x.length, 0) else firstT sig (m - d) (i + x.length) r
  | [], d, j, hd, h, m, i, r, hm => by simp [firstT] at h
  | c :: x, d, j, hd, h, m, i, r, hm => by
    rw [List.cons_append]
    rw [firstT_cons] at h ⊢
    cases hc : codeD sig c with
    | none => rw [hc] at h; simp at h
    | some e =>
      rw [hc] at h
      simp only at h ⊢
      have he := codeD_ge ha hc
      by_cases h0 : d + e = 0
      · rw [if_pos h0] at h
        have hx : x = [] := by
          have := congrArg Prod.fst h
          simp only [List.length_cons] at this
          exact List.eq_nil_of_length_eq_zero (by omega)
        subst hx
        by_cases hmd : m = d
        · rw [if_pos (by omega), if_pos hmd]; simp
        · rw [if_neg (by omega), if_neg hmd, show m + e = m - d by omega]; simp
      · rw [if_neg h0] at h
        rw [if_neg (by omega), first_app ha x (d + e) (j + 1) (by omega) (by rw [h]; simp only [List.length_cons, Prod.mk.injEq, and_true]; omega) (m + e) (i + 1) r (by omega)]
        by_cases hmd : m = d
        · rw [if_pos hmd, if_pos (by omega)]
          simp only [List.length_cons, Prod.mk.injEq, and_true]
          omega
        · rw [if_neg hmd, if_neg (by omega), show m + e - (d + e) = m - d by omega, List.length_cons, show i + 1 + x.length = i + (x.length + 1) by omega]

/-- Right pieces make a right row of a right row. -/
theorem first_laid {sig : List Sy} (ha : ArOk sig) {f : Int → Option (List Int)} (hf : ∀ n u, f n = some u → rowE sig u = 0) : ∀ (t : List Int) (d : Int) (j i : Nat), 1 ≤ d → firstT sig d j t = ((j : Int) + t.length, 0) → firstT sig d i (laidL f t) = ((i : Int) + (laidL f t).length, 0)
  | [], d, j, i, hd, h => by simp [firstT] at h
  | c :: t, d, j, i, hd, h => by
    have hl : laidL f (c :: t) = piece f c ++ laidL f t := by unfold laidL; rw [List.flatMap_cons]
    rw [hl]
    rw [firstT_cons] at h
    cases hc : codeD sig c with
    | none => rw [hc] at h; simp at h
    | some e =>
      rw [hc] at h
      simp only at h
      have he := codeD_ge ha hc
      -- what is left behind the code
      have hrest : d + e = 0 → t = [] := fun h0 => by
        rw [if_pos h0] at h
        have := congrArg Prod.fst h
        simp only [List.length_cons] at this
        exact List.eq_nil_of_length_eq_zero (by omega)
      have hnext : ¬ d + e = 0 → ∀ i, firstT sig (d + e) i (laidL f t) = ((i : Int) + (laidL f t).length, 0) := fun h0 i => by
        rw [if_neg h0] at h
        exact first_laid ha hf t (d + e) (j + 1) i (by omega) (by rw [h]; simp only [List.length_cons, Prod.mk.injEq, and_true]; omega)
      have hself : firstT sig d i ([c] ++ laidL f t) = ((i : Int) + ([c] ++ laidL f t).length, 0) := by
        rw [List.singleton_append, firstT_cons, hc]
        simp only
        by_cases h0 : d + e = 0
        · rw [if_pos h0, hrest h0]
          simp [laidL]
        · rw [if_neg h0, hnext h0]
          simp only [List.length_cons, Prod.mk.injEq, and_true]
          omega
      by_cases hv : c < 0
      · cases hb : f (-1 - c) with
        | none =>
          have : piece f c = [c] := by unfold piece; rw [if_pos hv, hb]; rfl
          rw [this]
          exact hself
        | some x =>
          have hp : piece f c = x := by unfold piece; rw [if_pos hv, hb]; rfl
          have hx := row_first.1 (hf _ _ hb)
          have he1 : e = -1 := by
            have hc2 := hc
            unfold codeD at hc2
            by_cases h9 : c < -1048576
            · rw [if_pos h9] at hc2; cases hc2
            · rw [if_neg h9, if_pos hv] at hc2; cases hc2; rfl
          rw [hp, first_app ha x 1 0 (by omega) (by rw [hx]; simp) d i (laidL f t) hd]
          by_cases h0 : d + e = 0
          · rw [if_pos (by omega), hrest h0]
            simp [laidL]
          · rw [if_neg (by omega), show d - 1 = d + e by omega, hnext h0, List.length_append]
            simp only [Prod.mk.injEq, and_true]
            omega
      · have : piece f c = [c] := by unfold piece; rw [if_neg hv]
        rw [this]
        exact hself

theorem row_laid {sig : List Sy} (ha : ArOk sig) {f : Int → Option (List Int)} (hf : ∀ n u, f n = some u → rowE sig u = 0) {t : List Int} (h : rowE sig t = 0) : rowE sig (laidL f t) = 0 := by
  have h1 := first_laid ha hf t 1 0 0 (by omega) (by rw [row_first.1 h]; simp)
  exact row_first.2 (by rw [h1]; simp)

theorem bind_all (sig : List Sy) : ∀ (s : List Bd) (p : Option Int), bindGo sig p s = 0 → ∀ b ∈ s, isVarB b.1 = true ∧ termE sig b.2 = 0
  | [], _, _, b, hb => by cases hb
  | a :: r, p, h, b, hb => by
    unfold bindGo at h
    split at h
    · rename_i hv
      split at h
      · cases h
      · split at h
        · rename_i ht
          cases hb with
          | head => exact ⟨hv, ht⟩
          | tail _ hb => exact bind_all sig r (some a.1) h b hb
        · rename_i ht
          exact absurd h ht
    · cases h

theorem bind_made (sig : List Sy) : ∀ (s : List Bd) (p : Option Int), (∀ b ∈ s, isVarB b.1 = true ∧ termE sig b.2 = 0) → (∀ y, p = some y → ∀ b ∈ s, y < b.1) → s.Pairwise (fun a b => a.1 < b.1) → bindGo sig p s = 0
  | [], _, _, _, _ => rfl
  | a :: r, p, h, hp, hr => by
    obtain ⟨h1, h2⟩ := List.pairwise_cons.1 hr
    unfold bindGo
    rw [if_pos (h a (.head _)).1, if_neg (by
      cases p with
      | none => simp
      | some y =>
        have := hp y rfl a (.head _)
        simp
        omega), if_pos (h a (.head _)).2]
    exact bind_made sig r (some a.1) (fun b hb => h b (.tail _ hb)) (fun y hy b hb => by cases hy; exact h1 b hb) h2

theorem bind_parts {sig : List Sy} {s : List Bd} (h : bindE sig s = 0) : sigE sig = 0 ∧ bindGo sig none s = 0 := by
  unfold bindE at h
  split at h
  · rename_i h0; exact ⟨h0, h⟩
  · rename_i h0; exact absurd h h0

theorem rise_len : ∀ (s : List Bd) (lo : Int), s.Pairwise (fun a b => a.1 < b.1) → (∀ b ∈ s, lo ≤ b.1 ∧ b.1 < 1048576) → lo ≤ 1048576 → (s.length : Int) ≤ 1048576 - lo
  | [], lo, _, _, h => by simp; omega
  | a :: r, lo, hr, hb, h => by
    obtain ⟨h1, h2⟩ := List.pairwise_cons.1 hr
    have ha := hb a (.head _)
    have := rise_len r (a.1 + 1) h2 (fun b hm => ⟨by have := h1 b hm; omega, (hb b (.tail _ hm)).2⟩) (by omega)
    simp only [List.length_cons]
    omega

theorem binds_few {sig : List Sy} {s : List Bd} (h : bindE sig s = 0) : s.length ≤ 1048576 := by
  obtain ⟨_, h1⟩ := bind_parts h
  have h2 := rise_len s 0 (bind_rise sig s none h1).2 (fun b hb => isVarB_iff.1 (bind_all sig s none h1 b hb).1) (by omega)
  omega

/-- The binds ahead of a number; those behind it. -/
def pre (x : Int) (r : List Bd) : List Bd := r.takeWhile fun c => decide (c.1 < x)
def skipE (x : Int) : List Bd → List Bd
  | [] => []
  | c :: r => if c.1 = x then r else c :: r
def post (x : Int) (r : List Bd) : List Bd := skipE x (r.dropWhile fun c => decide (c.1 < x))

/-- Two rows of binds in one: g is done to the first one's terms. -/
def merge (g : List Int → List Int) : List Bd → List Bd → List Bd
  | [], r => r
  | b :: s, r => pre b.1 r ++ (b.1, g b.2) :: merge g s (post b.1 r)

theorem merge_cons (g : List Int → List Int) (b : Bd) (s r : List Bd) : merge g (b :: s) r = pre b.1 r ++ (b.1, g b.2) :: merge g s (post b.1 r) := rfl

theorem merge_less (g : List Int → List Int) (b c : Bd) (s r : List Bd) (h : c.1 < b.1) : merge g (b :: s) (c :: r) = c :: merge g (b :: s) r := by
  rw [merge_cons, merge_cons]
  unfold pre post
  rw [List.takeWhile_cons, List.dropWhile_cons, decide_eq_true h]
  simp

theorem merge_same (g : List Int → List Int) (b c : Bd) (s r : List Bd) (h : c.1 = b.1) : merge g (b :: s) (c :: r) = (b.1, g b.2) :: merge g s r := by
  rw [merge_cons]
  unfold pre post
  rw [List.takeWhile_cons, List.dropWhile_cons, decide_eq_false (by omega)]
  simp [skipE, h]

theorem merge_more (g : List Int → List Int) (b : Bd) (s r : List Bd) (h : ∀ c, r[0]? = some c → b.1 < c.1) : merge g (b :: s) r = (b.1, g b.2) :: merge g s r := by
  cases r with
  | nil => rfl
  | cons c r =>
    have hc := h c rfl
    rw [merge_cons]
    unfold pre post
    rw [List.takeWhile_cons, List.dropWhile_cons, decide_eq_false (by omega)]
    have : ¬ c.1 = b.1 := by omega
    simp [skipE, this]

theorem look_app (n : Int) : ∀ (l m : List Bd), (l ++ m).lookup n = (l.lookup n).or (m.lookup n)
  | [], m => by simp
  | (k, v) :: l, m => by
    rw [List.cons_append, List.lookup_cons, List.lookup_cons]
    cases n == k with
    | true => rfl
    | false => exact look_app n l m

theorem look_none_lt {x n : Int} {l : List Bd} (h : ∀ b ∈ l, x < b.1) (hn : n ≤ x) : l.lookup n = none := by
  cases hl : l.lookup n with
  | none => rfl
  | some u =>
    have := h _ (lookup_mem hl)
    simp only at this
    omega

theorem pre_lt {x : Int} : ∀ {r : List Bd} {b : Bd}, b ∈ pre x r → b.1 < x
  | [], b, h => by simp [pre] at h
  | c :: r, b, h => by
    unfold pre at h
    rw [List.takeWhile_cons] at h
    split at h
    · rename_i hc
      cases h with
      | head => exact of_decide_eq_true hc
      | tail _ h => exact pre_lt (r := r) h
    · cases h

theorem pre_sub {x : Int} {r : List Bd} {b : Bd} (h : b ∈ pre x r) : b ∈ r := List.takeWhile_sublist _ |>.subset h

theorem drop_ge {x : Int} : ∀ {r : List Bd}, r.Pairwise (fun a b => a.1 < b.1) → ∀ b ∈ r.dropWhile (fun c => decide (c.1 < x)), x ≤ b.1
  | [], _, b, h => by cases h
  | c :: r, hr, b, h => by
    obtain ⟨h1, h2⟩ := List.pairwise_cons.1 hr
    rw [List.dropWhile_cons] at h
    split at h
    · exact drop_ge h2 b h
    · rename_i hc
      have hc' : x ≤ c.1 := by simpa using hc
      cases h with
      | head => exact hc'
      | tail _ h => have := h1 b h; omega

theorem skip_sub {x : Int} {r : List Bd} {b : Bd} (h : b ∈ skipE x r) : b ∈ r := by
  cases r with
  | nil => cases h
  | cons c r =>
    by_cases hc : c.1 = x
    · simp only [skipE, if_pos hc] at h
      exact .tail _ h
    · simp only [skipE, if_neg hc] at h
      exact h

theorem post_facts {x : Int} {r : List Bd} (hr : r.Pairwise (fun a b => a.1 < b.1)) : (∀ b ∈ post x r, b ∈ r ∧ x < b.1) ∧ (post x r).Pairwise (fun a b => a.1 < b.1) ∧ ∀ n, n ≠ x → r.lookup n = ((pre x r).lookup n).or ((post x r).lookup n) := by
  have hd := drop_ge (x := x) hr
  have hdp : (r.dropWhile fun c => decide (c.1 < x)).Pairwise (fun a b => a.1 < b.1) := hr.sublist (List.dropWhile_sublist _)
  have hsub : ∀ b ∈ r.dropWhile (fun c => decide (c.1 < x)), b ∈ r := fun b hb => (List.dropWhile_sublist _).subset hb
  have hsplit : ∀ n, r.lookup n = ((pre x r).lookup n).or ((r.dropWhile fun c => decide (c.1 < x)).lookup n) := fun n => by
    rw [← look_app]
    unfold pre
    rw [List.takeWhile_append_dropWhile]
  unfold post
  generalize (r.dropWhile fun c => decide (c.1 < x)) = q at hd hdp hsub hsplit
  cases q with
  | nil => exact ⟨fun b hb => (by cases hb), List.Pairwise.nil, fun n _ => hsplit n⟩
  | cons c q =>
    obtain ⟨h1, h2⟩ := List.pairwise_cons.1 hdp
    by_cases hc : c.1 = x
    · simp only [skipE, if_pos hc]
      refine ⟨fun b hb => ⟨hsub b (.tail _ hb), by have := h1 b hb; omega⟩, h2, fun n hn => ?_⟩
      rw [hsplit n]
      congr 1
      obtain ⟨k, v⟩ := c
      rw [List.lookup_cons, show (n == k) = false by rw [beq_eq_false_iff_ne]; simp only at hc; omega]
    · simp only [skipE, if_neg hc]
      refine ⟨fun b hb => ⟨hsub b hb, ?_⟩, hdp, fun n _ => hsplit n⟩
      cases hb with
      | head => have := hd c (.head _); omega
      | tail _ hb => have := h1 b hb; have := hd c (.head _); omega

theorem merge_facts (g : List Int → List Int) : ∀ (s r : List Bd), s.Pairwise (fun a b => a.1 < b.1) → r.Pairwise (fun a b => a.1 < b.1) →
    (∀ b ∈ merge g s r, b ∈ r ∨ ∃ a ∈ s, b = (a.1, g a.2)) ∧ (merge g s r).Pairwise (fun a b => a.1 < b.1) ∧ ∀ n, (merge g s r).lookup n = match s.lookup n with | some u => some (g u) | none => r.lookup n
  | [], r, _, hr => ⟨fun b hb => .inl hb, hr, fun n => rfl⟩
  | a :: s, r, hs, hr => by
    obtain ⟨h1, h2⟩ := List.pairwise_cons.1 hs
    obtain ⟨p1, p2, p3⟩ := post_facts (x := a.1) hr
    obtain ⟨m1, m2, m3⟩ := merge_facts g s (post a.1 r) h2 p2
    have hgt : ∀ b ∈ merge g s (post a.1 r), a.1 < b.1 := fun b hb => by
      rcases m1 b hb with h | ⟨c, hc, rfl⟩
      · exact (p1 b h).2
      · exact h1 c hc
    refine ⟨fun b hb => ?_, ?_, fun n => ?_⟩
    · rw [merge_cons] at hb
      rcases List.mem_append.1 hb with hb | hb
      · exact .inl (pre_sub hb)
      · cases hb with
        | head => exact .inr ⟨a, .head _, rfl⟩
        | tail _ hb =>
          rcases m1 b hb with h | ⟨c, hc, e⟩
          · exact .inl (p1 b h).1
          · exact .inr ⟨c, .tail _ hc, e⟩
    · rw [merge_cons, List.pairwise_append]
      refine ⟨hr.sublist (List.takeWhile_sublist _), List.Pairwise.cons hgt m2, fun b hb c hc => ?_⟩
      have h3 := pre_lt hb
      cases hc with
      | head => exact h3
      | tail _ hc => have := hgt c hc; omega
    · rw [merge_cons]
      obtain ⟨x, u⟩ := a
      simp only at h1 p1 p3 m3 hgt ⊢
      rw [look_app, List.lookup_cons, List.lookup_cons]
      by_cases hn : n = x
      · subst hn
        rw [show (n == n) = true by simp]
        have : (pre n r).lookup n = none := by
          cases hl : (pre n r).lookup n with
          | none => rfl
          | some y =>
            have := pre_lt (lookup_mem hl)
            simp at this
        rw [this]
        rfl
      · rw [show (n == x) = false by rw [beq_eq_false_iff_ne]; exact hn]
        simp only
        rw [m3 n, p3 n hn]
        cases hl : (pre x r).lookup n with
        | none =>
          cases s.lookup n <;> rfl
        | some y =>
          have hlt := pre_lt (lookup_mem hl)
          simp only at hlt
          have : s.lookup n = none := look_none_lt h1 (by omega)
          rw [this]

theorem laid_none (t : List Int) : laidL (bnd []) t = t := by
  induction t with
  | nil => rfl
  | cons c t ih =>
    have : laidL (bnd []) (c :: t) = piece (bnd []) c ++ laidL (bnd []) t := by unfold laidL; rw [List.flatMap_cons]
    rw [this, ih]
    unfold piece bnd
    split <;> rfl

theorem apply_ok {sig : List Sy} {s : List Bd} {t : List Int} (h : applyE sig s t = 0) : bindE sig s = 0 ∧ termE sig t = 0 ∧ (laidL (bnd s) t).length ≤ 512 ∧ applyL sig s t = laidL (bnd s) t := by
  unfold applyE at h
  split at h
  · rename_i hb
    split at h
    · rename_i ht
      obtain ⟨e1, e2⟩ := lay_eq (bnd s) t
      rw [e1] at h
      have hl : ¬ 512 < (laidL (bnd s) t).length := fun h9 => by rw [if_pos h9] at h; cases h
      refine ⟨hb, ht, by omega, ?_⟩
      unfold applyL
      rw [if_pos hb, if_pos ht, e2, if_neg hl]
    · rename_i ht; exact absurd h ht
  · rename_i hb; exact absurd h hb

theorem apply_of {sig : List Sy} {s : List Bd} {t : List Int} (hb : bindE sig s = 0) (ht : termE sig t = 0) : applyE sig s t = (if 512 < (laidL (bnd s) t).length then 2 else 0) ∧ applyL sig s t = if 512 < (laidL (bnd s) t).length then [] else laidL (bnd s) t := by
  unfold applyE applyL
  rw [if_pos hb, if_pos ht, if_pos hb, if_pos ht]
  exact lay_eq (bnd s) t

theorem bnd_right {sig : List Sy} {s : List Bd} (h : bindE sig s = 0) : ∀ n u, bnd s n = some u → rowE sig u = 0 := fun n u hn => by
  obtain ⟨h0, h1⟩ := bind_parts h
  have := (bind_all sig s none h1 _ (List.mem_reverse.1 (lookup_mem hn))).2
  unfold termE at this
  rw [if_pos h0] at this
  exact this

theorem term_laid {sig : List Sy} {s : List Bd} {t : List Int} (hb : bindE sig s = 0) (ht : termE sig t = 0) : termE sig (laidL (bnd s) t) = 0 := by
  obtain ⟨h0, _⟩ := bind_parts hb
  unfold termE at ht ⊢
  rw [if_pos h0] at ht ⊢
  exact row_laid (sigE_ok h0) (bnd_right hb) ht

/-- One after the other is both at once. -/
theorem after_both {sig : List Sy} {s r : List Bd} {t : List Int} (h : applyE sig s t = 0) (hr : ∀ b ∈ s, applyE sig r b.2 = 0) :
    applyE sig r (applyL sig s t) = applyE sig (merge (fun u => applyL sig r u) s r) t ∧ applyL sig r (applyL sig s t) = applyL sig (merge (fun u => applyL sig r u) s r) t := by
  obtain ⟨hb, ht, hl, e⟩ := apply_ok h
  rw [e]
  cases s with
  | nil =>
    rw [laid_none]
    exact ⟨rfl, rfl⟩
  | cons a s =>
    obtain ⟨hbr, _, _, _⟩ := apply_ok (hr a (.head _))
    obtain ⟨h0, h1⟩ := bind_parts hb
    obtain ⟨_, h2⟩ := bind_parts hbr
    have hs := (bind_rise sig _ none h1).2
    have hrr := (bind_rise sig _ none h2).2
    obtain ⟨m1, m2, m3⟩ := merge_facts (fun u => applyL sig r u) (a :: s) r hs hrr
    have hbm : bindE sig (merge (fun u => applyL sig r u) (a :: s) r) = 0 := by
      unfold bindE
      rw [if_pos h0]
      refine bind_made sig _ none (fun b hbm => ?_) (fun y hy => by cases hy) m2
      rcases m1 b hbm with hm | ⟨c, hc, rfl⟩
      · exact bind_all sig r none h2 b hm
      · obtain ⟨k1, k2⟩ := bind_all sig _ none h1 c hc
        obtain ⟨_, _, _, k3⟩ := apply_ok (hr c hc)
        refine ⟨k1, ?_⟩
        show termE sig (applyL sig r c.2) = 0
        rw [k3]
        exact term_laid hbr k2
    have hbnd : ∀ n, bnd (merge (fun u => applyL sig r u) (a :: s) r) n = match bnd (a :: s) n with | some u => some (laidL (bnd r) u) | none => bnd r n := fun n => by
      have f1 : bnd (merge (fun u => applyL sig r u) (a :: s) r) n = _ := (look_rise m2 n).symm
      have f2 : bnd (a :: s) n = _ := (look_rise hs n).symm
      have f3 : bnd r n = _ := (look_rise hrr n).symm
      rw [f1, f2, f3, m3 n]
      cases hl : (a :: s).lookup n with
      | none => rfl
      | some u =>
        obtain ⟨_, _, _, k3⟩ := apply_ok (hr _ (lookup_mem hl))
        simp only at k3 ⊢
        rw [k3]
    have hla := laid_after (bnd (a :: s)) (bnd r) _ hbnd t
    obtain ⟨e1, e2⟩ := apply_of hbr (term_laid hb ht)
    obtain ⟨e3, e4⟩ := apply_of hbm ht
    rw [e1, e2, e3, e4, hla]
    exact ⟨rfl, rfl⟩

end Go.Proofs.YtfeeafkfjngemaaDoor

/- The tree of a right term. -/
namespace Go.Proofs.YtfeeafkfjngemaaDoor
open Go.RowKit Go.Maps Go.Shelf

attribute [local go_sem] Oper.semAt_some

/-- How many arguments a code has. -/
def arN (sig : List Sy) (c : Int) : Nat := match sig[c.toNat]? with | some s => s.2.toNat | none => 0

/-- A code more, from the back to the front: what begins first is the last one. -/
def growStep (sig : List Sy) (st : List Tr) (c : Int) : List Tr := if c < 0 then st ++ [.var] else st.take (st.length - arN sig c) ++ [.app (st.drop (st.length - arN sig c)).reverse]

def growR (sig : List Sy) : List Int → List Tr
  | [] => []
  | c :: u => growStep sig (growR sig u) c

theorem sizes_rev : ∀ ts : List Tr, sizes ts.reverse = sizes ts
  | [] => rfl
  | t :: ts => by
    rw [List.reverse_cons, sizes_app, sizes_rev ts]
    simp only [sizes]
    omega

theorem growStep_sizes (sig : List Sy) (st : List Tr) (c : Int) : sizes (growStep sig st c) = sizes st + 1 := by
  unfold growStep
  split
  · rw [sizes_app]; simp [sizes, Tr.size]
  · have h1 := sizes_app (st.take (st.length - arN sig c)) (st.drop (st.length - arN sig c))
    rw [List.take_append_drop] at h1
    rw [sizes_app]
    simp only [sizes, Tr.size, sizes_rev]
    omega

theorem growR_sizes (sig : List Sy) : ∀ u : List Int, sizes (growR sig u) = u.length
  | [] => rfl
  | c :: u => by
    show sizes (growStep sig (growR sig u) c) = _
    rw [growStep_sizes, growR_sizes sig u, List.length_cons]

theorem codeD_ar {sig : List Sy} (ha : ArOk sig) {c e : Int} (h : codeD sig c = some e) (hc : ¬ c < 0) : e = (arN sig c : Int) - 1 ∧ c.toNat < sig.length := by
  unfold codeD at h
  by_cases h9 : c < -1048576
  · omega
  · rw [if_neg h9, if_neg hc] at h
    cases hs : sig[c.toNat]? with
    | none => rw [hs] at h; cases h
    | some s =>
      rw [hs] at h
      have := ha s (List.mem_of_getElem? hs)
      simp only [Option.some.injEq] at h
      unfold arN
      rw [hs]
      simp only
      exact ⟨by omega, (List.getElem?_eq_some_iff.1 hs).1⟩

/-- The terms that a row is made of, and that each code finds its arguments. -/
theorem growR_len {sig : List Sy} (ha : ArOk sig) : ∀ (u : List Int) (m : Int) (i : Nat), 1 ≤ m → firstT sig m i u = ((i : Int) + u.length, 0) → ((growR sig u).length : Int) = m
  | [], m, i, hm, h => by simp [firstT] at h
  | c :: u, m, i, hm, h => by
    rw [firstT_cons] at h
    cases hc : codeD sig c with
    | none => rw [hc] at h; simp at h
    | some e =>
      rw [hc] at h
      simp only at h
      have he := codeD_ge ha hc
      have hlen : ((growR sig u).length : Int) = m + e := by
        by_cases h0 : m + e = 0
        · rw [if_pos h0] at h
          have := congrArg Prod.fst h
          simp only [List.length_cons] at this
          obtain rfl : u = [] := List.eq_nil_of_length_eq_zero (by omega)
          show ((0 : Nat) : Int) = _
          omega
        · rw [if_neg h0] at h
          exact growR_len ha u (m + e) (i + 1) (by omega) (by rw [h]; simp only [List.length_cons, Prod.mk.injEq, and_true]; omega)
      show ((growStep sig (growR sig u) c).length : Int) = m
      unfold growStep
      by_cases hv : c < 0
      · rw [if_pos hv, List.length_append]
        have he1 : e = -1 := by
          have hc2 := hc
          unfold codeD at hc2
          by_cases h9 : c < -1048576
          · rw [if_pos h9] at hc2; cases hc2
          · rw [if_neg h9, if_pos hv] at hc2; cases hc2; rfl
        simp only [List.length_cons, List.length_nil]
        omega
      · rw [if_neg hv, List.length_append, List.length_take]
        have := (codeD_ar ha hc hv).1
        simp only [List.length_cons, List.length_nil]
        omega

/-- Each code of a right term: it is one, and its arguments are there. -/
theorem grow_code {sig : List Sy} (ha : ArOk sig) : ∀ (p : List Int) (c : Int) (u : List Int) (m : Int) (i : Nat), 1 ≤ m → firstT sig m i (p ++ c :: u) = ((i : Int) + (p ++ c :: u).length, 0) → ¬ c < 0 → c.toNat < sig.length ∧ arN sig c ≤ (growR sig u).length
  | [], c, u, m, i, hm, h, hv => by
    rw [List.nil_append] at h
    have hl := growR_len ha (c :: u) m i hm h
    rw [firstT_cons] at h
    cases hc : codeD sig c with
    | none => rw [hc] at h; simp at h
    | some e =>
      rw [hc] at h
      simp only at h
      obtain ⟨k1, k2⟩ := codeD_ar ha hc hv
      refine ⟨k2, ?_⟩
      by_cases h0 : m + e = 0
      · omega
      · rw [if_neg h0] at h
        have := growR_len ha u (m + e) (i + 1) (by have := codeD_ge ha hc; omega) (by rw [h]; simp only [List.length_cons, Prod.mk.injEq, and_true]; omega)
        omega
  | d :: p, c, u, m, i, hm, h, hv => by
    rw [List.cons_append, firstT_cons] at h
    cases hc : codeD sig d with
    | none => rw [hc] at h; simp at h
    | some e =>
      rw [hc] at h
      simp only at h
      by_cases h0 : m + e = 0
      · rw [if_pos h0] at h
        have := congrArg Prod.fst h
        simp at this
        omega
      · rw [if_neg h0] at h
        exact grow_code ha p c u (m + e) (i + 1) (by have := codeD_ge ha hc; omega) (by rw [h]; simp only [List.length_cons, Prod.mk.injEq, and_true]; omega) hv

theorem grow_one {sig : List Sy} (ha : ArOk sig) {t : List Int} (h : rowE sig t = 0) : ∃ T, growR sig t = [T] ∧ T.size = t.length := by
  have h1 := growR_len ha t 1 0 (by omega) (by rw [row_first.1 h]; simp)
  have h2 := growR_sizes sig t
  cases hg : growR sig t with
  | nil => rw [hg] at h1; simp at h1
  | cons T r =>
    rw [hg] at h1 h2
    obtain rfl : r = [] := List.eq_nil_of_length_eq_zero (by simp at h1; omega)
    exact ⟨T, rfl, by simpa [sizes] using h2⟩

theorem own_rdv {w : World} {base : Nat} {e : TypeId} {v : Value} {vals : List Value} (h : w.ownsRow base e 1 v vals.length vals) : RdV w v vals := by
  rcases h.2 with ⟨rfl, hn⟩ | ⟨g, cap, cur, hv, hb, hg, hc, hm, hs, ht⟩
  · exact .inl ⟨rfl, List.eq_nil_of_length_eq_zero hn⟩
  · subst hv
    refine .inr ⟨g, 0, cap, rfl, fun j u hj => ?_⟩
    have hlt := (List.getElem?_eq_some_iff.1 hj).1
    rw [Nat.zero_add, World.ownsRow.cellAt h j (by omega)]
    exact hj

theorem own_cut {w : World} {base : Nat} {e : TypeId} {ao : Option Addr} {n cap k : Nat} {vals : List Value} (h : w.ownsRow base e 1 (.slice ao n cap) n vals) (hk : k ≤ n) : w.ownsRow base e 1 (.slice ao k cap) k (vals.take k) := by
  have h1 := h.1
  refine ⟨by rw [List.length_take]; omega, ?_⟩
  rcases h.2 with ⟨hv, hn⟩ | ⟨g, cp, cur, hv, hb, hg, hc, hm, hs, ht⟩
  · simp only [Value.slice.injEq] at hv
    obtain ⟨rfl, rfl, rfl⟩ := hv
    obtain rfl : k = 0 := by omega
    exact .inl ⟨rfl, rfl⟩
  · simp only [Value.slice.injEq] at hv
    obtain ⟨rfl, _, rfl⟩ := hv
    refine .inr ⟨g, cap, cur, rfl, hb, hg, by omega, hm, hs, ?_⟩
    rw [Nat.mul_one] at ht ⊢
    rw [← ht, List.take_take, Nat.min_eq_left hk]

theorem frozen_same {w w' : World} {a : Addr} (h : w'.heap[a.block]? = w.heap[a.block]?) : w'.frozen? a = w.frozen? a := by
  unfold World.frozen?
  rw [h]

theorem cell_putObj {W : World} {l : Nat} {o o' : Obj} {a : Addr} {x : Value} (hl : W.heap[l]? = some o) (ho : o.isCells = false) (h : W.cell? a = some x) : (W.putObj l o').cell? a = some x := by
  have hne : a.block ≠ l := by
    rintro rfl
    unfold World.cell? at h
    rw [hl] at h
    cases o <;> simp_all [Obj.isCells]
  rw [World.cell?_of_block (World.putObj_heap_other hne)]
  exact h

end Go.Proofs.YtfeeafkfjngemaaDoor

/- grow walked. -/
namespace Go.Proofs.YtfeeafkfjngemaaDoor
open Go.RowKit Go.Maps Go.Shelf

attribute [local go_sem] Oper.semAt_some

section
variable {F : Fence} {n : Nat} {P : Program} {w w' : World} {ops : Array Oper} {rest : List Oper} {o : Oper} {a : Act} {Q : Exit → Act → World → Prop}

theorem wpListIn_append_run (hg : o.guard = none) (s x : Operand) (t : TypeId) (hop : o.op = .call { callee := .builtin .append, args := #[s, x], argTypes := #[t, t] }) (v u : Value) {v' : Value} (hs : a.eval s = v) (hx : a.eval x = u)
    (hr : (Builtin.append_ #[t, t] o.type #[v, u]).run P w = .ok v' w') (h : wpListIn F n P ops Q rest (a.put o.dst v') w') : wpListIn F n P ops Q (o :: rest) a w := by
  refine wpListIn_plain hg fun K hK => ?_
  unfold Oper.wpIn
  refine ⟨?_, ?_⟩
  · simp [Oper.about, hop, resolve, Target.leads, Sem.run_pure]
  · rw [Oper.semAt_plain F _ _ (by rw [hop]; intro c hc; cases hc)]
    simp [execOp, hop, resolve, invoke, builtin, hs, hx, hr, Result.andThen]
    exact hK _ _ h

theorem operIn_append_run {K : Act → World → Prop} (s x : Operand) (t : TypeId) (hop : o.op = .call { callee := .builtin .append, args := #[s, x], argTypes := #[t, t] }) (v u : Value) {v' : Value} (hs : a.eval s = v) (hx : a.eval x = u)
    (hr : (Builtin.append_ #[t, t] o.type #[v, u]).run P w = .ok v' w') (h : K (a.put o.dst v') w') : o.wpIn F n P a w K Q := by
  unfold Oper.wpIn
  refine ⟨?_, ?_⟩
  · simp [Oper.about, hop, resolve, Target.leads, Sem.run_pure]
  · rw [Oper.semAt_plain F _ _ (by rw [hop]; intro c hc; cases hc)]
    simp [execOp, hop, resolve, invoke, builtin, hs, hx, hr, Result.andThen]
    exact h

theorem wpAnyIn_round {md : Region.Mode} (l : Nat) (hnd : (ops.all fun o => match o.op with | .defer _ => false | _ => true) = true) :
    ∀ (fuel : Nat) (listed : Array Bool) (a : Act) (w : World), wpAnyIn F n P md ops Q fuel listed a w → wpAnyIn (F.inRound l) n P md ops Q fuel listed a w := by
  intro fuel
  induction fuel with
  | zero => intro listed a w h; exact h
  | succ fuel ih =>
    intro listed a w h
    refine ⟨h.1, fun i hi => ?_⟩
    have h1 := wpOpIn_mono (fun a w h => ih (listed.setIfInBounds i true) a w h) (h.2 i hi)
    unfold wpOpIn at h1 ⊢
    cases ho : ops[i]? with
    | none => simp only [ho] at h1; exact h1
    | some o =>
      simp only [ho] at h1 ⊢
      have hno : ∀ c, o.op ≠ .defer c := fun c hc => by
        obtain ⟨hl, he⟩ := Array.getElem?_eq_some_iff.1 ho
        have h2 := Array.all_eq_true.1 hnd i hl
        rw [he, hc] at h2
        cases h2
      split
      · rename_i hw
        rw [if_pos hw] at h1
        unfold Oper.wpIn at h1 ⊢
        rw [Oper.semAt_plain _ _ _ hno] at h1 ⊢
        refine ⟨h1.1, ?_⟩
        have h3 := h1.2
        generalize (execOp a.eval o).run P w = r at h3 ⊢
        cases r with
        | ok x w' => cases x <;> exact h3
        | halt x w' => cases x <;> exact h3
      · rename_i hw
        rw [if_neg hw] at h1
        exact h1

end

theorem cell_newg' {w : World} {t : TypeId} {x : Value} {g : Nat} (hg : g = w.heap.size) (_h : x = x) : (w.alloc (.cells #[x] t)).cell? ⟨g, 0, none⟩ = some x := by
  subst hg
  rw [cell_of_row _ _ _ _ _ _ (heap_alloc_new _ _)]
  rfl

theorem frozen_newg {w : World} {t : TypeId} {x : Value} {g : Nat} (hg : g = w.heap.size) : (w.alloc (.cells #[x] t)).frozen? ⟨g, 0, none⟩ = false := by
  subst hg
  simp

theorem drop_rev {t : List Int} {k : Nat} (hk : k < t.length) : ∃ c, t.reverse[k]? = some c ∧ t.drop (t.length - (k + 1)) = c :: t.drop (t.length - k) ∧ t = t.take (t.length - (k + 1)) ++ c :: t.drop (t.length - k) := by
  have hj : t.length - (k + 1) < t.length := by omega
  refine ⟨t[t.length - (k + 1)], ?_, ?_, ?_⟩
  · rw [List.getElem?_reverse hk, show t.length - 1 - k = t.length - (k + 1) by omega]
    exact List.getElem?_eq_getElem hj
  · rw [List.drop_eq_getElem_cons hj, show t.length - (k + 1) + 1 = t.length - k by omega]
  · have h1 := List.take_append_drop (t.length - (k + 1)) t
    rw [List.drop_eq_getElem_cons hj, show t.length - (k + 1) + 1 = t.length - k by omega] at h1
    exact h1.symm

end Go.Proofs.YtfeeafkfjngemaaDoor

/- The calls of the examples, one by one. -/
namespace Go.Proofs.YtfeeafkfjngemaaDoor
open Go.RowKit Go.Maps Go.BigFrame

theorem call_canon (w : World) :
    Calls Tryd.prog 64 #[.slice (some ⟨w.heap.size + 1 + 1, 0, none⟩) 2 2]
      (((w.alloc (Obj.cells #[Value.int IntKind.i64 2, Value.int IntKind.i64 (-7), Value.int IntKind.i64 (-3)] 3)).alloc (Obj.cells #[Value.int IntKind.i64 (-3), Value.int IntKind.i64 (-9)] 3)).alloc (Obj.cells #[Value.slice (some ⟨w.heap.size, 0, none⟩) 3 3, Value.slice (some ⟨w.heap.size + 1, 0, none⟩) 2 2] 30))
      fun e w' => ∃ g cap u1 u2, e = .returned (.slice (some ⟨g, 0, none⟩) 2 cap) ∧ w'.cell? ⟨g, 0, none⟩ = some u1 ∧ w'.cell? ⟨g, 1, none⟩ = some u2 ∧ Is w' u1 [2, -1, -2] ∧ Is w' u2 [-2, -3] ∧ 2 ≤ cap ∧ cap ≤ 9223372036854775807 ∧ Below w.heap.size w w' := by
  obtain ⟨W, hW⟩ : ∃ W, W = (((w.alloc (Obj.cells #[Value.int IntKind.i64 2, Value.int IntKind.i64 (-7), Value.int IntKind.i64 (-3)] 3)).alloc (Obj.cells #[Value.int IntKind.i64 (-3), Value.int IntKind.i64 (-9)] 3)).alloc (Obj.cells #[Value.slice (some ⟨w.heap.size, 0, none⟩) 3 3, Value.slice (some ⟨w.heap.size + 1, 0, none⟩) 2 2] 30)) := ⟨_, rfl⟩
  have hsz : W.heap.size = w.heap.size + 3 := by rw [hW]; simp
  have h3 : Below w.heap.size w W := by rw [hW]; exact b1 (b1 (b1 b0))
  have i1 : Is W (.slice (some ⟨w.heap.size, 0, none⟩) 3 3) [2, -7, -3] := by
    refine is_lit (p := [2, -7, -3]) (by omega) (by decide) ⟨ei (by omega) (by omega) ?_, ei (by omega) (by omega) ?_, ei (by omega) (by omega) ?_, trivial⟩ <;> (rw [hW]; repeat (first | (refine cell_newg ?_ rfl; simp; done) | refine cell_old ?_))
  have i2 : Is W (.slice (some ⟨w.heap.size + 1, 0, none⟩) 2 2) [-3, -9] := by
    refine is_lit (p := [-3, -9]) (by omega) (by decide) ⟨ei (by omega) (by omega) ?_, ei (by omega) (by omega) ?_, trivial⟩ <;> (rw [hW]; repeat (first | (refine cell_newg ?_ rfl; simp; done) | refine cell_old ?_))
  have i3 : Rs W (.slice (some ⟨w.heap.size + 1 + 1, 0, none⟩) 2 2) [[2, -7, -3], [-3, -9]] := by
    refine rs_lit (p := [[2, -7, -3], [-3, -9]]) (by omega) (by decide) ⟨⟨by decide, _, ?_, i1⟩, ⟨by decide, _, ?_, i2⟩, trivial⟩ <;> (rw [hW]; repeat (first | (refine cell_newg ?_ rfl; simp; done) | refine cell_old ?_))
  rw [← hW]
  refine (canon_any _ [[2, -7, -3], [-3, -9]] W i3 (by decide) (by decide)).mono ?_
  rintro e w' ⟨v', vs, rfl, ho, hr, hb⟩
  rw [canon_1] at hr
  obtain ⟨g, cap, rfl⟩ := own_form ho (by decide)
  obtain ⟨u1, u2, rfl⟩ : ∃ u1 u2, vs = [u1, u2] := by
    have := hr.1
    match vs, this with
    | [a, b], _ => exact ⟨a, b, rfl⟩
  have hcap : 2 ≤ cap ∧ cap ≤ 9223372036854775807 := by
    rcases ho.2 with ⟨hv, _⟩ | ⟨g', cap', cur, hv, _, _, hc, hm, _⟩
    · cases hv
    · cases hv
      unfold maxLen at hm
      exact ⟨hc, by omega⟩
  exact ⟨g, cap, u1, u2, rfl, World.ownsRow.cellAt ho 0 (by decide), World.ownsRow.cellAt ho 1 (by decide), (hr.2 0 u1 _ rfl rfl).is, (hr.2 1 u2 _ rfl rfl).is, hcap.1, hcap.2, below_step h3 hb⟩

end Go.Proofs.YtfeeafkfjngemaaDoor

/- The examples come out true. -/
namespace Go.Proofs.YtfeeafkfjngemaaDoor
open Go.RowKit Go.Maps Go.BigFrame

end Go.Proofs.YtfeeafkfjngemaaDoor

/- Lists of rows: of one's own, held against each other, joined. -/
namespace Go.Proofs.YtfeeafkfjngemaaDoor
open Go.RowKit Go.Maps Go.BigFrame

theorem rs_of_own {w : World} {base b2 : Nat} {v : Value} {vs : List Value} {l : List (List Int)} (h : w.ownsRow base 30 1 v l.length vs) (hr : OwR w b2 vs l) (hl : ∀ t ∈ l, t.length * 8 ≤ 140737488351232) : Rs w v l := by
  have h2 := h
  rcases h2.2 with ⟨rfl, hn⟩ | ⟨g, cap, cur, rfl, hb, hg, hc, hm, hs, ht⟩
  · obtain rfl := List.eq_nil_of_length_eq_zero hn
    exact Row.nil (by simp [maxLen])
  · refine ⟨_, cap, rfl, hc, hm, fun _ => ⟨g, 0, rfl, (Array.getElem?_eq_some_iff.1 hg).1, fun k t hk => ?_⟩⟩
    have hlt : k < l.length := (List.getElem?_eq_some_iff.1 hk).1
    obtain ⟨u, hu⟩ : ∃ u, vs[k]? = some u := ⟨_, List.getElem?_eq_getElem (by rw [hr.1]; exact hlt)⟩
    refine ⟨hl t (List.mem_of_getElem? hk), u, ?_, (hr.2 k u t hu hk).is⟩
    rw [Nat.zero_add, Nat.mul_one, World.ownsRow.cellAt h k (by omega)]
    exact hu

theorem renG_length {σ : Type} (φ : σ → Int → Int × σ) : ∀ (t : List Int) (s : σ), (renG φ s t).1.length = t.length
  | [], s => rfl
  | c :: t, s => by
    unfold renG
    split
    · simp only [List.length_cons, renG_length φ t]
    · simp only [List.length_cons, renG_length φ t]

theorem canG_lens : ∀ (l : List (List Int)) (m : Met), (canG m l).map List.length = l.map List.length
  | [], _ => rfl
  | t :: l, m => by
    unfold canG
    rw [List.map_cons, List.map_cons, canG_lens l, renG_length]

theorem canL_length (l : List (List Int)) : (canL l).length = l.length := by
  have := congrArg List.length (canG_lens l [])
  simpa [canL] using this

/-- Rows of the same lengths are as small. -/
theorem lens_small {l k : List (List Int)} (h : k.map List.length = l.map List.length) (hl : ∀ t ∈ l, t.length * 8 ≤ 140737488351232) : ∀ t ∈ k, t.length * 8 ≤ 140737488351232 := by
  intro t ht
  have h1 : t.length ∈ k.map List.length := List.mem_map.2 ⟨t, ht, rfl⟩
  rw [h] at h1
  obtain ⟨u, hu, e⟩ := List.mem_map.1 h1
  rw [← e]
  exact hl u hu

theorem Rs.small {w : World} {v : Value} {l : List (List Int)} (h : Rs w v l) : ∀ t ∈ l, t.length * 8 ≤ 140737488351232 := fun t ht => by
  obtain ⟨ao, cap, rfl, _, _, hx⟩ := Row.flat h
  obtain ⟨k, hk, rfl⟩ := List.getElem_of_mem ht
  obtain ⟨g, off, x, _, hm, h3, _⟩ := hx k hk
  rw [List.getElem?_eq_getElem hk] at hm
  cases hm
  exact h3

theorem join_row (ty : TypeId) {w : World} {base n : Nat} {x u : Value} {vs : List Value} (ho : w.ownsRow base 30 1 x n vs) (hb : base ≤ w.heap.size) (hl : (n + 1) * 24 ≤ 140737488355328) (hu : u.oneCell' = true) :
    ∃ v' w', (Builtin.append_ #[90, 90] ty #[x, .slice (some ⟨w.heap.size, 0, none⟩) 1 1]).run Tryd.prog (w.alloc (.cells #[u] 30)) = .ok v' w' ∧ w'.ownsRow base 30 1 v' (n + 1) (vs ++ [u]) ∧ (w.alloc (.cells #[u] 30)).grownBy w' x.ownBlock := by
  obtain ⟨i1, hi1, hy0, hy1, hy2⟩ := info_parts info_ints
  obtain ⟨v', w', hr, h2, h3, _, _⟩ := run_append_own_at (P := Tryd.prog) (w.alloc (.cells #[u] 30)) base 90 ty 30 i1 _ 1 24 under_rows hi1 hy0 hy1 hy2 rfl (by decide) x n vs (ownsRow_later ho (below_alloc _)) ⟨w.heap.size, 0, none⟩ 1 1 [u] rfl
    (fun j y hj => by
      rw [Addr.add_lit, Nat.zero_add]
      cases j with
      | zero =>
        simp at hj
        subst hj
        exact cell_new rfl
      | succ j => simp at hj) (fun y hy => by simp at hy; subst hy; exact hu) (by unfold maxLen; omega) (by omega) (Nat.le_trans hb (below_alloc _).size)
  exact ⟨v', w', hr, h2, h3⟩

end Go.Proofs.YtfeeafkfjngemaaDoor

/- Rows that are spoilt; rows of one's own that lie apart. -/
namespace Go.Proofs.YtfeeafkfjngemaaDoor
open Go.RowKit Go.Maps Go.BigFrame

/-- One element more behind such a slice. -/
theorem append_spl (t ty e : TypeId) (i : TypeInfo) (z : Value) (bytes : Nat) (ht : Tryd.prog.underlying t = some (.slice e)) (hi : Tryd.prog.info? e = some i) (hz : i.zero = some z) (hsize : i.size = 1) (hby : i.bytes = bytes) (hzs : z.cells.size = 1)
    {w : World} {b T : Nat} {ao : Option Addr} {n cap : Nat} (h : RowS w b T e (.slice ao n cap) n) {ad : Addr} {c : Nat} {x : Value} (hx : w.cell? ad = some x) (h1 : x.oneCell' = true) (hbytes : (n + 1) * bytes ≤ 140737488355328) (hn : n + 1 ≤ maxLen) :
    ∃ g' cap' w', (Builtin.append_ #[t, t] ty #[.slice ao n cap, .slice (some ad) 1 c]).run Tryd.prog w = .ok (.slice (some ⟨g', 0, none⟩) (n + 1) cap') w' ∧ Shp w' g' e cap' ∧ n + 1 ≤ cap' ∧ cap' ≤ maxLen ∧
      ((b ≤ g' ∧ g' < T) ∨ w.heap.size ≤ g') ∧ Spl b T w w' ∧ ∀ (gp : Nat) (e' : TypeId) (m : Nat), Shp w gp e' m → e' ≠ e → w'.heap[gp]? = w.heap[gp]? := by
  have hnews : ∀ (j : Nat) (u : Value), [x][j]? = some u → w.cell? (ad.add j) = some u := fun j u hj => by
    cases j with
    | zero => simp at hj; subst hj; simpa [Addr.add] using hx
    | succ j => simp at hj
  have hone : ∀ u ∈ [x], u.oneCell' = true := fun u hu => by simp at hu; subst hu; exact h1
  have old : ∀ w', w.grownBy w' none → Spl b T w w' ∧ ∀ (gp : Nat) (e' : TypeId) (m : Nat), Shp w gp e' m → e' ≠ e → w'.heap[gp]? = w.heap[gp]? := fun w' hg => by
    have hbl : Below w.heap.size w w' := ⟨hg.os, hg.tape, hg.output, hg.size, fun k hk => hg.block k hk (by simp)⟩
    exact ⟨Spl.below hbl, fun gp e' m hs _ => hbl.block gp hs.lt⟩
  have new : ∀ (v' : Value) (w' : World) (xs : List Value), w'.ownsRow w.heap.size e 1 v' (n + 1) xs → ∃ g' cap', v' = .slice (some ⟨g', 0, none⟩) (n + 1) cap' ∧ Shp w' g' e cap' ∧ n + 1 ≤ cap' ∧ cap' ≤ maxLen ∧ w.heap.size ≤ g' := fun v' w' xs ho => by
    rcases ho.2 with ⟨_, h0⟩ | ⟨g, cap', cur, hv, hb, hg, hc, hm, hs, _⟩
    · omega
    · exact ⟨g, cap', hv, ⟨cur, hg, by omega⟩, hc, hm, hb⟩
  rcases h with ⟨hv, rfl⟩ | ⟨g, cap', hv, hb1, hb2, hsh, hc, hm⟩
  · rw [hv]
    obtain ⟨v', w', hr, ho, hg, _⟩ := run_append_own (P := Tryd.prog) w w.heap.size t ty e i z 1 bytes ht hi hz hsize hby hzs (by decide) (.slice none 0 0) 0 [] (World.ownsRow_nil w _ e 1) ad 1 c [x] rfl hnews hone (by unfold maxLen; omega) hbytes (Nat.le_refl _)
    obtain ⟨g', cap', rfl, hs', h2, h3, h4⟩ := new v' w' _ ho
    exact ⟨g', cap', w', hr, hs', h2, h3, .inr h4, (old w' hg).1, (old w' hg).2⟩
  · simp only [Value.slice.injEq, true_and] at hv
    obtain ⟨rfl, rfl⟩ := hv
    obtain ⟨cur, hg, hcs⟩ := hsh
    have hown : w.ownsRow b e 1 (.slice (some ⟨g, 0, none⟩) n cap) n (cur.toList.take n) := by
      refine ⟨by rw [List.length_take, Array.length_toList]; omega, .inr ⟨g, cap, cur, rfl, hb1, hg, hc, hm, by omega, by rw [Nat.mul_one]⟩⟩
    by_cases hroom : n + 1 ≤ cap
    · obtain ⟨w', hr, ho, hgr⟩ := run_append_own_spare (P := Tryd.prog) w b t ty e i 1 ht hi hsize g n cap _ hown ad 1 c [x] rfl hnews hone hroom
      have hs' : Shp w' g e cap := by
        rcases ho.2 with ⟨h0, _⟩ | ⟨g2, cap2, cur2, hv2, _, hg2, _, _, hs2, _⟩
        · cases h0
        · simp only [Value.slice.injEq, Option.some.injEq, Addr.mk.injEq, and_true, true_and] at hv2
          obtain ⟨rfl, rfl⟩ := hv2
          exact ⟨cur2, hg2, by omega⟩
      refine ⟨g, cap, w', hr, hs', hroom, hm, .inl ⟨hb1, hb2⟩, ⟨hgr.os, hgr.tape, hgr.output, hgr.size, fun k hk hbk => hgr.block k hk (by simp; omega), fun k e' m hk => ?_⟩, fun gp e' m hk hne => hgr.block gp hk.lt ?_⟩
      · by_cases hkg : k = g
        · subst hkg
          obtain ⟨cur3, hg3, hn3⟩ := hk
          rw [hg] at hg3
          simp only [Option.some.injEq, Obj.cells.injEq] at hg3
          obtain ⟨rfl, rfl, _⟩ := hg3
          rw [← hn3, hcs]
          exact hs'
        · have hlt := hk.lt
          obtain ⟨cur3, hg3, hn3⟩ := hk
          exact ⟨cur3, by rw [hgr.block k hlt (by simp; exact hkg)]; exact hg3, hn3⟩
      · have := hk.ne ⟨cur, hg, hcs⟩ hne
        simpa using this
    · obtain ⟨v', w', hr, ho, hgr⟩ := run_append_arg_grows (P := Tryd.prog) w t ty e i z 1 bytes ht hi hz hsize hby hzs (by decide) ⟨g, 0, none⟩ n cap (cur.toList.take n) (by rw [List.length_take, Array.length_toList]; omega) (fun j u hj => by
        have hj2 := (List.getElem?_eq_some_iff.1 hj).1
        rw [List.length_take, Array.length_toList] at hj2
        rw [Addr.add_lit, Nat.zero_add, cell_of_row _ _ _ _ _ _ hg]
        rw [List.getElem?_take_of_lt (by omega)] at hj
        simpa using hj) ad 1 c [x] rfl hnews (by omega) (by unfold maxLen at hn ⊢; omega) hbytes
      obtain ⟨g', cap', rfl, hs', h2, h3, h4⟩ := new v' w' _ ho
      exact ⟨g', cap', w', hr, hs', h2, h3, .inr h4, (old w' hgr).1, (old w' hgr).2⟩

theorem after_append {b t gp m : Nat} {e e' : TypeId} {w wn w4 wo : World} {o : Obj} (h : Spl b t w wn) (hg : wn.heap[gp]? = wo.heap[gp]?) (h4 : Spl b t (wn.alloc o) w4) (hk : ∀ (gp : Nat) (e' : TypeId) (m : Nat), Shp (wn.alloc o) gp e' m → e' ≠ e → w4.heap[gp]? = (wn.alloc o).heap[gp]?) (hs : Shp w gp e' m) (hne : e' ≠ e) :
    Spl b t w w4 ∧ w4.heap[gp]? = wo.heap[gp]? := by
  have h5 := h.trans (Spl.below (below_alloc o))
  refine ⟨h5.trans h4, ?_⟩
  rw [hk gp e' m (h5.shape _ _ _ hs) hne, (below_alloc o).block gp (h.shape _ _ _ hs).lt]
  exact hg

/-- Slices that lie in unlike blocks. -/
def Dis (v u : Value) : Prop := ∀ g, v.ownBlock = some g → u.ownBlock ≠ some g

theorem Dis.symm {v u : Value} (h : Dis v u) : Dis u v := fun g h1 h2 => h g h2 h1

theorem Dis.keep {v u : Value} (h : Dis v u) : v.ownBlock = none ∨ v.ownBlock ≠ u.ownBlock := by
  cases hv : v.ownBlock with
  | none => exact .inl rfl
  | some g => exact .inr fun e => h g hv e.symm

theorem own_blk_lt {w : World} {base : Nat} {e : TypeId} {s m j : Nat} {v : Value} {xs : List Value} (h : w.ownsRow base e s v m xs) (hj : v.ownBlock = some j) : j < w.heap.size := by
  rcases h.2 with ⟨rfl, _⟩ | ⟨g', cap, cur, rfl, hb, hg, _⟩
  · cases hj
  · cases hj
    exact (Array.getElem?_eq_some_iff.1 hg).1

theorem Dis.grow {w w2 : World} {base : Nat} {v u u' : Value} {xs : List Int} (h : Dis v u) (ho : OwI w base v xs) (hs : w.heap.size ≤ w2.heap.size) (hu : u'.ownBlock = u.ownBlock ∨ u'.ownBlock = some w2.heap.size) : Dis v u' := fun g h1 h2 => by
  rcases hu with hu | hu
  · rw [hu] at h2
    exact h g h1 h2
  · have := own_blk_lt ho.2 h1
    rw [hu] at h2
    cases h2
    omega

/-- A number joined to a row of one's own, with what becomes of its block. -/
theorem join_one (ty : TypeId) {w : World} {base : Nat} {x : Value} {xs : List Int} {c : Int} (ho : OwI w base x xs) (h1 : -9223372036854775808 ≤ c) (h2 : c ≤ 9223372036854775807) (hb : base ≤ w.heap.size) (hl : (xs.length + 1) * 8 ≤ 140737488355328) :
    ∃ v' w', (Builtin.append_ #[30, 30] ty #[x, .slice (some ⟨w.heap.size, 0, none⟩) 1 1]).run Tryd.prog (w.alloc (.cells #[.int .i64 c] 3)) = .ok v' w' ∧ OwI w' base v' (xs ++ [c]) ∧ (w.alloc (.cells #[.int .i64 c] 3)).grownBy w' x.ownBlock ∧ (v'.ownBlock = x.ownBlock ∨ v'.ownBlock = some (w.alloc (.cells #[.int .i64 c] 3)).heap.size) := by
  obtain ⟨i0, hi, hz0, hz1, hz2⟩ := info_parts info_int
  obtain ⟨v', w', hr, g2, g3, _, g5⟩ := run_append_own_at (P := Tryd.prog) (w.alloc (.cells #[.int .i64 c] 3)) base 30 ty 3 i0 _ 1 8 under_ints hi hz0 hz1 hz2 rfl (by decide) x xs.length (xs.map I64) (ownsRow_later ho.2 (below_alloc _)) ⟨w.heap.size, 0, none⟩ 1 1 [I64 c] rfl
    (fun j u hj => by
      rw [Addr.add_lit, Nat.zero_add]
      cases j with
      | zero => simp at hj; subst hj; exact cell_new rfl
      | succ j => simp at hj) (fun u hu => by simp at hu; subst hu; rfl) (by unfold maxLen; omega) (by omega) (Nat.le_trans hb (below_alloc _).size)
  refine ⟨v', w', hr, ⟨fun k y hk => ?_, ?_⟩, g3, g5⟩
  · by_cases hkl : k < xs.length
    · rw [List.getElem?_append_left hkl] at hk
      exact ho.1 k y hk
    · rw [List.getElem?_append_right (by omega)] at hk
      have hk0 : k - xs.length = 0 := by
        have := (List.getElem?_eq_some_iff.1 hk).1
        simp at this
        omega
      rw [hk0] at hk
      simp at hk
      subst hk
      exact ⟨h1, h2⟩
  · rw [List.length_append, List.map_append]
    exact g2

end Go.Proofs.YtfeeafkfjngemaaDoor

/- kidsOf walked. -/
namespace Go.Proofs.YtfeeafkfjngemaaDoor
open Go.RowKit Go.Maps

/-- The places of trees that stand one behind the other. -/
def kidsGo : Nat → List Tr → List Int
  | _, [] => []
  | p, t :: ts => (p : Int) :: kidsGo (p + t.size) ts

theorem kidsGo_app : ∀ (p : Nat) (a b : List Tr), kidsGo p (a ++ b) = kidsGo p a ++ kidsGo (p + sizes a) b
  | p, [], b => by simp [kidsGo, sizes]
  | p, t :: a, b => by simp only [List.cons_append, kidsGo, kidsGo_app (p + t.size) a b, sizes, Nat.add_assoc]

theorem kidsGo_len : ∀ (p : Nat) (a : List Tr), (kidsGo p a).length = a.length
  | _, [] => rfl
  | p, t :: a => by simp only [kidsGo, List.length_cons, kidsGo_len (p + t.size) a]

def kidsR (p : Nat) : Tr → List Int
  | .var => []
  | .app ts => kidsGo (p + 1) ts

end Go.Proofs.YtfeeafkfjngemaaDoor

/- Where the term at a place ends; endOf walked. -/
namespace Go.Proofs.YtfeeafkfjngemaaDoor
open Go.RowKit Go.Maps

/-- A part of a row. -/
theorem Is.mid {w : World} {b off cap k m : Nat} {t : List Int} (h : Is w (.slice (some ⟨b, off, none⟩) t.length cap) t) (hk : k < t.length) (hm : k + m ≤ t.length) : Is w (.slice (some ⟨b, off + k, none⟩) m (cap - k)) ((t.drop k).take m) := by
  obtain ⟨ao, cap', e, h1, h2, h3⟩ := h
  simp only [Value.slice.injEq, true_and] at e
  obtain ⟨rfl, rfl⟩ := e
  obtain ⟨g, o, e, hg, hE⟩ := h3 (by omega)
  simp only [Option.some.injEq, Addr.mk.injEq, and_true] at e
  obtain ⟨rfl, rfl⟩ := e
  have hl : ((t.drop k).take m).length = m := by rw [List.length_take, List.length_drop]; omega
  refine ⟨some ⟨b, off + k, none⟩, cap - k, by rw [hl], by omega, by omega, fun _ => ⟨b, off + k, rfl, hg, fun j x hj => ?_⟩⟩
  have hjl := (List.getElem?_eq_some_iff.1 hj).1
  rw [List.getElem?_take_of_lt (by omega), List.getElem?_drop] at hj
  have := hE (k + j) x hj
  rw [show off + k + j * 1 = off + (k + j) * 1 by omega]
  exact this

/-- What is found at a row's head is a right term by itself. -/
theorem first_take {sig : List Sy} : ∀ (r : List Int) (m : Int) (i : Nat) (n : Int), firstT sig m i r = (n, 0) → ∃ k : Nat, n = (i : Int) + k ∧ 1 ≤ k ∧ k ≤ r.length ∧ firstT sig m i (r.take k) = (n, 0)
  | [], m, i, n, h => by simp [firstT] at h
  | c :: r, m, i, n, h => by
    rw [firstT_cons] at h
    cases hc : codeD sig c with
    | none => rw [hc] at h; simp at h
    | some e =>
      rw [hc] at h
      simp only at h
      by_cases h0 : m + e = 0
      · rw [if_pos h0] at h
        refine ⟨1, ?_, Nat.le_refl _, by simp, ?_⟩
        · have := congrArg Prod.fst h
          simp only at this
          omega
        · rw [List.take_succ_cons, List.take_zero, firstT_cons, hc]
          simp only
          rw [if_pos h0]
          exact h
      · rw [if_neg h0] at h
        obtain ⟨k, h1, h2, h3, h4⟩ := first_take r (m + e) (i + 1) n h
        refine ⟨k + 1, by omega, by omega, by simp; omega, ?_⟩
        rw [List.take_succ_cons, firstT_cons, hc]
        simp only
        rw [if_neg h0]
        exact h4

/-- Where the term at a place ends, and what is wrong. -/
def endP (sig : List Sy) (t : List Int) (p : Int) : Int × Int := if p < 0 ∨ (t.length : Int) ≤ p then (0, 33) else (p + (firstT sig 1 0 (t.drop p.toNat)).1, (firstT sig 1 0 (t.drop p.toNat)).2)

theorem endP_ok {sig : List Sy} {t : List Int} {p n : Int} (h : endP sig t p = (n, 0)) : ∃ k m : Nat, p = k ∧ k < t.length ∧ 1 ≤ m ∧ n = ((k + m : Nat) : Int) ∧ k + m ≤ t.length ∧ rowE sig ((t.drop k).take m) = 0 := by
  unfold endP at h
  by_cases hp : p < 0 ∨ (t.length : Int) ≤ p
  · rw [if_pos hp] at h
    simp at h
  · rw [if_neg hp] at h
    obtain ⟨k, rfl⟩ : ∃ k : Nat, p = k := ⟨p.toNat, by omega⟩
    rw [Int.toNat_natCast] at h
    simp only [Prod.mk.injEq] at h
    obtain ⟨m, h1, h2, h3, h4⟩ := first_take (t.drop k) 1 0 (firstT sig 1 0 (t.drop k)).1 (Prod.ext rfl h.2)
    simp only [Int.natCast_zero, Int.zero_add] at h1
    rw [List.length_drop] at h3
    refine ⟨k, m, rfl, by omega, h2, by omega, by omega, ?_⟩
    rw [row_first, h4, List.length_take, List.length_drop]
    simp only [Prod.mk.injEq, and_true]
    rw [h1]
    omega

theorem first_rng {sig : List Sy} : ∀ (r : List Int) (m : Int) (i : Nat), 0 ≤ (firstT sig m i r).1 ∧ (firstT sig m i r).1 ≤ (i : Int) + r.length
  | [], m, i => by simp [firstT]
  | c :: r, m, i => by
    rw [firstT_cons]
    cases hc : codeD sig c with
    | none => simp; omega
    | some e =>
      simp only
      by_cases h0 : m + e = 0
      · rw [if_pos h0]; simp; omega
      · rw [if_neg h0]
        have := first_rng (sig := sig) r (m + e) (i + 1)
        simp only [List.length_cons]
        omega

end Go.Proofs.YtfeeafkfjngemaaDoor

/- Kids and Sub walked. -/
namespace Go.Proofs.YtfeeafkfjngemaaDoor
open Go.RowKit Go.Maps

theorem empty_ints (w : World) {base : Nat} (hb : base ≤ w.heap.size) : (w.alloc (.cells #[] 3)).ownsRow base 3 1 (.slice (some ⟨w.heap.size, 0, none⟩) 0 0) 0 [] :=
  ⟨rfl, .inr ⟨w.heap.size, 0, #[], rfl, hb, heap_alloc_new _ _, Nat.le_refl _, by simp [maxLen], by simp, by simp⟩⟩

/-- What is wrong with a term and a place; the term there; its arguments' places. -/
def placeE (sig : List Sy) (t : List Int) (p : Int) : Int := if termE sig t = 0 then (endP sig t p).2 else termE sig t

def subL (sig : List Sy) (t : List Int) (p : Int) : List Int := if placeE sig t p = 0 then (t.drop p.toNat).take ((endP sig t p).1.toNat - p.toNat) else []

def kidsL (sig : List Sy) (t : List Int) (p : Int) : List Int := match growR sig (subL sig t p) with | [T] => kidsR p.toNat T | _ => []

theorem placeE_ok {sig : List Sy} {t : List Int} {p : Int} (h : placeE sig t p = 0) : ArOk sig ∧ rowE sig t = 0 ∧ ∃ k m : Nat, p = k ∧ k < t.length ∧ 1 ≤ m ∧ endP sig t p = (((k + m : Nat) : Int), 0) ∧ k + m ≤ t.length ∧ subL sig t p = (t.drop k).take m ∧ rowE sig ((t.drop k).take m) = 0 := by
  have h0 := h
  unfold placeE at h
  by_cases ht : termE sig t = 0
  · rw [if_pos ht] at h
    have hsg : sigE sig = 0 := by
      unfold termE at ht
      by_cases hs : sigE sig = 0
      · exact hs
      · rw [if_neg hs] at ht; exact ht
    have hrw : rowE sig t = 0 := by unfold termE at ht; rw [if_pos hsg] at ht; exact ht
    obtain ⟨k, m, h1, h2, h3, h4, h5, h6⟩ := endP_ok (Prod.ext rfl h : endP sig t p = ((endP sig t p).1, 0))
    refine ⟨sigE_ok hsg, hrw, k, m, h1, h2, h3, Prod.ext h4 h, h5, ?_, h6⟩
    unfold subL
    rw [if_pos h0, h4, h1, Int.toNat_natCast, Int.toNat_natCast, show k + m - k = m by omega]
  · rw [if_neg ht] at h
    exact absurd h ht

theorem kidsL_bad {sig : List Sy} {t : List Int} {p : Int} (h : placeE sig t p ≠ 0) : kidsL sig t p = [] := by
  unfold kidsL subL
  rw [if_neg h]
  rfl

theorem subL_bad {sig : List Sy} {t : List Int} {p : Int} (h : placeE sig t p ≠ 0) : subL sig t p = [] := by
  unfold subL
  rw [if_neg h]

end Go.Proofs.YtfeeafkfjngemaaDoor
