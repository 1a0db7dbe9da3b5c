/- Texts of the proof, one behind the other. -/
import Derived.Test.YtlaenbdlgpepkaaGreatDoorOwn5
import Derived.Test.YtlaenbdlgpepkaaGreatDoorOwn4
import Derived.RangeFuncNested
import Derived.RangeFuncBound
import Derived.RangeFuncCalls
import Derived.RangeFuncLeaves
import Derived.RangeFuncBox
import Derived.Shelf.Abstract
import Derived.Shelf.RegionOpen
import Derived.OwnWalkIn
import Derived.TacticsInMore
import Derived.LoopNIn
import Derived.LoopIn
import Derived.Sort.QuietTacIn
import Derived.Sort.CutIn
import Derived.Deep.DeepAppendRoom
import Derived.Test.YtlaenbdlgpepkaaGreatDoorOwn2
/- What binds make of a right term is right; two rows of binds in one. -/
namespace Go.Proofs.YtlaenbdlgpepkaaGreatDoor
open Go.RowKit Go.Maps

theorem codeD_ge {sig : List Sy} (ha : ArOk sig) {c e : Int} (h : codeD sig c = some e) : -1 ≤ e := by
  unfold codeD at h
  split at h
  · cases h
  · split at h
    · cases h; omega
    · cases hs : sig[c.toNat]? with
      | none => rw [hs] at h; cases h
      | some s =>
        rw [hs] at h
        have := ha s (List.mem_of_getElem? hs)
        simp only [Option.some.injEq] at h
        omega

theorem firstT_cons (sig : List Sy) (m : Int) (i : Nat) (c : Int) (t : List Int) : firstT sig m i (c :: t) = (match codeD sig c with | none => (0, 30) | some e => if m + e = 0 then ((i : Int) + 1, 0) else firstT sig (m + e) (i + 1) t) := rfl

theorem firstT_le (sig : List Sy) : ∀ (t : List Int) (m : Int) (i : Nat), (firstT sig m i t).2 = 0 → (firstT sig m i t).1 ≤ (i : Int) + t.length
  | [], m, i, h => by simp [firstT] at h
  | c :: t, m, i, h => by
    rw [firstT_cons] at h ⊢
    cases hc : codeD sig c with
    | none => rw [hc] at h; simp at h
    | some e =>
      rw [hc] at h
      simp only at h ⊢
      split
      · simp only [List.length_cons]; omega
      · rename_i hm
        rw [if_neg hm] at h
        have := firstT_le sig t (m + e) (i + 1) h
        simp only [List.length_cons]
        omega

theorem row_first {sig : List Sy} {t : List Int} : rowE sig t = 0 ↔ firstT sig 1 0 t = ((t.length : Int), 0) := by
  unfold rowE
  constructor
  · intro h
    split at h
    · cases h
    · rename_i hn
      have h1 := firstT_le sig t 1 0 h
      have h2 : ¬ (firstT sig 1 0 t).1 < (t.length : Int) := fun h3 => hn ⟨h, h3⟩
      refine Prod.ext ?_ h
      show (firstT sig 1 0 t).1 = _
      omega
  · intro h
    rw [h]
    simp

/-- A row that closes d terms, ahead of another one. -/
theorem first_app {sig : List Sy} (ha : ArOk sig) : ∀ (x : List Int) (d : Int) (j : Nat), 1 ≤ d → firstT sig d j x = ((j : Int) + x.length, 0) → ∀ (m : Int) (i : Nat) (r : List Int), d ≤ m → firstT sig m i (x ++ r) = if m = d then ((i : Int) + x.length, 0) else firstT sig (m - d) (i + x.length) r
  | [], d, j, hd, h, m, i, r, hm => by simp [firstT] at h
  | c :: x, d, j, hd, h, m, i, r, hm => by
    rw [List.cons_append]
    rw [firstT_cons] at h ⊢
    cases hc : codeD sig c with
    | none => rw [hc] at h; simp at h
    | some e =>
      rw [hc] at h
      simp only at h ⊢
      have he := codeD_ge ha hc
      by_cases h0 : d + e = 0
      · rw [if_pos h0] at h
        have hx : x = [] := by
          have := congrArg Prod.fst h
          simp only [List.length_cons] at this
          exact List.eq_nil_of_length_eq_zero (by omega)
        subst hx
        by_cases hmd : m = d
        · rw [if_pos (by omega), if_pos hmd]; simp
        · rw [if_neg (by omega), if_neg hmd, show m + e = m - d by omega]; simp
      · rw [if_neg h0] at h
        rw [if_neg (by omega), first_app ha x (d + e) (j + 1) (by omega) (by rw [h]; simp only [List.length_cons, Prod.mk.injEq, and_true]; omega) (m + e) (i + 1) r (by omega)]
        by_cases hmd : m = d
        · rw [if_pos hmd, if_pos (by omega)]
          simp only [List.length_cons, Prod.mk.injEq, and_true]
          omega
        · rw [if_neg hmd, if_neg (by omega), show m + e - (d + e) = m - d by omega, List.length_cons, show i + 1 + x.length = i + (x.length + 1) by omega]

/-- Right pieces make a right row of a right row. -/
theorem first_laid {sig : List Sy} (ha : ArOk sig) {f : Int → Option (List Int)} (hf : ∀ n u, f n = some u → rowE sig u = 0) : ∀ (t : List Int) (d : Int) (j i : Nat), 1 ≤ d → firstT sig d j t = ((j : Int) + t.length, 0) → firstT sig d i (laidL f t) = ((i : Int) + (laidL f t).length, 0)
  | [], d, j, i, hd, h => by simp [firstT] at h
  | c :: t, d, j, i, hd, h => by
    have hl : laidL f (c :: t) = piece f c ++ laidL f t := by unfold laidL; rw [List.flatMap_cons]
    rw [hl]
    rw [firstT_cons] at h
    cases hc : codeD sig c with
    | none => rw [hc] at h; simp at h
    | some e =>
      rw [hc] at h
      simp only at h
      have he := codeD_ge ha hc
      -- what is left behind the code
      have hrest : d + e = 0 → t = [] := fun h0 => by
        rw [if_pos h0] at h
        have := congrArg Prod.fst h
        simp only [List.length_cons] at this
        exact List.eq_nil_of_length_eq_zero (by omega)
      have hnext : ¬ d + e = 0 → ∀ i, firstT sig (d + e) i (laidL f t) = ((i : Int) + (laidL f t).length, 0) := fun h0 i => by
        rw [if_neg h0] at h
        exact first_laid ha hf t (d + e) (j + 1) i (by omega) (by rw [h]; simp only [List.length_cons, Prod.mk.injEq, and_true]; omega)
      have hself : firstT sig d i ([c] ++ laidL f t) = ((i : Int) + ([c] ++ laidL f t).length, 0) := by
        rw [List.singleton_append, firstT_cons, hc]
        simp only
        by_cases h0 : d + e = 0
        · rw [if_pos h0, hrest h0]
          simp [laidL]
        · rw [if_neg h0, hnext h0]
          simp only [List.length_cons, Prod.mk.injEq, and_true]
          omega
      by_cases hv : c < 0
      · cases hb : f (-1 - c) with
        | none =>
          have : piece f c = [c] := by unfold piece; rw [if_pos hv, hb]; rfl
          rw [this]
          exact hself
        | some x =>
          have hp : piece f c = x := by unfold piece; rw [if_pos hv, hb]; rfl
          have hx := row_first.1 (hf _ _ hb)
          have he1 : e = -1 := by
            have hc2 := hc
            unfold codeD at hc2
            by_cases h9 : c < -1048576
            · rw [if_pos h9] at hc2; cases hc2
            · rw [if_neg h9, if_pos hv] at hc2; cases hc2; rfl
          rw [hp, first_app ha x 1 0 (by omega) (by rw [hx]; simp) d i (laidL f t) hd]
          by_cases h0 : d + e = 0
          · rw [if_pos (by omega), hrest h0]
            simp [laidL]
          · rw [if_neg (by omega), show d - 1 = d + e by omega, hnext h0, List.length_append]
            simp only [Prod.mk.injEq, and_true]
            omega
      · have : piece f c = [c] := by unfold piece; rw [if_neg hv]
        rw [this]
        exact hself

theorem row_laid {sig : List Sy} (ha : ArOk sig) {f : Int → Option (List Int)} (hf : ∀ n u, f n = some u → rowE sig u = 0) {t : List Int} (h : rowE sig t = 0) : rowE sig (laidL f t) = 0 := by
  have h1 := first_laid ha hf t 1 0 0 (by omega) (by rw [row_first.1 h]; simp)
  exact row_first.2 (by rw [h1]; simp)

theorem bind_all (sig : List Sy) : ∀ (s : List Bd) (p : Option Int), bindGo sig p s = 0 → ∀ b ∈ s, isVarB b.1 = true ∧ termE sig b.2 = 0
  | [], _, _, b, hb => by cases hb
  | a :: r, p, h, b, hb => by
    unfold bindGo at h
    split at h
    · rename_i hv
      split at h
      · cases h
      · split at h
        · rename_i ht
          cases hb with
          | head => exact ⟨hv, ht⟩
          | tail _ hb => exact bind_all sig r (some a.1) h b hb
        · rename_i ht
          exact absurd h ht
    · cases h

theorem bind_made (sig : List Sy) : ∀ (s : List Bd) (p : Option Int), (∀ b ∈ s, isVarB b.1 = true ∧ termE sig b.2 = 0) → (∀ y, p = some y → ∀ b ∈ s, y < b.1) → s.Pairwise (fun a b => a.1 < b.1) → bindGo sig p s = 0
  | [], _, _, _, _ => rfl
  | a :: r, p, h, hp, hr => by
    obtain ⟨h1, h2⟩ := List.pairwise_cons.1 hr
    unfold bindGo
    rw [if_pos (h a (.head _)).1, if_neg (by
      cases p with
      | none => simp
      | some y =>
        have := hp y rfl a (.head _)
        simp
        omega), if_pos (h a (.head _)).2]
    exact bind_made sig r (some a.1) (fun b hb => h b (.tail _ hb)) (fun y hy b hb => by cases hy; exact h1 b hb) h2

theorem bind_parts {sig : List Sy} {s : List Bd} (h : bindE sig s = 0) : sigE sig = 0 ∧ bindGo sig none s = 0 := by
  unfold bindE at h
  split at h
  · rename_i h0; exact ⟨h0, h⟩
  · rename_i h0; exact absurd h h0

theorem rise_len : ∀ (s : List Bd) (lo : Int), s.Pairwise (fun a b => a.1 < b.1) → (∀ b ∈ s, lo ≤ b.1 ∧ b.1 < 1048576) → lo ≤ 1048576 → (s.length : Int) ≤ 1048576 - lo
  | [], lo, _, _, h => by simp; omega
  | a :: r, lo, hr, hb, h => by
    obtain ⟨h1, h2⟩ := List.pairwise_cons.1 hr
    have ha := hb a (.head _)
    have := rise_len r (a.1 + 1) h2 (fun b hm => ⟨by have := h1 b hm; omega, (hb b (.tail _ hm)).2⟩) (by omega)
    simp only [List.length_cons]
    omega

theorem binds_few {sig : List Sy} {s : List Bd} (h : bindE sig s = 0) : s.length ≤ 1048576 := by
  obtain ⟨_, h1⟩ := bind_parts h
  have h2 := rise_len s 0 (bind_rise sig s none h1).2 (fun b hb => isVarB_iff.1 (bind_all sig s none h1 b hb).1) (by omega)
  omega

/-- The binds ahead of a number; those behind it. -/
def pre (x : Int) (r : List Bd) : List Bd := r.takeWhile fun c => decide (c.1 < x)
def skipE (x : Int) : List Bd → List Bd
  | [] => []
  | c :: r => if c.1 = x then r else c :: r
def post (x : Int) (r : List Bd) : List Bd := skipE x (r.dropWhile fun c => decide (c.1 < x))

/-- Two rows of binds in one: g is done to the first one's terms. -/
def merge (g : List Int → List Int) : List Bd → List Bd → List Bd
  | [], r => r
  | b :: s, r => pre b.1 r ++ (b.1, g b.2) :: merge g s (post b.1 r)

theorem merge_cons (g : List Int → List Int) (b : Bd) (s r : List Bd) : merge g (b :: s) r = pre b.1 r ++ (b.1, g b.2) :: merge g s (post b.1 r) := rfl

theorem merge_less (g : List Int → List Int) (b c : Bd) (s r : List Bd) (h : c.1 < b.1) : merge g (b :: s) (c :: r) = c :: merge g (b :: s) r := by
  rw [merge_cons, merge_cons]
  unfold pre post
  rw [List.takeWhile_cons, List.dropWhile_cons, decide_eq_true h]
  simp

theorem merge_same (g : List Int → List Int) (b c : Bd) (s r : List Bd) (h : c.1 = b.1) : merge g (b :: s) (c :: r) = (b.1, g b.2) :: merge g s r := by
  rw [merge_cons]
  unfold pre post
  rw [List.takeWhile_cons, List.dropWhile_cons, decide_eq_false (by omega)]
  simp [skipE, h]

theorem merge_more (g : List Int → List Int) (b : Bd) (s r : List Bd) (h : ∀ c, r[0]? = some c → b.1 < c.1) : merge g (b :: s) r = (b.1, g b.2) :: merge g s r := by
  cases r with
  | nil => rfl
  | cons c r =>
    have hc := h c rfl
    rw [merge_cons]
    unfold pre post
    rw [List.takeWhile_cons, List.dropWhile_cons, decide_eq_false (by omega)]
    have : ¬ c.1 = b.1 := by omega
    simp [skipE, this]

theorem look_app (n : Int) : ∀ (l m : List Bd), (l ++ m).lookup n = (l.lookup n).or (m.lookup n)
  | [], m => by simp
  | (k, v) :: l, m => by
    rw [List.cons_append, List.lookup_cons, List.lookup_cons]
    cases n == k with
    | true => rfl
    | false => exact look_app n l m

theorem look_none_lt {x n : Int} {l : List Bd} (h : ∀ b ∈ l, x < b.1) (hn : n ≤ x) : l.lookup n = none := by
  cases hl : l.lookup n with
  | none => rfl
  | some u =>
    have := h _ (lookup_mem hl)
    simp only at this
    omega

theorem pre_lt {x : Int} : ∀ {r : List Bd} {b : Bd}, b ∈ pre x r → b.1 < x
  | [], b, h => by simp [pre] at h
  | c :: r, b, h => by
    unfold pre at h
    rw [List.takeWhile_cons] at h
    split at h
    · rename_i hc
      cases h with
      | head => exact of_decide_eq_true hc
      | tail _ h => exact pre_lt (r := r) h
    · cases h

theorem pre_sub {x : Int} {r : List Bd} {b : Bd} (h : b ∈ pre x r) : b ∈ r := List.takeWhile_sublist _ |>.subset h

theorem drop_ge {x : Int} : ∀ {r : List Bd}, r.Pairwise (fun a b => a.1 < b.1) → ∀ b ∈ r.dropWhile (fun c => decide (c.1 < x)), x ≤ b.1
  | [], _, b, h => by cases h
  | c :: r, hr, b, h => by
    obtain ⟨h1, h2⟩ := List.pairwise_cons.1 hr
    rw [List.dropWhile_cons] at h
    split at h
    · exact drop_ge h2 b h
    · rename_i hc
      have hc' : x ≤ c.1 := by simpa using hc
      cases h with
      | head => exact hc'
      | tail _ h => have := h1 b h; omega

theorem skip_sub {x : Int} {r : List Bd} {b : Bd} (h : b ∈ skipE x r) : b ∈ r := by
  cases r with
  | nil => cases h
  | cons c r =>
    by_cases hc : c.1 = x
    · simp only [skipE, if_pos hc] at h
      exact .tail _ h
    · simp only [skipE, if_neg hc] at h
      exact h

theorem post_facts {x : Int} {r : List Bd} (hr : r.Pairwise (fun a b => a.1 < b.1)) : (∀ b ∈ post x r, b ∈ r ∧ x < b.1) ∧ (post x r).Pairwise (fun a b => a.1 < b.1) ∧ ∀ n, n ≠ x → r.lookup n = ((pre x r).lookup n).or ((post x r).lookup n) := by
  have hd := drop_ge (x := x) hr
  have hdp : (r.dropWhile fun c => decide (c.1 < x)).Pairwise (fun a b => a.1 < b.1) := hr.sublist (List.dropWhile_sublist _)
  have hsub : ∀ b ∈ r.dropWhile (fun c => decide (c.1 < x)), b ∈ r := fun b hb => (List.dropWhile_sublist _).subset hb
  have hsplit : ∀ n, r.lookup n = ((pre x r).lookup n).or ((r.dropWhile fun c => decide (c.1 < x)).lookup n) := fun n => by
    rw [← look_app]
    unfold pre
    rw [List.takeWhile_append_dropWhile]
  unfold post
  generalize (r.dropWhile fun c => decide (c.1 < x)) = q at hd hdp hsub hsplit
  cases q with
  | nil => exact ⟨fun b hb => (by cases hb), List.Pairwise.nil, fun n _ => hsplit n⟩
  | cons c q =>
    obtain ⟨h1, h2⟩ := List.pairwise_cons.1 hdp
    by_cases hc : c.1 = x
    · simp only [skipE, if_pos hc]
      refine ⟨fun b hb => ⟨hsub b (.tail _ hb), by have := h1 b hb; omega⟩, h2, fun n hn => ?_⟩
      rw [hsplit n]
      congr 1
      obtain ⟨k, v⟩ := c
      rw [List.lookup_cons, show (n == k) = false by rw [beq_eq_false_iff_ne]; simp only at hc; omega]
    · simp only [skipE, if_neg hc]
      refine ⟨fun b hb => ⟨hsub b hb, ?_⟩, hdp, fun n _ => hsplit n⟩
      cases hb with
      | head => have := hd c (.head _); omega
      | tail _ hb => have := h1 b hb; have := hd c (.head _); omega

theorem merge_facts (g : List Int → List Int) : ∀ (s r : List Bd), s.Pairwise (fun a b => a.1 < b.1) → r.Pairwise (fun a b => a.1 < b.1) →
    (∀ b ∈ merge g s r, b ∈ r ∨ ∃ a ∈ s, b = (a.1, g a.2)) ∧ (merge g s r).Pairwise (fun a b => a.1 < b.1) ∧ ∀ n, (merge g s r).lookup n = match s.lookup n with | some u => some (g u) | none => r.lookup n
  | [], r, _, hr => ⟨fun b hb => .inl hb, hr, fun n => rfl⟩
  | a :: s, r, hs, hr => by
    obtain ⟨h1, h2⟩ := List.pairwise_cons.1 hs
    obtain ⟨p1, p2, p3⟩ := post_facts (x := a.1) hr
    obtain ⟨m1, m2, m3⟩ := merge_facts g s (post a.1 r) h2 p2
    have hgt : ∀ b ∈ merge g s (post a.1 r), a.1 < b.1 := fun b hb => by
      rcases m1 b hb with h | ⟨c, hc, rfl⟩
      · exact (p1 b h).2
      · exact h1 c hc
    refine ⟨fun b hb => ?_, ?_, fun n => ?_⟩
    · rw [merge_cons] at hb
      rcases List.mem_append.1 hb with hb | hb
      · exact .inl (pre_sub hb)
      · cases hb with
        | head => exact .inr ⟨a, .head _, rfl⟩
        | tail _ hb =>
          rcases m1 b hb with h | ⟨c, hc, e⟩
          · exact .inl (p1 b h).1
          · exact .inr ⟨c, .tail _ hc, e⟩
    · rw [merge_cons, List.pairwise_append]
      refine ⟨hr.sublist (List.takeWhile_sublist _), List.Pairwise.cons hgt m2, fun b hb c hc => ?_⟩
      have h3 := pre_lt hb
      cases hc with
      | head => exact h3
      | tail _ hc => have := hgt c hc; omega
    · rw [merge_cons]
      obtain ⟨x, u⟩ := a
      simp only at h1 p1 p3 m3 hgt ⊢
      rw [look_app, List.lookup_cons, List.lookup_cons]
      by_cases hn : n = x
      · subst hn
        rw [show (n == n) = true by simp]
        have : (pre n r).lookup n = none := by
          cases hl : (pre n r).lookup n with
          | none => rfl
          | some y =>
            have := pre_lt (lookup_mem hl)
            simp at this
        rw [this]
        rfl
      · rw [show (n == x) = false by rw [beq_eq_false_iff_ne]; exact hn]
        simp only
        rw [m3 n, p3 n hn]
        cases hl : (pre x r).lookup n with
        | none =>
          cases s.lookup n <;> rfl
        | some y =>
          have hlt := pre_lt (lookup_mem hl)
          simp only at hlt
          have : s.lookup n = none := look_none_lt h1 (by omega)
          rw [this]

theorem laid_none (t : List Int) : laidL (bnd []) t = t := by
  induction t with
  | nil => rfl
  | cons c t ih =>
    have : laidL (bnd []) (c :: t) = piece (bnd []) c ++ laidL (bnd []) t := by unfold laidL; rw [List.flatMap_cons]
    rw [this, ih]
    unfold piece bnd
    split <;> rfl

theorem apply_ok {sig : List Sy} {s : List Bd} {t : List Int} (h : applyE sig s t = 0) : bindE sig s = 0 ∧ termE sig t = 0 ∧ (laidL (bnd s) t).length ≤ 512 ∧ applyL sig s t = laidL (bnd s) t := by
  unfold applyE at h
  split at h
  · rename_i hb
    split at h
    · rename_i ht
      obtain ⟨e1, e2⟩ := lay_eq (bnd s) t
      rw [e1] at h
      have hl : ¬ 512 < (laidL (bnd s) t).length := fun h9 => by rw [if_pos h9] at h; cases h
      refine ⟨hb, ht, by omega, ?_⟩
      unfold applyL
      rw [if_pos hb, if_pos ht, e2, if_neg hl]
    · rename_i ht; exact absurd h ht
  · rename_i hb; exact absurd h hb

theorem apply_of {sig : List Sy} {s : List Bd} {t : List Int} (hb : bindE sig s = 0) (ht : termE sig t = 0) : applyE sig s t = (if 512 < (laidL (bnd s) t).length then 2 else 0) ∧ applyL sig s t = if 512 < (laidL (bnd s) t).length then [] else laidL (bnd s) t := by
  unfold applyE applyL
  rw [if_pos hb, if_pos ht, if_pos hb, if_pos ht]
  exact lay_eq (bnd s) t

theorem bnd_right {sig : List Sy} {s : List Bd} (h : bindE sig s = 0) : ∀ n u, bnd s n = some u → rowE sig u = 0 := fun n u hn => by
  obtain ⟨h0, h1⟩ := bind_parts h
  have := (bind_all sig s none h1 _ (List.mem_reverse.1 (lookup_mem hn))).2
  unfold termE at this
  rw [if_pos h0] at this
  exact this

theorem term_laid {sig : List Sy} {s : List Bd} {t : List Int} (hb : bindE sig s = 0) (ht : termE sig t = 0) : termE sig (laidL (bnd s) t) = 0 := by
  obtain ⟨h0, _⟩ := bind_parts hb
  unfold termE at ht ⊢
  rw [if_pos h0] at ht ⊢
  exact row_laid (sigE_ok h0) (bnd_right hb) ht

/-- One after the other is both at once. -/
theorem after_both {sig : List Sy} {s r : List Bd} {t : List Int} (h : applyE sig s t = 0) (hr : ∀ b ∈ s, applyE sig r b.2 = 0) :
    applyE sig r (applyL sig s t) = applyE sig (merge (fun u => applyL sig r u) s r) t ∧ applyL sig r (applyL sig s t) = applyL sig (merge (fun u => applyL sig r u) s r) t := by
  obtain ⟨hb, ht, hl, e⟩ := apply_ok h
  rw [e]
  cases s with
  | nil =>
    rw [laid_none]
    exact ⟨rfl, rfl⟩
  | cons a s =>
    obtain ⟨hbr, _, _, _⟩ := apply_ok (hr a (.head _))
    obtain ⟨h0, h1⟩ := bind_parts hb
    obtain ⟨_, h2⟩ := bind_parts hbr
    have hs := (bind_rise sig _ none h1).2
    have hrr := (bind_rise sig _ none h2).2
    obtain ⟨m1, m2, m3⟩ := merge_facts (fun u => applyL sig r u) (a :: s) r hs hrr
    have hbm : bindE sig (merge (fun u => applyL sig r u) (a :: s) r) = 0 := by
      unfold bindE
      rw [if_pos h0]
      refine bind_made sig _ none (fun b hbm => ?_) (fun y hy => by cases hy) m2
      rcases m1 b hbm with hm | ⟨c, hc, rfl⟩
      · exact bind_all sig r none h2 b hm
      · obtain ⟨k1, k2⟩ := bind_all sig _ none h1 c hc
        obtain ⟨_, _, _, k3⟩ := apply_ok (hr c hc)
        refine ⟨k1, ?_⟩
        show termE sig (applyL sig r c.2) = 0
        rw [k3]
        exact term_laid hbr k2
    have hbnd : ∀ n, bnd (merge (fun u => applyL sig r u) (a :: s) r) n = match bnd (a :: s) n with | some u => some (laidL (bnd r) u) | none => bnd r n := fun n => by
      have f1 : bnd (merge (fun u => applyL sig r u) (a :: s) r) n = _ := (look_rise m2 n).symm
      have f2 : bnd (a :: s) n = _ := (look_rise hs n).symm
      have f3 : bnd r n = _ := (look_rise hrr n).symm
      rw [f1, f2, f3, m3 n]
      cases hl : (a :: s).lookup n with
      | none => rfl
      | some u =>
        obtain ⟨_, _, _, k3⟩ := apply_ok (hr _ (lookup_mem hl))
        simp only at k3 ⊢
        rw [k3]
    have hla := laid_after (bnd (a :: s)) (bnd r) _ hbnd t
    obtain ⟨e1, e2⟩ := apply_of hbr (term_laid hb ht)
    obtain ⟨e3, e4⟩ := apply_of hbm ht
    rw [e1, e2, e3, e4, hla]
    exact ⟨rfl, rfl⟩

end Go.Proofs.YtlaenbdlgpepkaaGreatDoor

/- The tree of a right term. -/
namespace Go.Proofs.YtlaenbdlgpepkaaGreatDoor
open Go.RowKit Go.Maps Go.Shelf

attribute [local go_sem] Oper.semAt_some

/-- How many arguments a code has. -/
def arN (sig : List Sy) (c : Int) : Nat := match sig[c.toNat]? with | some s => s.2.toNat | none => 0

/-- A code more, from the back to the front: what begins first is the last one. -/
def growStep (sig : List Sy) (st : List Tr) (c : Int) : List Tr := if c < 0 then st ++ [.var] else st.take (st.length - arN sig c) ++ [.app (st.drop (st.length - arN sig c)).reverse]

def growR (sig : List Sy) : List Int → List Tr
  | [] => []
  | c :: u => growStep sig (growR sig u) c

theorem sizes_rev : ∀ ts : List Tr, sizes ts.reverse = sizes ts
  | [] => rfl
  | t :: ts => by
    rw [List.reverse_cons, sizes_app, sizes_rev ts]
    simp only [sizes]
    omega

theorem growStep_sizes (sig : List Sy) (st : List Tr) (c : Int) : sizes (growStep sig st c) = sizes st + 1 := by
  unfold growStep
  split
  · rw [sizes_app]; simp [sizes, Tr.size]
  · have h1 := sizes_app (st.take (st.length - arN sig c)) (st.drop (st.length - arN sig c))
    rw [List.take_append_drop] at h1
    rw [sizes_app]
    simp only [sizes, Tr.size, sizes_rev]
    omega

theorem growR_sizes (sig : List Sy) : ∀ u : List Int, sizes (growR sig u) = u.length
  | [] => rfl
  | c :: u => by
    show sizes (growStep sig (growR sig u) c) = _
    rw [growStep_sizes, growR_sizes sig u, List.length_cons]

theorem codeD_ar {sig : List Sy} (ha : ArOk sig) {c e : Int} (h : codeD sig c = some e) (hc : ¬ c < 0) : e = (arN sig c : Int) - 1 ∧ c.toNat < sig.length := by
  unfold codeD at h
  by_cases h9 : c < -1048576
  · omega
  · rw [if_neg h9, if_neg hc] at h
    cases hs : sig[c.toNat]? with
    | none => rw [hs] at h; cases h
    | some s =>
      rw [hs] at h
      have := ha s (List.mem_of_getElem? hs)
      simp only [Option.some.injEq] at h
      unfold arN
      rw [hs]
      simp only
      exact ⟨by omega, (List.getElem?_eq_some_iff.1 hs).1⟩

/-- The terms that a row is made of, and that each code finds its arguments. -/
theorem growR_len {sig : List Sy} (ha : ArOk sig) : ∀ (u : List Int) (m : Int) (i : Nat), 1 ≤ m → firstT sig m i u = ((i : Int) + u.length, 0) → ((growR sig u).length : Int) = m
  | [], m, i, hm, h => by simp [firstT] at h
  | c :: u, m, i, hm, h => by
    rw [firstT_cons] at h
    cases hc : codeD sig c with
    | none => rw [hc] at h; simp at h
    | some e =>
      rw [hc] at h
      simp only at h
      have he := codeD_ge ha hc
      have hlen : ((growR sig u).length : Int) = m + e := by
        by_cases h0 : m + e = 0
        · rw [if_pos h0] at h
          have := congrArg Prod.fst h
          simp only [List.length_cons] at this
          obtain rfl : u = [] := List.eq_nil_of_length_eq_zero (by omega)
          show ((0 : Nat) : Int) = _
          omega
        · rw [if_neg h0] at h
          exact growR_len ha u (m + e) (i + 1) (by omega) (by rw [h]; simp only [List.length_cons, Prod.mk.injEq, and_true]; omega)
      show ((growStep sig (growR sig u) c).length : Int) = m
      unfold growStep
      by_cases hv : c < 0
      · rw [if_pos hv, List.length_append]
        have he1 : e = -1 := by
          have hc2 := hc
          unfold codeD at hc2
          by_cases h9 : c < -1048576
          · rw [if_pos h9] at hc2; cases hc2
          · rw [if_neg h9, if_pos hv] at hc2; cases hc2; rfl
        simp only [List.length_cons, List.length_nil]
        omega
      · rw [if_neg hv, List.length_append, List.length_take]
        have := (codeD_ar ha hc hv).1
        simp only [List.length_cons, List.length_nil]
        omega

/-- Each code of a right term: it is one, and its arguments are there. -/
theorem grow_code {sig : List Sy} (ha : ArOk sig) : ∀ (p : List Int) (c : Int) (u : List Int) (m : Int) (i : Nat), 1 ≤ m → firstT sig m i (p ++ c :: u) = ((i : Int) + (p ++ c :: u).length, 0) → ¬ c < 0 → c.toNat < sig.length ∧ arN sig c ≤ (growR sig u).length
  | [], c, u, m, i, hm, h, hv => by
    rw [List.nil_append] at h
    have hl := growR_len ha (c :: u) m i hm h
    rw [firstT_cons] at h
    cases hc : codeD sig c with
    | none => rw [hc] at h; simp at h
    | some e =>
      rw [hc] at h
      simp only at h
      obtain ⟨k1, k2⟩ := codeD_ar ha hc hv
      refine ⟨k2, ?_⟩
      by_cases h0 : m + e = 0
      · omega
      · rw [if_neg h0] at h
        have := growR_len ha u (m + e) (i + 1) (by have := codeD_ge ha hc; omega) (by rw [h]; simp only [List.length_cons, Prod.mk.injEq, and_true]; omega)
        omega
  | d :: p, c, u, m, i, hm, h, hv => by
    rw [List.cons_append, firstT_cons] at h
    cases hc : codeD sig d with
    | none => rw [hc] at h; simp at h
    | some e =>
      rw [hc] at h
      simp only at h
      by_cases h0 : m + e = 0
      · rw [if_pos h0] at h
        have := congrArg Prod.fst h
        simp at this
        omega
      · rw [if_neg h0] at h
        exact grow_code ha p c u (m + e) (i + 1) (by have := codeD_ge ha hc; omega) (by rw [h]; simp only [List.length_cons, Prod.mk.injEq, and_true]; omega) hv

theorem grow_one {sig : List Sy} (ha : ArOk sig) {t : List Int} (h : rowE sig t = 0) : ∃ T, growR sig t = [T] ∧ T.size = t.length := by
  have h1 := growR_len ha t 1 0 (by omega) (by rw [row_first.1 h]; simp)
  have h2 := growR_sizes sig t
  cases hg : growR sig t with
  | nil => rw [hg] at h1; simp at h1
  | cons T r =>
    rw [hg] at h1 h2
    obtain rfl : r = [] := List.eq_nil_of_length_eq_zero (by simp at h1; omega)
    exact ⟨T, rfl, by simpa [sizes] using h2⟩

theorem own_rdv {w : World} {base : Nat} {e : TypeId} {v : Value} {vals : List Value} (h : w.ownsRow base e 1 v vals.length vals) : RdV w v vals := by
  rcases h.2 with ⟨rfl, hn⟩ | ⟨g, cap, cur, hv, hb, hg, hc, hm, hs, ht⟩
  · exact .inl ⟨rfl, List.eq_nil_of_length_eq_zero hn⟩
  · subst hv
    refine .inr ⟨g, 0, cap, rfl, fun j u hj => ?_⟩
    have hlt := (List.getElem?_eq_some_iff.1 hj).1
    rw [Nat.zero_add, World.ownsRow.cellAt h j (by omega)]
    exact hj

theorem own_cut {w : World} {base : Nat} {e : TypeId} {ao : Option Addr} {n cap k : Nat} {vals : List Value} (h : w.ownsRow base e 1 (.slice ao n cap) n vals) (hk : k ≤ n) : w.ownsRow base e 1 (.slice ao k cap) k (vals.take k) := by
  have h1 := h.1
  refine ⟨by rw [List.length_take]; omega, ?_⟩
  rcases h.2 with ⟨hv, hn⟩ | ⟨g, cp, cur, hv, hb, hg, hc, hm, hs, ht⟩
  · simp only [Value.slice.injEq] at hv
    obtain ⟨rfl, rfl, rfl⟩ := hv
    obtain rfl : k = 0 := by omega
    exact .inl ⟨rfl, rfl⟩
  · simp only [Value.slice.injEq] at hv
    obtain ⟨rfl, _, rfl⟩ := hv
    refine .inr ⟨g, cap, cur, rfl, hb, hg, by omega, hm, hs, ?_⟩
    rw [Nat.mul_one] at ht ⊢
    rw [← ht, List.take_take, Nat.min_eq_left hk]

theorem frozen_same {w w' : World} {a : Addr} (h : w'.heap[a.block]? = w.heap[a.block]?) : w'.frozen? a = w.frozen? a := by
  unfold World.frozen?
  rw [h]

/-- Where grow stands. -/
structure GI (w W : World) (sv v gv : Value) (vals : List Value) (st : List Tr) : Prop where
  box : W.cell? ⟨w.heap.size + 1, 0, none⟩ = some gv
  frz : W.frozen? ⟨w.heap.size + 1, 0, none⟩ = false
  sigb : W.cell? ⟨w.heap.size, 0, none⟩ = some sv
  bck : W.cell? ⟨w.heap.size + 2, 0, none⟩ = some v
  own : W.ownsRow (w.heap.size + 3) 104 1 gv vals.length vals
  tv : TVl W (fun b => w.heap.size + 3 ≤ b ∧ b < W.heap.size ∧ gv.ownBlock ≠ some b) vals st
  bel : Below w.heap.size w W
  sz : w.heap.size + 3 ≤ W.heap.size

theorem cell_putObj {W : World} {l : Nat} {o o' : Obj} {a : Addr} {x : Value} (hl : W.heap[l]? = some o) (ho : o.isCells = false) (h : W.cell? a = some x) : (W.putObj l o').cell? a = some x := by
  have hne : a.block ≠ l := by
    rintro rfl
    unfold World.cell? at h
    rw [hl] at h
    cases o <;> simp_all [Obj.isCells]
  rw [World.cell?_of_block (World.putObj_heap_other hne)]
  exact h

theorem GI.put {w W : World} {sv v gv : Value} {vals : List Value} {st : List Tr} (h : GI w W sv v gv vals st) {l : Nat} {o o' : Obj} (hl : w.heap.size + 3 ≤ l) (ho : W.heap[l]? = some o) (hc : o.isCells = false) : GI w (W.putObj l o') sv v gv vals st := by
  have hsz : (W.putObj l o').heap.size = W.heap.size := by simp [World.putObj]
  refine ⟨cell_putObj ho hc h.box, ?_, cell_putObj ho hc h.sigb, cell_putObj ho hc h.bck, ownsRow_putObj h.own _ ho hc, h.tv.keep (fun b o x _ hx => cell_putObj ho hc hx) (fun b hb => ⟨hb.1, by rw [hsz]; exact hb.2.1, hb.2.2⟩), ?_, by rw [hsz]; exact h.sz⟩
  · rw [frozen_same (World.putObj_heap_other (by simp only; omega))]
    exact h.frz
  · exact ⟨h.bel.os, h.bel.tape, h.bel.output, by rw [hsz]; exact h.bel.size, fun k hk => (World.putObj_heap_other (by omega)).trans (h.bel.block k hk)⟩

/-- What changed nothing that lay changes nothing here. -/
theorem GI.later {w W W' : World} {sv v gv : Value} {vals : List Value} {st : List Tr} (h : GI w W sv v gv vals st) (hb : Below W.heap.size W W') : GI w W' sv v gv vals st := by
  have hk := Kp.of_below hb
  exact ⟨hk.cell _ _ h.box, by rw [frozen_same (hb.block _ (by have := h.sz; simp only; omega))]; exact h.frz, hk.cell _ _ h.sigb, hk.cell _ _ h.bck, ownsRow_later h.own hb,
    h.tv.keep (fun b o x _ hx => hk.cell _ _ hx) (fun b hb2 => ⟨hb2.1, Nat.lt_of_lt_of_le hb2.2.1 hb.size, hb2.2.2⟩), below_step h.bel hb, Nat.le_trans h.sz hb.size⟩

/-- A tree joined, and the box set. -/
theorem GI.push (ty : TypeId) {w W W1 : World} {sv v gv u : Value} {vals : List Value} {st : List Tr} {k : Nat} {T : Tr} {ao : Option Addr} {cap : Nat} (h : GI w W sv v gv vals st) (hgv : gv = .slice ao vals.length cap) (hk : k ≤ vals.length) (hb : Below W.heap.size W W1)
    (hT : TV W1 (fun b => w.heap.size + 3 ≤ b ∧ b < W1.heap.size ∧ gv.ownBlock ≠ some b) u T) (hl : (k + 1) * 16 ≤ 140737488355328) :
    ∃ g cp W2, (Builtin.append_ #[147, 147] ty #[.slice ao k cap, .slice (some ⟨W1.heap.size, 0, none⟩) 1 1]).run Tryz.prog (W1.alloc (.cells #[u] 104)) = .ok (.slice (some ⟨g, 0, none⟩) (k + 1) cp) W2 ∧
      W2.cell? ⟨w.heap.size + 1, 0, none⟩ = some gv ∧ W2.frozen? ⟨w.heap.size + 1, 0, none⟩ = false ∧
      GI w (W2.setCell ⟨w.heap.size + 1, 0, none⟩ (.slice (some ⟨g, 0, none⟩) (k + 1) cp)) sv v (.slice (some ⟨g, 0, none⟩) (k + 1) cp) (vals.take k ++ [u]) (st.take k ++ [T]) ∧ KeepsFrom (w.heap.size + 3) W (W2.setCell ⟨w.heap.size + 1, 0, none⟩ (.slice (some ⟨g, 0, none⟩) (k + 1) cp)) := by
  obtain ⟨i0, hi, hz0, hz1, hz2⟩ := info_parts info_tree
  have ha := below_alloc (w := W1) (.cells #[u] 104)
  have hba := below_step hb ha
  have hown := h.own
  rw [hgv] at hown
  have hcut := own_cut (ownsRow_later hown hba) hk
  have hsz := h.sz
  obtain ⟨v', W2, hr, h2, h3, _, h5⟩ := run_append_own_at (P := Tryz.prog) (W1.alloc (.cells #[u] 104)) (w.heap.size + 3) 147 ty 104 i0 _ 1 16 under_trees hi hz0 hz1 hz2 rfl (by decide) (.slice ao k cap) k (vals.take k) hcut ⟨W1.heap.size, 0, none⟩ 1 1 [u] rfl
    (fun j y hj => by
      rw [Addr.add_lit, Nat.zero_add]
      cases j with
      | zero =>
        simp at hj
        subst hj
        rw [cell_of_row _ _ _ _ _ _ (heap_alloc_new _ _)]
        rfl
      | succ j => simp at hj) (fun y hy => by simp at hy; subst hy; exact hT.ifv.one) (by unfold maxLen; omega) (by omega) (Nat.le_trans hsz hba.size)
  obtain ⟨g, cp, rfl⟩ := own_form h2 (by omega)
  have hge := own_ge h2
  -- the block of the slice, before
  have hob : (Value.slice ao k cap).ownBlock = gv.ownBlock := by rw [hgv]; cases ao <;> rfl
  rw [hob] at h3 h5
  have hgb : ∀ j, gv.ownBlock = some j → w.heap.size + 3 ≤ j := fun j hj => own_blk h.own hj
  have hold : ∀ b, b < w.heap.size + 3 → W2.heap[b]? = W.heap[b]? := fun b hb2 => by
    rw [h3.block b (Nat.lt_of_lt_of_le (Nat.lt_of_lt_of_le hb2 hsz) hba.size) (fun e => by have := hgb b e.symm; omega)]
    exact hba.block b (Nat.lt_of_lt_of_le hb2 hsz)
  have hbox : W2.cell? ⟨w.heap.size + 1, 0, none⟩ = some gv := by
    rw [World.cell?_of_block (hold _ (by simp only; omega))]
    exact h.box
  have hfrz : W2.frozen? ⟨w.heap.size + 1, 0, none⟩ = false := by
    rw [frozen_same (hold _ (by simp only; omega))]
    exact h.frz
  -- cells away from the slice's block stay
  have hfar : ∀ (b o : Nat) (x : Value), w.heap.size + 3 ≤ b → b < (W1.alloc (.cells #[u] 104)).heap.size → gv.ownBlock ≠ some b → (W1.alloc (.cells #[u] 104)).cell? ⟨b, o, none⟩ = some x → (W2.setCell ⟨w.heap.size + 1, 0, none⟩ (.slice (some ⟨g, 0, none⟩) (k + 1) cp)).cell? ⟨b, o, none⟩ = some x := fun b o x hb1 hb2 hb3 hx => by
    rw [World.cell?_setCell_far _ _ _ _ (by simp only; omega), World.cell?_of_block (h3.block b hb2 (fun e => hb3 e.symm))]
    exact hx
  have hne : ∀ b, b < (W1.alloc (.cells #[u] 104)).heap.size → gv.ownBlock ≠ some b → g ≠ b := fun b hb1 hb2 e => by
    subst e
    rcases h5 with h5 | h5
    · exact hb2 (by rw [← h5]; rfl)
    · simp only [Value.ownBlock, Option.some.injEq] at h5
      omega
  have hs2 : (W2.setCell ⟨w.heap.size + 1, 0, none⟩ (.slice (some ⟨g, 0, none⟩) (k + 1) cp)).heap.size = W2.heap.size := by simp [World.setCell]
  have hsw : W.heap.size ≤ (W1.alloc (.cells #[u] 104)).heap.size := hba.size
  have hvl : (vals.take k ++ [u]).length = k + 1 := by rw [List.length_append, List.length_take, Nat.min_eq_left hk]; rfl
  refine ⟨g, cp, W2, hr, hbox, hfrz, ⟨World.cell?_setCell_same' _ _ _ (by rw [hbox]; rfl), by rw [World.frozen?_setCell]; exact hfrz, ?_, ?_, ?_, ?_, ?_, ?_⟩, ?_⟩
  · rw [World.cell?_setCell_far _ _ _ _ (by simp only; omega), World.cell?_of_block (hold _ (by simp only; omega))]
    exact h.sigb
  · rw [World.cell?_setCell_far _ _ _ _ (by simp only; omega), World.cell?_of_block (hold _ (by simp only; omega))]
    exact h.bck
  · rw [hvl]
    exact h2.kept (set_grownT W2 (w.heap.size + 1) 0 _) (.inr (by simp only [Value.ownBlock, ne_eq, Option.some.injEq]; omega))
  · refine TVl.app ?_ ⟨?_, trivial⟩
    · refine (h.tv.take k).1.keep (fun b o x hA hx => hfar b o x hA.1 (Nat.lt_of_lt_of_le hA.2.1 hsw) hA.2.2 ((Kp.of_below hba).cell _ _ hx)) (fun b hA => ⟨hA.1, ?_, ?_⟩)
      · rw [hs2]; exact Nat.lt_of_lt_of_le (Nat.lt_of_lt_of_le hA.2.1 hsw) h3.size
      · simp only [Value.ownBlock, ne_eq, Option.some.injEq]; exact hne b (Nat.lt_of_lt_of_le hA.2.1 hsw) hA.2.2
    · refine hT.keep (fun b o x hA hx => hfar b o x hA.1 (Nat.lt_of_lt_of_le hA.2.1 ha.size) hA.2.2 ((Kp.of_below ha).cell _ _ hx)) (fun b hA => ⟨hA.1, ?_, ?_⟩)
      · rw [hs2]; exact Nat.lt_of_lt_of_le (Nat.lt_of_lt_of_le hA.2.1 ha.size) h3.size
      · simp only [Value.ownBlock, ne_eq, Option.some.injEq]; exact hne b (Nat.lt_of_lt_of_le hA.2.1 ha.size) hA.2.2
  · exact ((below_step h.bel hba).grown h3 (below_step h.bel hba).size (fun j hj => by have := hgb j hj; omega)).setCell (p := ⟨w.heap.size + 1, 0, none⟩) (by simp only; omega) _
  · rw [hs2]
    exact Nat.le_trans hsz (Nat.le_trans hsw h3.size)
  · refine ⟨by rw [hs2]; exact Nat.le_trans hsw h3.size, fun j o hj ho hoc => ?_⟩
    have hjl := (Array.getElem?_eq_some_iff.1 ho).1
    rw [heap_setCell_other _ _ _ _ (show j ≠ w.heap.size + 1 by omega), h3.block j (Nat.lt_of_lt_of_le hjl hsw) (fun e => ?_), hba.block j hjl]
    · exact ho
    · rcases h.own.2 with ⟨h8, _⟩ | ⟨g8, c8, cur8, h8, _, hg8, _⟩
      · rw [h8] at e; cases e
      · rw [h8] at e
        simp only [Value.ownBlock, Option.some.injEq] at e
        subst e
        rw [hg8] at ho
        cases ho
        simp [Obj.isCells] at hoc

end Go.Proofs.YtlaenbdlgpepkaaGreatDoor

/- A term's arguments, one behind the other. -/
namespace Go.Proofs.YtlaenbdlgpepkaaGreatDoor
open Go.RowKit Go.Maps

/-- What stands at the head of a row of terms. -/
theorem first_part {sig : List Sy} (ha : ArOk sig) : ∀ (r : List Int) (d m : Int) (j i : Nat), 1 ≤ d → d ≤ m → firstT sig m i r = ((i : Int) + r.length, 0) →
    ∃ k : Nat, 1 ≤ k ∧ k ≤ r.length ∧ firstT sig d j r = ((j : Int) + k, 0) ∧ (m = d → k = r.length) ∧ (d < m → firstT sig (m - d) (i + k) (r.drop k) = ((i : Int) + r.length, 0))
  | [], d, m, j, i, _, _, h => by simp [firstT] at h
  | c :: r, d, m, j, i, hd, hm, h => by
    rw [firstT_cons] at h ⊢
    cases hc : codeD sig c with
    | none => rw [hc] at h; simp at h
    | some e =>
      have he := codeD_ge ha hc
      rw [hc] at h
      simp only at h ⊢
      by_cases h0 : m + e = 0
      · rw [if_pos h0] at h
        have hl : r.length = 0 := by
          have := congrArg Prod.fst h
          simp at this
          omega
        refine ⟨1, Nat.le_refl _, by simp, by rw [if_pos (by omega)]; simp, fun _ => by simp [hl], fun h1 => by omega⟩
      · rw [if_neg h0] at h
        by_cases h1 : d + e = 0
        · refine ⟨1, Nat.le_refl _, by simp, by rw [if_pos h1]; simp, fun h2 => by omega, fun h2 => ?_⟩
          rw [List.drop_succ_cons, List.drop_zero, show m - d = m + e by omega]
          exact h
        · obtain ⟨k, k1, k2, k3, k4, k5⟩ := first_part ha r (d + e) (m + e) (j + 1) (i + 1) (by omega) (by omega) (by rw [h]; simp only [List.length_cons, Prod.mk.injEq, and_true]; omega)
          refine ⟨k + 1, by omega, by simp; omega, by rw [if_neg h1, k3]; simp only [Prod.mk.injEq, and_true]; omega, fun h2 => by have := k4 (by omega); simp; omega, fun h2 => ?_⟩
          have h3 := k5 (by omega)
          rw [List.drop_succ_cons, show m - d = m + e - (d + e) by omega, show i + (k + 1) = i + 1 + k by omega, h3]
          simp only [List.length_cons, Prod.mk.injEq, and_true]
          omega

/-- A row of m terms is taken apart. -/
theorem split_first {sig : List Sy} (ha : ArOk sig) : ∀ (m : Nat) (r : List Int) (i : Nat), 1 ≤ m → firstT sig m i r = ((i : Int) + r.length, 0) → ∃ us : List (List Int), us.length = m ∧ r = us.flatten ∧ ∀ u ∈ us, rowE sig u = 0
  | 0, _, _, h, _ => absurd h (by omega)
  | m + 1, r, i, _, h => by
    obtain ⟨k, k1, k2, k3, k4, k5⟩ := first_part ha r 1 ((m + 1 : Nat) : Int) 0 i (by omega) (by omega) h
    obtain ⟨k', e1, _, _, e4⟩ := first_take r 1 0 _ k3
    have hkk : k' = k := by omega
    subst hkk
    have hr : rowE sig (r.take k') = 0 := by
      rw [row_first, e4, List.length_take]
      simp only [Prod.mk.injEq, and_true]
      omega
    by_cases hm : m = 0
    · subst hm
      have := k4 (by omega)
      refine ⟨[r], rfl, by simp, fun u hu => ?_⟩
      rw [List.mem_singleton] at hu
      subst hu
      rw [List.take_of_length_le (by omega)] at hr
      exact hr
    · have h5 := k5 (by omega)
      rw [show ((m + 1 : Nat) : Int) - 1 = (m : Int) by omega] at h5
      obtain ⟨us, u1, u2, u3⟩ := split_first ha m (r.drop k') (i + k') (by omega) (by rw [h5, List.length_drop]; simp only [Prod.mk.injEq, and_true]; omega)
      refine ⟨r.take k' :: us, by simp [u1], by rw [List.flatten_cons, ← u2, List.take_append_drop], fun u hu => ?_⟩
      rcases List.mem_cons.1 hu with rfl | hu
      · exact hr
      · exact u3 u hu

/-- What grows of a row behind another one. -/
theorem grow_behind {sig : List Sy} (ha : ArOk sig) (v : List Int) : ∀ (u p : List Int), firstT sig 1 0 (p ++ u) = (((p ++ u).length : Int), 0) → growR sig (u ++ v) = growR sig v ++ growR sig u
  | [], p, _ => by simp [growR]
  | c :: u, p, h => by
    have ih := grow_behind ha v u (p ++ [c]) (by simpa using h)
    show growStep sig (growR sig (u ++ v)) c = growR sig v ++ growStep sig (growR sig u) c
    rw [ih]
    unfold growStep
    by_cases hc : c < 0
    · rw [if_pos hc, if_pos hc, List.append_assoc]
    · rw [if_neg hc, if_neg hc]
      obtain ⟨_, h2⟩ := grow_code ha p c u 1 0 (by omega) (by rw [h]; simp) hc
      rw [List.length_append, show (growR sig v).length + (growR sig u).length - arN sig c = (growR sig v).length + ((growR sig u).length - arN sig c) by omega, List.take_length_add_append, List.drop_length_add_append, List.append_assoc]

/-- The trees of terms one behind the other. -/
theorem grow_flat {sig : List Sy} (ha : ArOk sig) : ∀ us : List (List Int), (∀ u ∈ us, rowE sig u = 0) → (growR sig us.flatten).reverse.map Tr.size = us.map List.length
  | [], _ => by simp [growR]
  | u :: us, h => by
    obtain ⟨T, h1, h2⟩ := grow_one ha (h u (by simp))
    have h3 := grow_behind ha us.flatten u [] (by rw [List.nil_append]; exact row_first.1 (h u (by simp)))
    rw [List.flatten_cons, h3, h1, List.reverse_append, List.map_append, grow_flat ha us (fun x hx => h x (by simp [hx]))]
    simp [h2]

/-- Places by lengths. -/
def places : Nat → List Nat → List Int
  | _, [] => []
  | p, n :: ns => (p : Int) :: places (p + n) ns

theorem kids_places : ∀ (p : Nat) (ts : List Tr), kidsGo p ts = places p (ts.map Tr.size)
  | _, [] => rfl
  | p, t :: ts => by simp only [kidsGo, List.map_cons, places, kids_places (p + t.size) ts]

theorem places_len : ∀ (p : Nat) (ns : List Nat), (places p ns).length = ns.length
  | _, [] => rfl
  | p, n :: ns => by simp only [places, List.length_cons, places_len (p + n) ns]

theorem places_at : ∀ (us : List (List Int)) (p k : Nat), k < us.length → (places p (us.map List.length))[k]? = some ((p + (us.take k).flatten.length : Nat) : Int)
  | [], _, k, h => by simp at h
  | u :: us, p, 0, _ => by simp [places]
  | u :: us, p, k + 1, h => by
    rw [List.map_cons, places, List.getElem?_cons_succ, places_at us (p + u.length) k (by simpa using h), List.take_succ_cons, List.flatten_cons, List.length_append]
    simp only [Option.some.injEq]
    omega

/-- A symbol's arguments. -/
theorem kids_split {sig : List Sy} (ha : ArOk sig) {c : Int} {r : List Int} (h : rowE sig (c :: r) = 0) (hc : ¬ c < 0) :
    ∃ us : List (List Int), r = us.flatten ∧ (∀ u ∈ us, rowE sig u = 0) ∧ ∃ T, growR sig (c :: r) = [T] ∧ kidsR 0 T = places 1 (us.map List.length) := by
  have h1 := row_first.1 h
  rw [firstT_cons] at h1
  cases hd : codeD sig c with
  | none => rw [hd] at h1; simp at h1
  | some e =>
    rw [hd] at h1
    simp only at h1
    obtain ⟨k1, _⟩ := codeD_ar ha hd hc
    obtain ⟨us, u1, u2, u3⟩ : ∃ us : List (List Int), us.length = arN sig c ∧ r = us.flatten ∧ ∀ u ∈ us, rowE sig u = 0 := by
      by_cases h0 : 1 + e = 0
      · rw [if_pos h0] at h1
        have hl : r.length = 0 := by
          have := congrArg Prod.fst h1
          simp at this
          omega
        exact ⟨[], by simp; omega, by rw [List.eq_nil_of_length_eq_zero hl]; rfl, fun u hu => by cases hu⟩
      · rw [if_neg h0, show (1 : Int) + e = (arN sig c : Int) by omega] at h1
        exact split_first ha _ r (0 + 1) (by omega) (by rw [h1]; simp only [List.length_cons, Prod.mk.injEq, and_true]; omega)
    have hg := grow_flat ha us u3
    have hl : (growR sig r).length = arN sig c := by
      have := congrArg List.length hg
      rw [List.length_map, List.length_map, List.length_reverse, ← u2] at this
      omega
    refine ⟨us, u2, u3, .app (growR sig r).reverse, ?_, ?_⟩
    · show growStep sig (growR sig r) c = _
      unfold growStep
      rw [if_neg hc, hl, Nat.sub_self, List.take_zero, List.drop_zero, List.nil_append]
    · rw [kidsR, kids_places, u2, hg]

theorem term_parts {sig : List Sy} {t : List Int} (h : termE sig t = 0) : sigE sig = 0 ∧ rowE sig t = 0 := by
  unfold termE at h
  by_cases hs : sigE sig = 0
  · rw [if_pos hs] at h; exact ⟨hs, h⟩
  · rw [if_neg hs] at h; exact absurd h hs

/-- The term that stands at a place. -/
theorem sub_at {sig : List Sy} {t p u q : List Int} (ht : termE sig t = 0) (hu : rowE sig u = 0) (he : t = p ++ (u ++ q)) : placeE sig t p.length = 0 ∧ subL sig t p.length = u := by
  have ha := sigE_ok (term_parts ht).1
  have h1 := first_app ha u 1 0 (by omega) (by rw [row_first.1 hu]; simp) 1 0 q (by omega)
  rw [if_pos rfl] at h1
  have hul : 0 < u.length := by
    cases u with
    | nil => simp [rowE, firstT] at hu
    | cons c u => simp
  have h2 : endP sig t p.length = (((p.length + u.length : Nat) : Int), 0) := by
    unfold endP
    rw [if_neg (by rw [he, List.length_append, List.length_append]; omega), Int.toNat_natCast, he, List.drop_left, h1]
    simp only [Prod.mk.injEq, and_true]
    omega
  have h3 : placeE sig t p.length = 0 := by unfold placeE; rw [if_pos ht, h2]
  refine ⟨h3, ?_⟩
  unfold subL
  rw [if_pos h3, h2, Int.toNat_natCast, Int.toNat_natCast, show p.length + u.length - p.length = u.length by omega, he, List.drop_left, List.take_left]

/-- The arguments of a right term's root. -/
theorem root_kids {sig : List Sy} {c : Int} {r : List Int} (ht : termE sig (c :: r) = 0) (hc : ¬ c < 0) :
    placeE sig (c :: r) 0 = 0 ∧ ∃ us : List (List Int), r = us.flatten ∧ (∀ u ∈ us, rowE sig u = 0) ∧ kidsL sig (c :: r) 0 = places 1 (us.map List.length) := by
  obtain ⟨hs, hr⟩ := term_parts ht
  obtain ⟨h1, h2⟩ := sub_at (p := []) (q := []) ht hr (by simp)
  obtain ⟨us, u1, u2, T, u3, u4⟩ := kids_split (sigE_ok hs) hr hc
  refine ⟨h1, us, u1, u2, ?_⟩
  have h3 : subL sig (c :: r) 0 = c :: r := h2
  unfold kidsL
  rw [h3, u3]
  exact u4

/-- Where a substitution meets none of the variables, nothing is done. -/
theorem laid_unmet (f : Int → Option (List Int)) (t : List Int) (h : ∀ c ∈ t, c < 0 → f (-1 - c) = none) : laidL f t = t := by
  unfold laidL
  induction t with
  | nil => rfl
  | cons c t ih =>
    rw [List.flatMap_cons, ih (fun x hx => h x (by simp [hx]))]
    have : piece f c = [c] := by
      unfold piece
      by_cases hc : c < 0
      · simp [hc, h c (by simp) hc]
      · simp [hc]
    rw [this]
    rfl

end Go.Proofs.YtlaenbdlgpepkaaGreatDoor

/- Like monomials brought together, as plain data: rows of keys (bytes) with their limbs, rising. -/
namespace Go.Proofs.YtlaenbdlgpepkaaGreatDoor

/-- Which of two rows of bytes comes first (of one length). -/
def cmpK : List Nat → List Nat → Int
  | [], [] => 0
  | [], _ :: _ => -1
  | _ :: _, [] => 1
  | a :: r, b :: q => if a < b then -1 else if b < a then 1 else cmpK r q

abbrev ltK (a b : List Nat) : Prop := cmpK a b < 0

theorem cmpK_self (a : List Nat) : cmpK a a = 0 := by
  induction a with
  | nil => rfl
  | cons a r ih => simp [cmpK, ih]

theorem cmpK_zero {a b : List Nat} (h : cmpK a b = 0) : a = b := by
  induction a generalizing b with
  | nil => cases b with
    | nil => rfl
    | cons b q => simp [cmpK] at h
  | cons a r ih => cases b with
    | nil => simp [cmpK] at h
    | cons b q =>
      unfold cmpK at h
      split at h
      · omega
      · split at h
        · omega
        · rw [ih h, show a = b by omega]

theorem cmpK_swap (a b : List Nat) : cmpK b a = -cmpK a b := by
  induction a generalizing b with
  | nil => cases b <;> simp [cmpK]
  | cons a r ih => cases b with
    | nil => simp [cmpK]
    | cons b q =>
      unfold cmpK
      by_cases h1 : a < b
      · rw [if_neg (by omega), if_pos h1, if_pos h1]; rfl
      · by_cases h2 : b < a
        · rw [if_pos h2, if_neg h1, if_pos h2]
        · rw [if_neg h2, if_neg h1, if_neg h1, if_neg h2, ih]

theorem ltK_trans {a b c : List Nat} (h : ltK a b) (h' : ltK b c) : ltK a c := by
  unfold ltK at *
  induction a generalizing b c with
  | nil => cases b with
    | nil => exact h'
    | cons b q => cases c with
      | nil => simp [cmpK] at h'
      | cons c s => simp [cmpK]
  | cons a r ih => cases b with
    | nil => simp [cmpK] at h
    | cons b q => cases c with
      | nil => simp [cmpK] at h'
      | cons c s =>
        unfold cmpK at h h' ⊢
        by_cases h1 : a < b
        · by_cases h2 : b < c
          · rw [if_pos (by omega)]; omega
          · rw [if_neg h2] at h'
            by_cases h3 : c < b
            · rw [if_pos h3] at h'; omega
            · rw [if_pos (by omega)]; omega
        · rw [if_neg h1] at h
          by_cases h4 : b < a
          · rw [if_pos h4] at h; omega
          · rw [if_neg h4] at h
            obtain rfl : a = b := by omega
            by_cases h2 : a < c
            · rw [if_pos h2]; omega
            · rw [if_neg h2] at h' ⊢
              by_cases h3 : c < a
              · rw [if_pos h3] at h'; omega
              · rw [if_neg h3] at h' ⊢
                exact ih h h'

theorem ltK_irrefl (a : List Nat) : ¬ ltK a a := by unfold ltK; rw [cmpK_self]; omega

theorem ltK_or {a b : List Nat} (h : ¬ a = b) (h' : ¬ ltK a b) : ltK b a := by
  unfold ltK at *
  have h1 := cmpK_swap a b
  have h2 : ¬ cmpK a b = 0 := fun e => h (cmpK_zero e)
  omega

abbrev LkY := List (List Nat × List Nat)

def Rising (L : LkY) : Prop := L.Pairwise (fun p q => ltK p.1 q.1)

/-- The limbs at a key; none: there is no such one. -/
def coefK (L : LkY) (k : List Nat) : List Nat := ((L.find? (fun p => p.1 == k)).map (·.2)).getD []

def hasK (L : LkY) (k : List Nat) : Bool := L.any (fun p => p.1 == k)

/-- Limbs laid at a key. -/
def insK : LkY → List Nat → List Nat → LkY
  | [], k, c => [(k, c)]
  | p :: r, k, c => if k = p.1 then (k, c) :: r else if ltK k p.1 then (k, c) :: p :: r else p :: insK r k c

theorem mem_insK {L : LkY} {k c : List Nat} (hL : Rising L) (q : List Nat × List Nat) : q ∈ insK L k c ↔ q = (k, c) ∨ (q ∈ L ∧ ¬ q.1 = k) := by
  induction L with
  | nil => simp [insK]
  | cons p r ih =>
    unfold Rising at hL
    rw [List.pairwise_cons] at hL
    have ih := ih hL.2
    unfold insK
    by_cases h1 : k = p.1
    · rw [if_pos h1]
      simp only [List.mem_cons]
      constructor
      · rintro (h | h)
        · exact .inl h
        · refine .inr ⟨.inr h, fun e => ?_⟩
          have := hL.1 q h
          rw [e, h1] at this
          exact ltK_irrefl _ this
      · rintro (h | ⟨h | h, h2⟩)
        · exact .inl h
        · exact absurd (by rw [h, h1]) h2
        · exact .inr h
    · rw [if_neg h1]
      by_cases h2 : ltK k p.1
      · rw [if_pos h2]
        simp only [List.mem_cons]
        constructor
        · rintro (h | h | h)
          · exact .inl h
          · exact .inr ⟨.inl h, by rw [h]; exact fun e => h1 e.symm⟩
          · refine .inr ⟨.inr h, fun e => ?_⟩
            have := hL.1 q h
            rw [e] at this
            exact ltK_irrefl _ (ltK_trans h2 this)
        · rintro (h | ⟨h | h, _⟩)
          · exact .inl h
          · exact .inr (.inl h)
          · exact .inr (.inr h)
      · rw [if_neg h2]
        simp only [List.mem_cons, ih]
        constructor
        · rintro (h | h | ⟨h, h3⟩)
          · exact .inr ⟨.inl h, by rw [h]; exact fun e => h1 e.symm⟩
          · exact .inl h
          · exact .inr ⟨.inr h, h3⟩
        · rintro (h | ⟨h | h, h3⟩)
          · exact .inr (.inl h)
          · exact .inl h
          · exact .inr (.inr ⟨h, h3⟩)

theorem rising_insK {L : LkY} {k c : List Nat} (hL : Rising L) : Rising (insK L k c) := by
  induction L with
  | nil => simp [insK, Rising]
  | cons p r ih =>
    have hL' := hL
    unfold Rising at hL
    rw [List.pairwise_cons] at hL
    unfold insK
    by_cases h1 : k = p.1
    · rw [if_pos h1]
      unfold Rising
      rw [List.pairwise_cons]
      exact ⟨fun q hq => by show ltK k q.1; rw [h1]; exact hL.1 q hq, hL.2⟩
    · rw [if_neg h1]
      by_cases h2 : ltK k p.1
      · rw [if_pos h2]
        unfold Rising
        rw [List.pairwise_cons]
        refine ⟨fun q hq => ?_, hL'⟩
        show ltK k q.1
        rcases List.mem_cons.1 hq with rfl | hq
        · exact h2
        · exact ltK_trans h2 (hL.1 q hq)
      · rw [if_neg h2]
        unfold Rising
        rw [List.pairwise_cons]
        refine ⟨fun q hq => ?_, ih hL.2⟩
        rcases (mem_insK hL.2 q).1 hq with rfl | ⟨hq, _⟩
        · exact ltK_or h1 h2
        · exact hL.1 q hq

theorem hasK_iff {L : LkY} {k : List Nat} : hasK L k = true ↔ ∃ c, (k, c) ∈ L := by
  unfold hasK
  rw [List.any_eq_true]
  constructor
  · rintro ⟨⟨k', c⟩, h, e⟩
    have : k' = k := by simpa using e
    subst this
    exact ⟨c, h⟩
  · rintro ⟨c, h⟩
    exact ⟨(k, c), h, by simp⟩

theorem length_insK {L : LkY} {k c : List Nat} (hL : Rising L) : (insK L k c).length = if hasK L k then L.length else L.length + 1 := by
  induction L with
  | nil => simp [insK, hasK]
  | cons p r ih =>
    unfold Rising at hL
    rw [List.pairwise_cons] at hL
    have ih := ih hL.2
    unfold insK
    by_cases h1 : k = p.1
    · rw [if_pos h1]
      have : hasK (p :: r) k = true := by simp [hasK, h1]
      rw [this]; simp
    · rw [if_neg h1]
      have hb : (p.1 == k) = false := by rw [beq_eq_false_iff_ne]; exact fun e => h1 e.symm
      have hc : hasK (p :: r) k = hasK r k := by simp [hasK, hb]
      by_cases h2 : ltK k p.1
      · rw [if_pos h2]
        have : hasK (p :: r) k = false := by
          rw [Bool.eq_false_iff]
          intro h
          rw [hc, hasK_iff] at h
          obtain ⟨c', h⟩ := h
          exact ltK_irrefl _ (ltK_trans h2 (hL.1 _ h))
        rw [this]; simp
      · rw [if_neg h2, hc, List.length_cons, ih]
        split <;> simp

theorem coefK_mem {L : LkY} {k c : List Nat} (hL : Rising L) (h : (k, c) ∈ L) : coefK L k = c := by
  induction L with
  | nil => cases h
  | cons p r ih =>
    unfold Rising at hL
    rw [List.pairwise_cons] at hL
    rcases List.mem_cons.1 h with rfl | h
    · simp [coefK]
    · have hb : (p.1 == k) = false := by
        rw [beq_eq_false_iff_ne]
        intro e
        have := hL.1 _ h
        rw [e] at this
        exact ltK_irrefl _ this
      have := ih hL.2 h
      unfold coefK at this ⊢
      rw [List.find?_cons, hb]
      exact this

theorem coefK_none {L : LkY} {k : List Nat} (h : hasK L k = false) : coefK L k = [] := by
  unfold coefK
  rw [List.find?_eq_none.2]
  · rfl
  · intro p hp e
    have : hasK L k = true := List.any_eq_true.2 ⟨p, hp, e⟩
    rw [h] at this
    cases this

/-- What put answers, and what it leaves. -/
def putE (L : LkY) (k c : List Nat) : Int := if addE (coefK L k) c = 0 then (if (insK L k (addL (coefK L k) c)).length ≤ 256 then 0 else 2) else addE (coefK L k) c

def putL (L : LkY) (k c : List Nat) : LkY := if addE (coefK L k) c = 0 then insK L k (addL (coefK L k) c) else L

end Go.Proofs.YtlaenbdlgpepkaaGreatDoor
