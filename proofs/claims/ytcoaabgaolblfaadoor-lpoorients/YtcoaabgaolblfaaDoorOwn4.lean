/- Texts of the proof, one behind the other. -/
import Derived.Test.YtcoaabgaolblfaaDoorOwn3
import Derived.Test.YtcoaabgaolblfaaDoorOwn2
/- The calls of the examples. -/
namespace Go.Proofs.YtcoaabgaolblfaaDoor
open Go.RowKit Go.Maps Go.BigFrame

theorem b0 {w : World} : Below w.heap.size w w := Below.refl _ _
theorem b1 {w w' : World} {o : Obj} (h : Below w.heap.size w w') : Below w.heap.size w (w'.alloc o) := below_step h (below_alloc o)

def EIs (w : World) (g : Nat) : Nat → List Int → Prop
  | _, [] => True
  | o, x :: r => EI w g o x ∧ EIs w g (o + 1) r

theorem EIs.get {w : World} {g : Nat} : ∀ {p : List Int} {o k : Nat} {m : Int}, EIs w g o p → p[k]? = some m → EI w g (o + k * 1) m
  | [], _, _, _, _, h => by simp at h
  | x :: r, o, 0, m, h, hk => by
    simp at hk
    subst hk
    exact h.1
  | x :: r, o, k + 1, m, h, hk => by
    have := EIs.get h.2 (k := k) (by simpa using hk)
    rw [show o + (k + 1) * 1 = o + 1 + k * 1 by omega]
    exact this

theorem is_lit {w : World} {g : Nat} {p : List Int} (hg : g < w.heap.size) (hl : p.length ≤ 9) (h : EIs w g 0 p) : Is w (.slice (some ⟨g, 0, none⟩) p.length p.length) p := by
  refine ⟨_, p.length, rfl, Nat.le_refl _, by unfold maxLen; omega, fun _ => ⟨g, 0, rfl, hg, fun k m hk => ?_⟩⟩
  have := h.get hk
  rwa [Nat.zero_add] at this ⊢

theorem cell_newg {w : World} {t : TypeId} {vs : Array Value} {g k : Nat} {v : Value} (hg : g = w.heap.size) (hv : vs[k]? = some v) : (w.alloc (.cells vs t)).cell? ⟨g, k, none⟩ = some v := by
  subst hg
  exact cell_new hv

theorem ei {w : World} {g o : Nat} {x : Int} (h1 : -9223372036854775808 ≤ x) (h2 : x ≤ 9223372036854775807) (h : w.cell? ⟨g, o, none⟩ = some (.int .i64 x)) : EI w g o x := ⟨h1, h2, h⟩

end Go.Proofs.YtcoaabgaolblfaaDoor

/- What the document's Check of binds, bound, Laid and Apply answer. -/
namespace Go.Proofs.YtcoaabgaolblfaaDoor
open Go.RowKit Go.Maps Go.BigFrame

end Go.Proofs.YtcoaabgaolblfaaDoor

/- What the document's Laid and Apply answer. -/
namespace Go.Proofs.YtcoaabgaolblfaaDoor
open Go.RowKit Go.Maps Go.BigFrame

theorem look_rise : ∀ {s : List Bd}, s.Pairwise (fun a b => a.1 < b.1) → ∀ n, s.lookup n = s.reverse.lookup n
  | [], _, _ => rfl
  | (x, t) :: s, h, n => by
    obtain ⟨h1, h2⟩ := List.pairwise_cons.1 h
    rw [List.reverse_cons, List.lookup_cons]
    have ih := look_rise h2 n
    have happ : ∀ (l : List Bd), (l ++ [(x, t)]).lookup n = (match l.lookup n with | some y => some y | none => if n == x then some t else none) := by
      intro l
      induction l with
      | nil =>
        rw [List.nil_append, List.lookup_cons]
        cases n == x <;> rfl
      | cons a l il =>
        obtain ⟨k, v⟩ := a
        rw [List.cons_append, List.lookup_cons, List.lookup_cons]
        cases n == k with
        | true => rfl
        | false => exact il
    rw [happ, ← ih]
    cases hk : n == x with
    | true =>
      rw [beq_iff_eq] at hk
      subst hk
      cases hl : s.lookup n with
      | none => rfl
      | some y =>
        have hm := lookup_mem hl
        have := h1 _ hm
        simp at this
    | false =>
      show s.lookup n = _
      cases s.lookup n <;> rfl

theorem layGo_congr {f g : Int → Option (List Int)} (h : ∀ n, f n = g n) : layGo f = layGo g := by
  have : f = g := funext h
  rw [this]

end Go.Proofs.YtcoaabgaolblfaaDoor

/- What binds make of a right term is right; two rows of binds in one. -/
namespace Go.Proofs.YtcoaabgaolblfaaDoor
open Go.RowKit Go.Maps

theorem codeD_ge {sig : List Sy} (ha : ArOk sig) {c e : Int} (h : codeD sig c = some e) : -1 ≤ e := by
  unfold codeD at h
  split at h
  · cases h
  · split at h
    · cases h; omega
    · cases hs : sig[c.toNat]? with
      | none => rw [hs] at h; cases h
      | some s =>
        rw [hs] at h
        have := ha s (List.mem_of_getElem? hs)
        simp only [Option.some.injEq] at h
        omega

theorem firstT_cons (sig : List Sy) (m : Int) (i : Nat) (c : Int) (t : List Int) : firstT sig m i (c :: t) = (match codeD sig c with | none => (0, 30) | some e => if m + e = 0 then ((i : Int) + 1, 0) else firstT sig (m + e) (i + 1) t) := rfl

theorem firstT_le (sig : List Sy) : ∀ (t : List Int) (m : Int) (i : Nat), (firstT sig m i t).2 = 0 → (firstT sig m i t).1 ≤ (i : Int) + t.length
  | [], m, i, h => by simp [firstT] at h
  | c :: t, m, i, h => by
    rw [firstT_cons] at h ⊢
    cases hc : codeD sig c with
    | none => rw [hc] at h; simp at h
    | some e =>
      rw [hc] at h
      simp only at h ⊢
      split
      · simp only [List.length_cons]; omega
      · rename_i hm
        rw [if_neg hm] at h
        have := firstT_le sig t (m + e) (i + 1) h
        simp only [List.length_cons]
        omega

theorem row_first {sig : List Sy} {t : List Int} : rowE sig t = 0 ↔ firstT sig 1 0 t = ((t.length : Int), 0) := by
  unfold rowE
  constructor
  · intro h
    split at h
    · cases h
    · rename_i hn
      have h1 := firstT_le sig t 1 0 h
      have h2 : ¬ (firstT sig 1 0 t).1 < (t.length : Int) := fun h3 => hn ⟨h, h3⟩
      refine Prod.ext ?_ h
      show (firstT sig 1 0 t).1 = _
      omega
  · intro h
    rw [h]
    simp

/-- A row that closes d terms, ahead of another one. -/
theorem first_app {sig : List Sy} (ha : ArOk sig) : ∀ (x : List Int) (d : Int) (j : Nat), 1 ≤ d → firstT sig d j x = ((j : Int) + x.length, 0) → ∀ (m : Int) (i : Nat) (r : List Int), d ≤ m → firstT sig m i (x ++ r) = if m = d then ((i : Int) + x.length, 0) else firstT sig (m - d) (i + x.length) r
  | [], d, j, hd, h, m, i, r, hm => by simp [firstT] at h
  | c :: x, d, j, hd, h, m, i, r, hm => by
    rw [List.cons_append]
    rw [firstT_cons] at h ⊢
    cases hc : codeD sig c with
    | none => rw [hc] at h; simp at h
    | some e =>
      rw [hc] at h
      simp only at h ⊢
      have he := codeD_ge ha hc
      by_cases h0 : d + e = 0
      · rw [if_pos h0] at h
        have hx : x = [] := by
          have := congrArg Prod.fst h
          simp only [List.length_cons] at this
          exact List.eq_nil_of_length_eq_zero (by omega)
        subst hx
        by_cases hmd : m = d
        · rw [if_pos (by omega), if_pos hmd]; simp
        · rw [if_neg (by omega), if_neg hmd, show m + e = m - d by omega]; simp
      · rw [if_neg h0] at h
        rw [if_neg (by omega), first_app ha x (d + e) (j + 1) (by omega) (by rw [h]; simp only [List.length_cons, Prod.mk.injEq, and_true]; omega) (m + e) (i + 1) r (by omega)]
        by_cases hmd : m = d
        · rw [if_pos hmd, if_pos (by omega)]
          simp only [List.length_cons, Prod.mk.injEq, and_true]
          omega
        · rw [if_neg hmd, if_neg (by omega), show m + e - (d + e) = m - d by omega, List.length_cons, show i + 1 + x.length = i + (x.length + 1) by omega]

/-- Right pieces make a right row of a right row. -/
theorem first_laid {sig : List Sy} (ha : ArOk sig) {f : Int → Option (List Int)} (hf : ∀ n u, f n = some u → rowE sig u = 0) : ∀ (t : List Int) (d : Int) (j i : Nat), 1 ≤ d → firstT sig d j t = ((j : Int) + t.length, 0) → firstT sig d i (laidL f t) = ((i : Int) + (laidL f t).length, 0)
  | [], d, j, i, hd, h => by simp [firstT] at h
  | c :: t, d, j, i, hd, h => by
    have hl : laidL f (c :: t) = piece f c ++ laidL f t := by unfold laidL; rw [List.flatMap_cons]
    rw [hl]
    rw [firstT_cons] at h
    cases hc : codeD sig c with
    | none => rw [hc] at h; simp at h
    | some e =>
      rw [hc] at h
      simp only at h
      have he := codeD_ge ha hc
      -- what is left behind the code
      have hrest : d + e = 0 → t = [] := fun h0 => by
        rw [if_pos h0] at h
        have := congrArg Prod.fst h
        simp only [List.length_cons] at this
        exact List.eq_nil_of_length_eq_zero (by omega)
      have hnext : ¬ d + e = 0 → ∀ i, firstT sig (d + e) i (laidL f t) = ((i : Int) + (laidL f t).length, 0) := fun h0 i => by
        rw [if_neg h0] at h
        exact first_laid ha hf t (d + e) (j + 1) i (by omega) (by rw [h]; simp only [List.length_cons, Prod.mk.injEq, and_true]; omega)
      have hself : firstT sig d i ([c] ++ laidL f t) = ((i : Int) + ([c] ++ laidL f t).length, 0) := by
        rw [List.singleton_append, firstT_cons, hc]
        simp only
        by_cases h0 : d + e = 0
        · rw [if_pos h0, hrest h0]
          simp [laidL]
        · rw [if_neg h0, hnext h0]
          simp only [List.length_cons, Prod.mk.injEq, and_true]
          omega
      by_cases hv : c < 0
      · cases hb : f (-1 - c) with
        | none =>
          have : piece f c = [c] := by unfold piece; rw [if_pos hv, hb]; rfl
          rw [this]
          exact hself
        | some x =>
          have hp : piece f c = x := by unfold piece; rw [if_pos hv, hb]; rfl
          have hx := row_first.1 (hf _ _ hb)
          have he1 : e = -1 := by
            have hc2 := hc
            unfold codeD at hc2
            by_cases h9 : c < -1048576
            · rw [if_pos h9] at hc2; cases hc2
            · rw [if_neg h9, if_pos hv] at hc2; cases hc2; rfl
          rw [hp, first_app ha x 1 0 (by omega) (by rw [hx]; simp) d i (laidL f t) hd]
          by_cases h0 : d + e = 0
          · rw [if_pos (by omega), hrest h0]
            simp [laidL]
          · rw [if_neg (by omega), show d - 1 = d + e by omega, hnext h0, List.length_append]
            simp only [Prod.mk.injEq, and_true]
            omega
      · have : piece f c = [c] := by unfold piece; rw [if_neg hv]
        rw [this]
        exact hself

theorem row_laid {sig : List Sy} (ha : ArOk sig) {f : Int → Option (List Int)} (hf : ∀ n u, f n = some u → rowE sig u = 0) {t : List Int} (h : rowE sig t = 0) : rowE sig (laidL f t) = 0 := by
  have h1 := first_laid ha hf t 1 0 0 (by omega) (by rw [row_first.1 h]; simp)
  exact row_first.2 (by rw [h1]; simp)

theorem bind_all (sig : List Sy) : ∀ (s : List Bd) (p : Option Int), bindGo sig p s = 0 → ∀ b ∈ s, isVarB b.1 = true ∧ termE sig b.2 = 0
  | [], _, _, b, hb => by cases hb
  | a :: r, p, h, b, hb => by
    unfold bindGo at h
    split at h
    · rename_i hv
      split at h
      · cases h
      · split at h
        · rename_i ht
          cases hb with
          | head => exact ⟨hv, ht⟩
          | tail _ hb => exact bind_all sig r (some a.1) h b hb
        · rename_i ht
          exact absurd h ht
    · cases h

theorem bind_made (sig : List Sy) : ∀ (s : List Bd) (p : Option Int), (∀ b ∈ s, isVarB b.1 = true ∧ termE sig b.2 = 0) → (∀ y, p = some y → ∀ b ∈ s, y < b.1) → s.Pairwise (fun a b => a.1 < b.1) → bindGo sig p s = 0
  | [], _, _, _, _ => rfl
  | a :: r, p, h, hp, hr => by
    obtain ⟨h1, h2⟩ := List.pairwise_cons.1 hr
    unfold bindGo
    rw [if_pos (h a (.head _)).1, if_neg (by
      cases p with
      | none => simp
      | some y =>
        have := hp y rfl a (.head _)
        simp
        omega), if_pos (h a (.head _)).2]
    exact bind_made sig r (some a.1) (fun b hb => h b (.tail _ hb)) (fun y hy b hb => by cases hy; exact h1 b hb) h2

theorem bind_parts {sig : List Sy} {s : List Bd} (h : bindE sig s = 0) : sigE sig = 0 ∧ bindGo sig none s = 0 := by
  unfold bindE at h
  split at h
  · rename_i h0; exact ⟨h0, h⟩
  · rename_i h0; exact absurd h h0

theorem rise_len : ∀ (s : List Bd) (lo : Int), s.Pairwise (fun a b => a.1 < b.1) → (∀ b ∈ s, lo ≤ b.1 ∧ b.1 < 1048576) → lo ≤ 1048576 → (s.length : Int) ≤ 1048576 - lo
  | [], lo, _, _, h => by simp; omega
  | a :: r, lo, hr, hb, h => by
    obtain ⟨h1, h2⟩ := List.pairwise_cons.1 hr
    have ha := hb a (.head _)
    have := rise_len r (a.1 + 1) h2 (fun b hm => ⟨by have := h1 b hm; omega, (hb b (.tail _ hm)).2⟩) (by omega)
    simp only [List.length_cons]
    omega

theorem binds_few {sig : List Sy} {s : List Bd} (h : bindE sig s = 0) : s.length ≤ 1048576 := by
  obtain ⟨_, h1⟩ := bind_parts h
  have h2 := rise_len s 0 (bind_rise sig s none h1).2 (fun b hb => isVarB_iff.1 (bind_all sig s none h1 b hb).1) (by omega)
  omega

/-- The binds ahead of a number; those behind it. -/
def pre (x : Int) (r : List Bd) : List Bd := r.takeWhile fun c => decide (c.1 < x)
def skipE (x : Int) : List Bd → List Bd
  | [] => []
  | c :: r => if c.1 = x then r else c :: r
def post (x : Int) (r : List Bd) : List Bd := skipE x (r.dropWhile fun c => decide (c.1 < x))

/-- Two rows of binds in one: g is done to the first one's terms. -/
def merge (g : List Int → List Int) : List Bd → List Bd → List Bd
  | [], r => r
  | b :: s, r => pre b.1 r ++ (b.1, g b.2) :: merge g s (post b.1 r)

theorem merge_cons (g : List Int → List Int) (b : Bd) (s r : List Bd) : merge g (b :: s) r = pre b.1 r ++ (b.1, g b.2) :: merge g s (post b.1 r) := rfl

theorem merge_less (g : List Int → List Int) (b c : Bd) (s r : List Bd) (h : c.1 < b.1) : merge g (b :: s) (c :: r) = c :: merge g (b :: s) r := by
  rw [merge_cons, merge_cons]
  unfold pre post
  rw [List.takeWhile_cons, List.dropWhile_cons, decide_eq_true h]
  simp

theorem merge_same (g : List Int → List Int) (b c : Bd) (s r : List Bd) (h : c.1 = b.1) : merge g (b :: s) (c :: r) = (b.1, g b.2) :: merge g s r := by
  rw [merge_cons]
  unfold pre post
  rw [List.takeWhile_cons, List.dropWhile_cons, decide_eq_false (by omega)]
  simp [skipE, h]

theorem merge_more (g : List Int → List Int) (b : Bd) (s r : List Bd) (h : ∀ c, r[0]? = some c → b.1 < c.1) : merge g (b :: s) r = (b.1, g b.2) :: merge g s r := by
  cases r with
  | nil => rfl
  | cons c r =>
    have hc := h c rfl
    rw [merge_cons]
    unfold pre post
    rw [List.takeWhile_cons, List.dropWhile_cons, decide_eq_false (by omega)]
    have : ¬ c.1 = b.1 := by omega
    simp [skipE, this]

theorem look_app (n : Int) : ∀ (l m : List Bd), (l ++ m).lookup n = (l.lookup n).or (m.lookup n)
  | [], m => by simp
  | (k, v) :: l, m => by
    rw [List.cons_append, List.lookup_cons, List.lookup_cons]
    cases n == k with
    | true => rfl
    | false => exact look_app n l m

theorem look_none_lt {x n : Int} {l : List Bd} (h : ∀ b ∈ l, x < b.1) (hn : n ≤ x) : l.lookup n = none := by
  cases hl : l.lookup n with
  | none => rfl
  | some u =>
    have := h _ (lookup_mem hl)
    simp only at this
    omega

theorem pre_lt {x : Int} : ∀ {r : List Bd} {b : Bd}, b ∈ pre x r → b.1 < x
  | [], b, h => by simp [pre] at h
  | c :: r, b, h => by
    unfold pre at h
    rw [List.takeWhile_cons] at h
    split at h
    · rename_i hc
      cases h with
      | head => exact of_decide_eq_true hc
      | tail _ h => exact pre_lt (r := r) h
    · cases h

theorem pre_sub {x : Int} {r : List Bd} {b : Bd} (h : b ∈ pre x r) : b ∈ r := List.takeWhile_sublist _ |>.subset h

theorem drop_ge {x : Int} : ∀ {r : List Bd}, r.Pairwise (fun a b => a.1 < b.1) → ∀ b ∈ r.dropWhile (fun c => decide (c.1 < x)), x ≤ b.1
  | [], _, b, h => by cases h
  | c :: r, hr, b, h => by
    obtain ⟨h1, h2⟩ := List.pairwise_cons.1 hr
    rw [List.dropWhile_cons] at h
    split at h
    · exact drop_ge h2 b h
    · rename_i hc
      have hc' : x ≤ c.1 := by simpa using hc
      cases h with
      | head => exact hc'
      | tail _ h => have := h1 b h; omega

theorem skip_sub {x : Int} {r : List Bd} {b : Bd} (h : b ∈ skipE x r) : b ∈ r := by
  cases r with
  | nil => cases h
  | cons c r =>
    by_cases hc : c.1 = x
    · simp only [skipE, if_pos hc] at h
      exact .tail _ h
    · simp only [skipE, if_neg hc] at h
      exact h

theorem post_facts {x : Int} {r : List Bd} (hr : r.Pairwise (fun a b => a.1 < b.1)) : (∀ b ∈ post x r, b ∈ r ∧ x < b.1) ∧ (post x r).Pairwise (fun a b => a.1 < b.1) ∧ ∀ n, n ≠ x → r.lookup n = ((pre x r).lookup n).or ((post x r).lookup n) := by
  have hd := drop_ge (x := x) hr
  have hdp : (r.dropWhile fun c => decide (c.1 < x)).Pairwise (fun a b => a.1 < b.1) := hr.sublist (List.dropWhile_sublist _)
  have hsub : ∀ b ∈ r.dropWhile (fun c => decide (c.1 < x)), b ∈ r := fun b hb => (List.dropWhile_sublist _).subset hb
  have hsplit : ∀ n, r.lookup n = ((pre x r).lookup n).or ((r.dropWhile fun c => decide (c.1 < x)).lookup n) := fun n => by
    rw [← look_app]
    unfold pre
    rw [List.takeWhile_append_dropWhile]
  unfold post
  generalize (r.dropWhile fun c => decide (c.1 < x)) = q at hd hdp hsub hsplit
  cases q with
  | nil => exact ⟨fun b hb => (by cases hb), List.Pairwise.nil, fun n _ => hsplit n⟩
  | cons c q =>
    obtain ⟨h1, h2⟩ := List.pairwise_cons.1 hdp
    by_cases hc : c.1 = x
    · simp only [skipE, if_pos hc]
      refine ⟨fun b hb => ⟨hsub b (.tail _ hb), by have := h1 b hb; omega⟩, h2, fun n hn => ?_⟩
      rw [hsplit n]
      congr 1
      obtain ⟨k, v⟩ := c
      rw [List.lookup_cons, show (n == k) = false by rw [beq_eq_false_iff_ne]; simp only at hc; omega]
    · simp only [skipE, if_neg hc]
      refine ⟨fun b hb => ⟨hsub b hb, ?_⟩, hdp, fun n _ => hsplit n⟩
      cases hb with
      | head => have := hd c (.head _); omega
      | tail _ hb => have := h1 b hb; have := hd c (.head _); omega

theorem merge_facts (g : List Int → List Int) : ∀ (s r : List Bd), s.Pairwise (fun a b => a.1 < b.1) → r.Pairwise (fun a b => a.1 < b.1) →
    (∀ b ∈ merge g s r, b ∈ r ∨ ∃ a ∈ s, b = (a.1, g a.2)) ∧ (merge g s r).Pairwise (fun a b => a.1 < b.1) ∧ ∀ n, (merge g s r).lookup n = match s.lookup n with | some u => some (g u) | none => r.lookup n
  | [], r, _, hr => ⟨fun b hb => .inl hb, hr, fun n => rfl⟩
  | a :: s, r, hs, hr => by
    obtain ⟨h1, h2⟩ := List.pairwise_cons.1 hs
    obtain ⟨p1, p2, p3⟩ := post_facts (x := a.1) hr
    obtain ⟨m1, m2, m3⟩ := merge_facts g s (post a.1 r) h2 p2
    have hgt : ∀ b ∈ merge g s (post a.1 r), a.1 < b.1 := fun b hb => by
      rcases m1 b hb with h | ⟨c, hc, rfl⟩
      · exact (p1 b h).2
      · exact h1 c hc
    refine ⟨fun b hb => ?_, ?_, fun n => ?_⟩
    · rw [merge_cons] at hb
      rcases List.mem_append.1 hb with hb | hb
      · exact .inl (pre_sub hb)
      · cases hb with
        | head => exact .inr ⟨a, .head _, rfl⟩
        | tail _ hb =>
          rcases m1 b hb with h | ⟨c, hc, e⟩
          · exact .inl (p1 b h).1
          · exact .inr ⟨c, .tail _ hc, e⟩
    · rw [merge_cons, List.pairwise_append]
      refine ⟨hr.sublist (List.takeWhile_sublist _), List.Pairwise.cons hgt m2, fun b hb c hc => ?_⟩
      have h3 := pre_lt hb
      cases hc with
      | head => exact h3
      | tail _ hc => have := hgt c hc; omega
    · rw [merge_cons]
      obtain ⟨x, u⟩ := a
      simp only at h1 p1 p3 m3 hgt ⊢
      rw [look_app, List.lookup_cons, List.lookup_cons]
      by_cases hn : n = x
      · subst hn
        rw [show (n == n) = true by simp]
        have : (pre n r).lookup n = none := by
          cases hl : (pre n r).lookup n with
          | none => rfl
          | some y =>
            have := pre_lt (lookup_mem hl)
            simp at this
        rw [this]
        rfl
      · rw [show (n == x) = false by rw [beq_eq_false_iff_ne]; exact hn]
        simp only
        rw [m3 n, p3 n hn]
        cases hl : (pre x r).lookup n with
        | none =>
          cases s.lookup n <;> rfl
        | some y =>
          have hlt := pre_lt (lookup_mem hl)
          simp only at hlt
          have : s.lookup n = none := look_none_lt h1 (by omega)
          rw [this]

theorem laid_none (t : List Int) : laidL (bnd []) t = t := by
  induction t with
  | nil => rfl
  | cons c t ih =>
    have : laidL (bnd []) (c :: t) = piece (bnd []) c ++ laidL (bnd []) t := by unfold laidL; rw [List.flatMap_cons]
    rw [this, ih]
    unfold piece bnd
    split <;> rfl

theorem apply_ok {sig : List Sy} {s : List Bd} {t : List Int} (h : applyE sig s t = 0) : bindE sig s = 0 ∧ termE sig t = 0 ∧ (laidL (bnd s) t).length ≤ 512 ∧ applyL sig s t = laidL (bnd s) t := by
  unfold applyE at h
  split at h
  · rename_i hb
    split at h
    · rename_i ht
      obtain ⟨e1, e2⟩ := lay_eq (bnd s) t
      rw [e1] at h
      have hl : ¬ 512 < (laidL (bnd s) t).length := fun h9 => by rw [if_pos h9] at h; cases h
      refine ⟨hb, ht, by omega, ?_⟩
      unfold applyL
      rw [if_pos hb, if_pos ht, e2, if_neg hl]
    · rename_i ht; exact absurd h ht
  · rename_i hb; exact absurd h hb

theorem apply_of {sig : List Sy} {s : List Bd} {t : List Int} (hb : bindE sig s = 0) (ht : termE sig t = 0) : applyE sig s t = (if 512 < (laidL (bnd s) t).length then 2 else 0) ∧ applyL sig s t = if 512 < (laidL (bnd s) t).length then [] else laidL (bnd s) t := by
  unfold applyE applyL
  rw [if_pos hb, if_pos ht, if_pos hb, if_pos ht]
  exact lay_eq (bnd s) t

theorem bnd_right {sig : List Sy} {s : List Bd} (h : bindE sig s = 0) : ∀ n u, bnd s n = some u → rowE sig u = 0 := fun n u hn => by
  obtain ⟨h0, h1⟩ := bind_parts h
  have := (bind_all sig s none h1 _ (List.mem_reverse.1 (lookup_mem hn))).2
  unfold termE at this
  rw [if_pos h0] at this
  exact this

theorem term_laid {sig : List Sy} {s : List Bd} {t : List Int} (hb : bindE sig s = 0) (ht : termE sig t = 0) : termE sig (laidL (bnd s) t) = 0 := by
  obtain ⟨h0, _⟩ := bind_parts hb
  unfold termE at ht ⊢
  rw [if_pos h0] at ht ⊢
  exact row_laid (sigE_ok h0) (bnd_right hb) ht

/-- One after the other is both at once. -/
theorem after_both {sig : List Sy} {s r : List Bd} {t : List Int} (h : applyE sig s t = 0) (hr : ∀ b ∈ s, applyE sig r b.2 = 0) :
    applyE sig r (applyL sig s t) = applyE sig (merge (fun u => applyL sig r u) s r) t ∧ applyL sig r (applyL sig s t) = applyL sig (merge (fun u => applyL sig r u) s r) t := by
  obtain ⟨hb, ht, hl, e⟩ := apply_ok h
  rw [e]
  cases s with
  | nil =>
    rw [laid_none]
    exact ⟨rfl, rfl⟩
  | cons a s =>
    obtain ⟨hbr, _, _, _⟩ := apply_ok (hr a (.head _))
    obtain ⟨h0, h1⟩ := bind_parts hb
    obtain ⟨_, h2⟩ := bind_parts hbr
    have hs := (bind_rise sig _ none h1).2
    have hrr := (bind_rise sig _ none h2).2
    obtain ⟨m1, m2, m3⟩ := merge_facts (fun u => applyL sig r u) (a :: s) r hs hrr
    have hbm : bindE sig (merge (fun u => applyL sig r u) (a :: s) r) = 0 := by
      unfold bindE
      rw [if_pos h0]
      refine bind_made sig _ none (fun b hbm => ?_) (fun y hy => by cases hy) m2
      rcases m1 b hbm with hm | ⟨c, hc, rfl⟩
      · exact bind_all sig r none h2 b hm
      · obtain ⟨k1, k2⟩ := bind_all sig _ none h1 c hc
        obtain ⟨_, _, _, k3⟩ := apply_ok (hr c hc)
        refine ⟨k1, ?_⟩
        show termE sig (applyL sig r c.2) = 0
        rw [k3]
        exact term_laid hbr k2
    have hbnd : ∀ n, bnd (merge (fun u => applyL sig r u) (a :: s) r) n = match bnd (a :: s) n with | some u => some (laidL (bnd r) u) | none => bnd r n := fun n => by
      have f1 : bnd (merge (fun u => applyL sig r u) (a :: s) r) n = _ := (look_rise m2 n).symm
      have f2 : bnd (a :: s) n = _ := (look_rise hs n).symm
      have f3 : bnd r n = _ := (look_rise hrr n).symm
      rw [f1, f2, f3, m3 n]
      cases hl : (a :: s).lookup n with
      | none => rfl
      | some u =>
        obtain ⟨_, _, _, k3⟩ := apply_ok (hr _ (lookup_mem hl))
        simp only at k3 ⊢
        rw [k3]
    have hla := laid_after (bnd (a :: s)) (bnd r) _ hbnd t
    obtain ⟨e1, e2⟩ := apply_of hbr (term_laid hb ht)
    obtain ⟨e3, e4⟩ := apply_of hbm ht
    rw [e1, e2, e3, e4, hla]
    exact ⟨rfl, rfl⟩

end Go.Proofs.YtcoaabgaolblfaaDoor

/- The tree of a right term. -/
namespace Go.Proofs.YtcoaabgaolblfaaDoor
open Go.RowKit Go.Maps Go.Shelf

attribute [local go_sem] Oper.semAt_some

/-- How many arguments a code has. -/
def arN (sig : List Sy) (c : Int) : Nat := match sig[c.toNat]? with | some s => s.2.toNat | none => 0

/-- A code more, from the back to the front: what begins first is the last one. -/
def growStep (sig : List Sy) (st : List Tr) (c : Int) : List Tr := if c < 0 then st ++ [.var] else st.take (st.length - arN sig c) ++ [.app (st.drop (st.length - arN sig c)).reverse]

def growR (sig : List Sy) : List Int → List Tr
  | [] => []
  | c :: u => growStep sig (growR sig u) c

theorem sizes_rev : ∀ ts : List Tr, sizes ts.reverse = sizes ts
  | [] => rfl
  | t :: ts => by
    rw [List.reverse_cons, sizes_app, sizes_rev ts]
    simp only [sizes]
    omega

theorem growStep_sizes (sig : List Sy) (st : List Tr) (c : Int) : sizes (growStep sig st c) = sizes st + 1 := by
  unfold growStep
  split
  · rw [sizes_app]; simp [sizes, Tr.size]
  · have h1 := sizes_app (st.take (st.length - arN sig c)) (st.drop (st.length - arN sig c))
    rw [List.take_append_drop] at h1
    rw [sizes_app]
    simp only [sizes, Tr.size, sizes_rev]
    omega

theorem growR_sizes (sig : List Sy) : ∀ u : List Int, sizes (growR sig u) = u.length
  | [] => rfl
  | c :: u => by
    show sizes (growStep sig (growR sig u) c) = _
    rw [growStep_sizes, growR_sizes sig u, List.length_cons]

theorem codeD_ar {sig : List Sy} (ha : ArOk sig) {c e : Int} (h : codeD sig c = some e) (hc : ¬ c < 0) : e = (arN sig c : Int) - 1 ∧ c.toNat < sig.length := by
  unfold codeD at h
  by_cases h9 : c < -1048576
  · omega
  · rw [if_neg h9, if_neg hc] at h
    cases hs : sig[c.toNat]? with
    | none => rw [hs] at h; cases h
    | some s =>
      rw [hs] at h
      have := ha s (List.mem_of_getElem? hs)
      simp only [Option.some.injEq] at h
      unfold arN
      rw [hs]
      simp only
      exact ⟨by omega, (List.getElem?_eq_some_iff.1 hs).1⟩

/-- The terms that a row is made of, and that each code finds its arguments. -/
theorem growR_len {sig : List Sy} (ha : ArOk sig) : ∀ (u : List Int) (m : Int) (i : Nat), 1 ≤ m → firstT sig m i u = ((i : Int) + u.length, 0) → ((growR sig u).length : Int) = m
  | [], m, i, hm, h => by simp [firstT] at h
  | c :: u, m, i, hm, h => by
    rw [firstT_cons] at h
    cases hc : codeD sig c with
    | none => rw [hc] at h; simp at h
    | some e =>
      rw [hc] at h
      simp only at h
      have he := codeD_ge ha hc
      have hlen : ((growR sig u).length : Int) = m + e := by
        by_cases h0 : m + e = 0
        · rw [if_pos h0] at h
          have := congrArg Prod.fst h
          simp only [List.length_cons] at this
          obtain rfl : u = [] := List.eq_nil_of_length_eq_zero (by omega)
          show ((0 : Nat) : Int) = _
          omega
        · rw [if_neg h0] at h
          exact growR_len ha u (m + e) (i + 1) (by omega) (by rw [h]; simp only [List.length_cons, Prod.mk.injEq, and_true]; omega)
      show ((growStep sig (growR sig u) c).length : Int) = m
      unfold growStep
      by_cases hv : c < 0
      · rw [if_pos hv, List.length_append]
        have he1 : e = -1 := by
          have hc2 := hc
          unfold codeD at hc2
          by_cases h9 : c < -1048576
          · rw [if_pos h9] at hc2; cases hc2
          · rw [if_neg h9, if_pos hv] at hc2; cases hc2; rfl
        simp only [List.length_cons, List.length_nil]
        omega
      · rw [if_neg hv, List.length_append, List.length_take]
        have := (codeD_ar ha hc hv).1
        simp only [List.length_cons, List.length_nil]
        omega

/-- Each code of a right term: it is one, and its arguments are there. -/
theorem grow_code {sig : List Sy} (ha : ArOk sig) : ∀ (p : List Int) (c : Int) (u : List Int) (m : Int) (i : Nat), 1 ≤ m → firstT sig m i (p ++ c :: u) = ((i : Int) + (p ++ c :: u).length, 0) → ¬ c < 0 → c.toNat < sig.length ∧ arN sig c ≤ (growR sig u).length
  | [], c, u, m, i, hm, h, hv => by
    rw [List.nil_append] at h
    have hl := growR_len ha (c :: u) m i hm h
    rw [firstT_cons] at h
    cases hc : codeD sig c with
    | none => rw [hc] at h; simp at h
    | some e =>
      rw [hc] at h
      simp only at h
      obtain ⟨k1, k2⟩ := codeD_ar ha hc hv
      refine ⟨k2, ?_⟩
      by_cases h0 : m + e = 0
      · omega
      · rw [if_neg h0] at h
        have := growR_len ha u (m + e) (i + 1) (by have := codeD_ge ha hc; omega) (by rw [h]; simp only [List.length_cons, Prod.mk.injEq, and_true]; omega)
        omega
  | d :: p, c, u, m, i, hm, h, hv => by
    rw [List.cons_append, firstT_cons] at h
    cases hc : codeD sig d with
    | none => rw [hc] at h; simp at h
    | some e =>
      rw [hc] at h
      simp only at h
      by_cases h0 : m + e = 0
      · rw [if_pos h0] at h
        have := congrArg Prod.fst h
        simp at this
        omega
      · rw [if_neg h0] at h
        exact grow_code ha p c u (m + e) (i + 1) (by have := codeD_ge ha hc; omega) (by rw [h]; simp only [List.length_cons, Prod.mk.injEq, and_true]; omega) hv

theorem grow_one {sig : List Sy} (ha : ArOk sig) {t : List Int} (h : rowE sig t = 0) : ∃ T, growR sig t = [T] ∧ T.size = t.length := by
  have h1 := growR_len ha t 1 0 (by omega) (by rw [row_first.1 h]; simp)
  have h2 := growR_sizes sig t
  cases hg : growR sig t with
  | nil => rw [hg] at h1; simp at h1
  | cons T r =>
    rw [hg] at h1 h2
    obtain rfl : r = [] := List.eq_nil_of_length_eq_zero (by simp at h1; omega)
    exact ⟨T, rfl, by simpa [sizes] using h2⟩

theorem own_rdv {w : World} {base : Nat} {e : TypeId} {v : Value} {vals : List Value} (h : w.ownsRow base e 1 v vals.length vals) : RdV w v vals := by
  rcases h.2 with ⟨rfl, hn⟩ | ⟨g, cap, cur, hv, hb, hg, hc, hm, hs, ht⟩
  · exact .inl ⟨rfl, List.eq_nil_of_length_eq_zero hn⟩
  · subst hv
    refine .inr ⟨g, 0, cap, rfl, fun j u hj => ?_⟩
    have hlt := (List.getElem?_eq_some_iff.1 hj).1
    rw [Nat.zero_add, World.ownsRow.cellAt h j (by omega)]
    exact hj

theorem own_cut {w : World} {base : Nat} {e : TypeId} {ao : Option Addr} {n cap k : Nat} {vals : List Value} (h : w.ownsRow base e 1 (.slice ao n cap) n vals) (hk : k ≤ n) : w.ownsRow base e 1 (.slice ao k cap) k (vals.take k) := by
  have h1 := h.1
  refine ⟨by rw [List.length_take]; omega, ?_⟩
  rcases h.2 with ⟨hv, hn⟩ | ⟨g, cp, cur, hv, hb, hg, hc, hm, hs, ht⟩
  · simp only [Value.slice.injEq] at hv
    obtain ⟨rfl, rfl, rfl⟩ := hv
    obtain rfl : k = 0 := by omega
    exact .inl ⟨rfl, rfl⟩
  · simp only [Value.slice.injEq] at hv
    obtain ⟨rfl, _, rfl⟩ := hv
    refine .inr ⟨g, cap, cur, rfl, hb, hg, by omega, hm, hs, ?_⟩
    rw [Nat.mul_one] at ht ⊢
    rw [← ht, List.take_take, Nat.min_eq_left hk]

theorem frozen_same {w w' : World} {a : Addr} (h : w'.heap[a.block]? = w.heap[a.block]?) : w'.frozen? a = w.frozen? a := by
  unfold World.frozen?
  rw [h]

theorem cell_putObj {W : World} {l : Nat} {o o' : Obj} {a : Addr} {x : Value} (hl : W.heap[l]? = some o) (ho : o.isCells = false) (h : W.cell? a = some x) : (W.putObj l o').cell? a = some x := by
  have hne : a.block ≠ l := by
    rintro rfl
    unfold World.cell? at h
    rw [hl] at h
    cases o <;> simp_all [Obj.isCells]
  rw [World.cell?_of_block (World.putObj_heap_other hne)]
  exact h

end Go.Proofs.YtcoaabgaolblfaaDoor

/- Trees of right rows: plain. -/
namespace Go.Proofs.YtcoaabgaolblfaaDoor

/-- Each symbol has its arguments. -/
inductive WfT (sig : List Sy) : Te → Prop
  | v {c : Int} : c < 0 → WfT sig (.v c)
  | a {c : Int} {ts : List Te} : ¬ c < 0 → ts.length = arN sig c → (∀ t ∈ ts, WfT sig t) → WfT sig (.a c ts)

def growStepE (sig : List Sy) (st : List Te) (c : Int) : List Te := if c < 0 then st ++ [.v c] else st.take (st.length - arN sig c) ++ [.a c (st.drop (st.length - arN sig c)).reverse]

/-- The trees that a row is made of; what begins first is the last one. -/
def growE (sig : List Sy) : List Int → List Te
  | [] => []
  | c :: u => growStepE sig (growE sig u) c

mutual
def Te.shape : Te → Tr
  | .v _ => .var
  | .a _ ts => .app (shapeL ts)
def shapeL : List Te → List Tr
  | [] => []
  | t :: ts => t.shape :: shapeL ts
end

theorem shapeL_map : ∀ ts : List Te, shapeL ts = ts.map Te.shape
  | [] => rfl
  | t :: ts => by simp only [shapeL, List.map_cons, shapeL_map ts]

theorem growE_shape (sig : List Sy) : ∀ u : List Int, (growE sig u).map Te.shape = growR sig u
  | [] => rfl
  | c :: u => by
    show (growStepE sig (growE sig u) c).map Te.shape = growStep sig (growR sig u) c
    have ih := growE_shape sig u
    have hl : (growR sig u).length = (growE sig u).length := by rw [← ih, List.length_map]
    unfold growStepE growStep
    split
    · rw [List.map_append, ih]
      rfl
    · rw [List.map_append, List.map_take, ih, hl]
      simp only [List.map_cons, List.map_nil, Te.shape, shapeL_map, List.map_reverse, List.map_drop, ih]

theorem rowL_app : ∀ (a b : List Te), rowL (a ++ b) = rowL a ++ rowL b
  | [], b => rfl
  | t :: a, b => by simp only [List.cons_append, rowL, rowL_app a b, List.append_assoc]

theorem growE_row (sig : List Sy) : ∀ u : List Int, rowL (growE sig u).reverse = u
  | [] => rfl
  | c :: u => by
    show rowL (growStepE sig (growE sig u) c).reverse = c :: u
    have ih := growE_row sig u
    unfold growStepE
    split
    · rw [List.reverse_append, List.reverse_singleton, rowL_app, ih]
      simp [rowL, Te.row]
    · rw [List.reverse_append, List.reverse_singleton, rowL_app]
      simp only [rowL, Te.row, List.append_nil, List.cons_append, List.cons.injEq, true_and]
      rw [← rowL_app, ← List.reverse_append, List.take_append_drop, ih]

mutual
theorem size_row : ∀ x : Te, x.row.length = x.size
  | .v _ => rfl
  | .a _ ts => by simp only [Te.row, Te.size, List.length_cons, size_rowL ts]; omega
theorem size_rowL : ∀ ts : List Te, (rowL ts).length = sizeL ts
  | [] => rfl
  | t :: ts => by simp only [rowL, sizeL, List.length_append, size_row t, size_rowL ts]
end

theorem growE_wf {sig : List Sy} (ha : ArOk sig) : ∀ (u : List Int) (m : Int) (i : Nat), 1 ≤ m → firstT sig m i u = ((i : Int) + u.length, 0) → ∀ x ∈ growE sig u, WfT sig x
  | [], m, i, hm, h => by simp [firstT] at h
  | c :: u, m, i, hm, h => by
    rw [firstT_cons] at h
    cases hc : codeD sig c with
    | none => rw [hc] at h; simp at h
    | some e =>
      rw [hc] at h
      simp only at h
      have he := codeD_ge ha hc
      have hboth : (∀ x ∈ growE sig u, WfT sig x) ∧ ((growE sig u).length : Int) = m + e := by
        by_cases h0 : m + e = 0
        · rw [if_pos h0] at h
          have := congrArg Prod.fst h
          simp only [List.length_cons] at this
          obtain rfl : u = [] := List.eq_nil_of_length_eq_zero (by omega)
          exact ⟨fun x hx => (by cases hx), by simp only [growE, List.length_nil]; omega⟩
        · rw [if_neg h0] at h
          have hf : firstT sig (m + e) (i + 1) u = (((i + 1 : Nat) : Int) + u.length, 0) := by rw [h]; simp only [List.length_cons, Prod.mk.injEq, and_true]; omega
          refine ⟨growE_wf ha u (m + e) (i + 1) (by omega) hf, ?_⟩
          have := growR_len ha u (m + e) (i + 1) (by omega) hf
          rw [← growE_shape, List.length_map] at this
          exact this
      obtain ⟨h1, h2⟩ := hboth
      intro x hx
      have hx : x ∈ growStepE sig (growE sig u) c := hx
      unfold growStepE at hx
      split at hx
      · rename_i hc0
        rcases List.mem_append.1 hx with hx | hx
        · exact h1 x hx
        · rw [List.mem_singleton] at hx
          subst hx
          exact .v hc0
      · rename_i hc0
        rcases List.mem_append.1 hx with hx | hx
        · exact h1 x (List.mem_of_mem_take hx)
        · rw [List.mem_singleton] at hx
          subst hx
          obtain ⟨h3, _⟩ := codeD_ar ha hc hc0
          refine .a hc0 ?_ (fun y hy => h1 y (List.mem_of_mem_drop (List.mem_reverse.1 hy)))
          rw [List.length_reverse, List.length_drop]
          omega

/-- A right row's tree. -/
theorem growE_one {sig : List Sy} (ha : ArOk sig) {t : List Int} (h : rowE sig t = 0) : ∃ x, growE sig t = [x] ∧ x.row = t ∧ WfT sig x := by
  have hf : firstT sig 1 0 t = (((0 : Nat) : Int) + t.length, 0) := by rw [row_first.1 h]; simp
  have h1 := growR_len ha t 1 0 (by omega) hf
  rw [← growE_shape, List.length_map] at h1
  obtain ⟨x, hx⟩ := List.length_eq_one_iff.1 (show (growE sig t).length = 1 by omega)
  refine ⟨x, hx, ?_, growE_wf ha t 1 0 (by omega) hf x (by rw [hx]; exact List.mem_singleton.2 rfl)⟩
  have := growE_row sig t
  rw [hx] at this
  simpa [rowL] using this

mutual
theorem grow_row {sig : List Sy} : ∀ (x : Te), WfT sig x → ∀ u, growE sig (x.row ++ u) = growE sig u ++ [x]
  | .v c, h, u => by
    cases h with
    | v hc =>
      show growStepE sig (growE sig u) c = _
      unfold growStepE
      rw [if_pos hc]
  | .a c ts, h, u => by
    cases h with
    | a hc hl hw =>
      show growStepE sig (growE sig (rowL ts ++ u)) c = _
      rw [grow_rowL ts hw u]
      unfold growStepE
      rw [if_neg hc]
      have e : (growE sig u ++ ts.reverse).length - arN sig c = (growE sig u).length := by rw [List.length_append, List.length_reverse, hl]; omega
      rw [e, List.take_left, List.drop_left, List.reverse_reverse]
theorem grow_rowL {sig : List Sy} : ∀ (l : List Te), (∀ x ∈ l, WfT sig x) → ∀ u, growE sig (rowL l ++ u) = growE sig u ++ l.reverse
  | [], _, u => by simp [rowL]
  | x :: l, h, u => by
    show growE sig ((x.row ++ rowL l) ++ u) = _
    rw [List.append_assoc, grow_row x (h x (List.mem_cons_self ..)), grow_rowL l (fun y hy => h y (List.mem_cons_of_mem _ hy)), List.reverse_cons, List.append_assoc]
end

theorem wf_pre {sig : List Sy} {x y : Te} {r r' : List Int} (hx : WfT sig x) (hy : WfT sig y) (h : x.row ++ r = y.row ++ r') : x = y := by
  have h1 := grow_row x hx r
  rw [h, grow_row y hy r'] at h1
  have := List.append_inj_right' h1 rfl
  simpa using this.symm

theorem wf_inj {sig : List Sy} {x y : Te} (hx : WfT sig x) (hy : WfT sig y) (h : x.row = y.row) : x = y := wf_pre (r := []) (r' := []) hx hy (by rw [h])

/-- A tree stands at a place of a row. -/
def AtP (s : List Int) (x : Te) (i : Nat) : Prop := ∃ r, s.drop i = x.row ++ r

theorem AtP.one {sig : List Sy} {s : List Int} {x y : Te} {i : Nat} (hx : WfT sig x) (hy : WfT sig y) (h : AtP s x i) (h' : AtP s y i) : x = y := by
  obtain ⟨r, hr⟩ := h
  obtain ⟨r', hr'⟩ := h'
  exact wf_pre hx hy (hr.symm.trans hr')

theorem AtP.kid {s : List Int} {c : Int} {ts : List Te} {i k : Nat} {x : Te} (h : AtP s (.a c ts) i) (hk : ts[k]? = some x) : AtP s x (i + 1 + sizeL (ts.take k)) := by
  obtain ⟨r, hr⟩ := h
  have hk2 := (List.getElem?_eq_some_iff.1 hk).1
  have e : ts = ts.take k ++ x :: ts.drop (k + 1) := by
    rw [← (List.getElem?_eq_some_iff.1 hk).2]
    simp
  have e2 : rowL ts = rowL (ts.take k) ++ (x.row ++ rowL (ts.drop (k + 1))) := by
    have := congrArg rowL e
    rw [rowL_app] at this
    exact this
  refine ⟨rowL (ts.drop (k + 1)) ++ r, ?_⟩
  rw [show i + 1 + sizeL (ts.take k) = i + (1 + sizeL (ts.take k)) by omega, ← List.drop_drop, hr]
  simp only [Te.row]
  rw [e2, show 1 + sizeL (ts.take k) = (rowL (ts.take k)).length + 1 by rw [size_rowL]; omega, List.cons_append, List.drop_succ_cons, List.append_assoc, List.drop_left, List.append_assoc]

theorem AtP.len {s : List Int} {x : Te} {i : Nat} (h : AtP s x i) : i + x.size ≤ s.length := by
  obtain ⟨r, hr⟩ := h
  have h1 := congrArg List.length hr
  rw [List.length_drop, List.length_append, size_row] at h1
  have := size_pos x
  omega

theorem AtP.take {s : List Int} {x : Te} {i : Nat} (h : AtP s x i) : (s.drop i).take x.size = x.row := by
  obtain ⟨r, hr⟩ := h
  rw [hr, ← size_row, List.take_left]

/-- Two stacks that differ at one place, where the one tree is greater. -/
def OneG (ab : Int → Int → Bool) (st st' : List Te) : Prop := ∃ p x y q, st = p ++ x :: q ∧ st' = p ++ y :: q ∧ LG ab x y

theorem OneG.step {ab : Int → Int → Bool} {sig : List Sy} {st st' : List Te} (h : OneG ab st st') (c : Int) : OneG ab (growStepE sig st c) (growStepE sig st' c) := by
  obtain ⟨p, x, y, q, rfl, rfl, hg⟩ := h
  unfold growStepE
  split
  · exact ⟨p, x, y, q ++ [.v c], by simp, by simp, hg⟩
  · have hl : (p ++ x :: q).length = (p ++ y :: q).length := by simp
    rw [← hl]
    generalize hn : (p ++ x :: q).length - arN sig c = n
    by_cases h9 : n ≤ p.length
    · have e1 : (p ++ x :: q).take n = p.take n := List.take_append_of_le_length h9
      have e2 : (p ++ y :: q).take n = p.take n := List.take_append_of_le_length h9
      have e3 : (p ++ x :: q).drop n = p.drop n ++ x :: q := List.drop_append_of_le_length h9
      have e4 : (p ++ y :: q).drop n = p.drop n ++ y :: q := List.drop_append_of_le_length h9
      rw [e1, e2, e3, e4]
      refine ⟨p.take n, _, _, [], rfl, rfl, ?_⟩
      rw [List.reverse_append, List.reverse_append, List.reverse_cons, List.reverse_cons, List.append_assoc, List.append_assoc]
      exact LG.round hg
    · obtain ⟨k, hk⟩ : ∃ k, n = p.length + (k + 1) := ⟨n - p.length - 1, by omega⟩
      subst hk
      rw [List.take_length_add_append, List.take_length_add_append, List.drop_length_add_append, List.drop_length_add_append, List.take_succ_cons, List.take_succ_cons, List.drop_succ_cons, List.drop_succ_cons]
      exact ⟨p, x, y, q.take k ++ [.a c (q.drop k).reverse], by simp, by simp, hg⟩

theorem OneG.grow {ab : Int → Int → Bool} {sig : List Sy} {u u' : List Int} (h : OneG ab (growE sig u) (growE sig u')) : ∀ p : List Int, OneG ab (growE sig (p ++ u)) (growE sig (p ++ u'))
  | [] => h
  | c :: p => (OneG.grow h p).step c

/-- Kept by what stands around, as rows. -/
theorem round_rows {ab : Int → Int → Bool} {sig : List Sy} {p q : List Int} {x y s t : Te} (hx : WfT sig x) (hy : WfT sig y) (hg : LG ab x y) (h1 : growE sig (p ++ (x.row ++ q)) = [s]) (h2 : growE sig (p ++ (y.row ++ q)) = [t]) : LG ab s t := by
  have h := OneG.grow (ab := ab) (sig := sig) (u := x.row ++ q) (u' := y.row ++ q) ⟨growE sig q, x, y, [], by rw [grow_row x hx], by rw [grow_row y hy], hg⟩ p
  rw [h1, h2] at h
  obtain ⟨p', x', y', q', e1, e2, h9⟩ := h
  cases p' with
  | nil =>
    simp only [List.nil_append, List.cons.injEq] at e1 e2
    rw [e1.1, e2.1]
    exact h9
  | cons z p' => exact absurd (congrArg List.length e1) (by simp)

end Go.Proofs.YtcoaabgaolblfaaDoor

/- Trees of package lpo in memory; apply. -/
namespace Go.Proofs.YtcoaabgaolblfaaDoor
open Go.RowKit Go.Maps

mutual
/-- The value v is the tree that stands at a place, read through blocks of A alone; S: the codes from a place on. -/
def TL (w : World) (A : Nat → Prop) (S : Nat → Nat → Value) : Value → Te → Nat → Prop
  | v, .v _, p => v = .iface 96 (.agg #[.int .i64 (p : Int), S p 1])
  | v, .a _ ts, p => ∃ b a cap, v = .iface 88 (.pointer (some ⟨b, 0, none⟩)) ∧ A b ∧ w.cell? ⟨b, 0, none⟩ = some (.int .i64 (p : Int)) ∧ w.cell? ⟨b, 1, none⟩ = some (S p (1 + sizeL ts)) ∧ w.cell? ⟨b, 2, none⟩ = some (.slice a ts.length cap) ∧ ts.length ≤ cap ∧ cap ≤ maxLen ∧ (ts = [] ∨ ∃ g off, a = some ⟨g, off, none⟩ ∧ A g ∧ TLs w A S g off ts (p + 1))
def TLs (w : World) (A : Nat → Prop) (S : Nat → Nat → Value) (g : Nat) : Nat → List Te → Nat → Prop
  | _, [], _ => True
  | o, t :: ts, p => (∃ v, w.cell? ⟨g, o, none⟩ = some v ∧ TL w A S v t p) ∧ TLs w A S g (o + 1) ts (p + t.size)
end

mutual
theorem TL.keep {w w' : World} {A A' : Nat → Prop} {S : Nat → Nat → Value} (hc : ∀ b o x, A b → w.cell? ⟨b, o, none⟩ = some x → w'.cell? ⟨b, o, none⟩ = some x) (hA : ∀ b, A b → A' b) : ∀ {v : Value} {t : Te} {p : Nat}, TL w A S v t p → TL w' A' S v t p
  | v, .v _, p, h => by unfold TL at h ⊢; exact h
  | v, .a _ ts, p, h => by
    unfold TL at h ⊢
    obtain ⟨b, a, cap, h1, h2, h3, h3b, h4, h5, h6, h7⟩ := h
    refine ⟨b, a, cap, h1, hA b h2, hc b 0 _ h2 h3, hc b 1 _ h2 h3b, hc b 2 _ h2 h4, h5, h6, ?_⟩
    rcases h7 with h7 | ⟨g, off, k1, k2, k3⟩
    · exact .inl h7
    · exact .inr ⟨g, off, k1, hA g k2, TLs.keep hc hA k2 k3⟩
theorem TLs.keep {w w' : World} {A A' : Nat → Prop} {S : Nat → Nat → Value} (hc : ∀ b o x, A b → w.cell? ⟨b, o, none⟩ = some x → w'.cell? ⟨b, o, none⟩ = some x) (hA : ∀ b, A b → A' b) : ∀ {g o : Nat} {ts : List Te} {p : Nat}, A g → TLs w A S g o ts p → TLs w' A' S g o ts p
  | g, o, [], p, _, _ => by unfold TLs; trivial
  | g, o, t :: ts, p, hg, h => by
    unfold TLs at h ⊢
    obtain ⟨⟨v, h1, h2⟩, h3⟩ := h
    exact ⟨⟨v, hc g o _ hg h1, TL.keep hc hA h2⟩, TLs.keep hc hA hg h3⟩
end

/-- Values that are trees one behind the other. -/
def TLl (w : World) (A : Nat → Prop) (S : Nat → Nat → Value) : List Value → List Te → Nat → Prop
  | [], [], _ => True
  | v :: vs, t :: ts, p => TL w A S v t p ∧ TLl w A S vs ts (p + t.size)
  | _, _, _ => False

theorem TLl.keep {w w' : World} {A A' : Nat → Prop} {S : Nat → Nat → Value} (hc : ∀ b o x, A b → w.cell? ⟨b, o, none⟩ = some x → w'.cell? ⟨b, o, none⟩ = some x) (hA : ∀ b, A b → A' b) : ∀ {vs : List Value} {ts : List Te} {p : Nat}, TLl w A S vs ts p → TLl w' A' S vs ts p
  | [], [], _, _ => trivial
  | _ :: _, _ :: _, _, ⟨h1, h2⟩ => ⟨h1.keep hc hA, TLl.keep hc hA h2⟩
  | [], _ :: _, _, h => h.elim
  | _ :: _, [], _, h => h.elim

theorem TLl.len {w : World} {A : Nat → Prop} {S : Nat → Nat → Value} : ∀ {vs : List Value} {ts : List Te} {p : Nat}, TLl w A S vs ts p → vs.length = ts.length
  | [], [], _, _ => rfl
  | _ :: _, _ :: _, _, ⟨_, h2⟩ => congrArg (· + 1) (TLl.len h2)
  | [], _ :: _, _, h => h.elim
  | _ :: _, [], _, h => h.elim

theorem TLl.get {w : World} {A : Nat → Prop} {S : Nat → Nat → Value} : ∀ {vs : List Value} {ts : List Te} {p k : Nat} {v : Value} {t : Te}, TLl w A S vs ts p → vs[k]? = some v → ts[k]? = some t → TL w A S v t (p + sizeL (ts.take k))
  | [], [], _, _, _, _, _, h, _ => by simp at h
  | v :: vs, t :: ts, p, 0, _, _, ⟨h1, _⟩, hv, ht => by simp at hv ht; subst hv; subst ht; simpa [sizeL] using h1
  | v :: vs, t :: ts, p, k + 1, _, _, ⟨_, h2⟩, hv, ht => by
    have := TLl.get h2 (k := k) (by simpa using hv) (by simpa using ht)
    rw [List.take_succ_cons]
    simp only [sizeL]
    rw [← Nat.add_assoc]
    exact this
  | [], _ :: _, _, _, _, _, h, _, _ => h.elim
  | _ :: _, [], _, _, _, _, h, _, _ => h.elim

theorem TLl.take {w : World} {A : Nat → Prop} {S : Nat → Nat → Value} : ∀ {vs : List Value} {ts : List Te} {p : Nat} (k : Nat), TLl w A S vs ts p → TLl w A S (vs.take k) (ts.take k) p ∧ TLl w A S (vs.drop k) (ts.drop k) (p + sizeL (ts.take k))
  | [], [], p, k, _ => by simp [TLl]
  | _ :: _, _ :: _, p, 0, h => ⟨trivial, by simpa [sizeL] using h⟩
  | _ :: _, t :: ts, p, k + 1, ⟨h1, h2⟩ => by
    obtain ⟨h3, h4⟩ := TLl.take k h2
    refine ⟨⟨h1, h3⟩, ?_⟩
    rw [List.take_succ_cons, List.drop_succ_cons, List.drop_succ_cons]
    simp only [sizeL]
    rw [← Nat.add_assoc]
    exact h4
  | [], _ :: _, _, _, h => h.elim
  | _ :: _, [], _, _, h => h.elim

theorem TL.ifv {w : World} {A : Nat → Prop} {S : Nat → Nat → Value} {v : Value} {t : Te} {p : Nat} (h : TL w A S v t p) : IfV v := by
  cases t with
  | v c => unfold TL at h; exact ⟨_, _, h⟩
  | a c ts => unfold TL at h; obtain ⟨b, a, cap, h1, _⟩ := h; exact ⟨_, _, h1⟩

theorem TLl.ifv {w : World} {A : Nat → Prop} {S : Nat → Nat → Value} : ∀ {vs : List Value} {ts : List Te} {p : Nat}, TLl w A S vs ts p → ∀ u ∈ vs, IfV u
  | [], [], _, _, u, hu => by cases hu
  | v :: vs, t :: ts, _, ⟨h1, h2⟩, u, hu => by
    cases hu with
    | head => exact h1.ifv
    | tail _ hu => exact TLl.ifv h2 u hu
  | [], _ :: _, _, h, _, _ => h.elim
  | _ :: _, [], _, h, _, _ => h.elim

theorem TLs_of_TLl {w : World} {A : Nat → Prop} {S : Nat → Nat → Value} {g : Nat} : ∀ {vs : List Value} {ts : List Te} {o p : Nat}, TLl w A S vs ts p → (∀ (j : Nat) (u : Value), vs[j]? = some u → w.cell? ⟨g, o + j, none⟩ = some u) → TLs w A S g o ts p
  | [], [], o, p, _, _ => by unfold TLs; trivial
  | v :: vs, t :: ts, o, p, ⟨h1, h2⟩, hc => by
    unfold TLs
    refine ⟨⟨v, hc 0 v rfl, h1⟩, TLs_of_TLl h2 fun j u hj => ?_⟩
    have := hc (j + 1) u (by simpa using hj)
    rw [show o + 1 + j = o + (j + 1) by omega]
    exact this
  | [], _ :: _, _, _, h, _ => h.elim
  | _ :: _, [], _, _, h, _ => h.elim

theorem TLs.get {w : World} {A : Nat → Prop} {S : Nat → Nat → Value} {g : Nat} : ∀ {o : Nat} {ts : List Te} {p k : Nat} {t : Te}, TLs w A S g o ts p → ts[k]? = some t → ∃ v, w.cell? ⟨g, o + k, none⟩ = some v ∧ TL w A S v t (p + sizeL (ts.take k))
  | o, [], p, k, t, _, hk => by simp at hk
  | o, x :: ts, p, 0, t, h, hk => by
    unfold TLs at h
    simp only [List.getElem?_cons_zero, Option.some.injEq] at hk
    subst hk
    simpa [sizeL] using h.1
  | o, x :: ts, p, k + 1, t, h, hk => by
    unfold TLs at h
    rw [List.getElem?_cons_succ] at hk
    obtain ⟨v, h1, h2⟩ := TLs.get h.2 hk
    refine ⟨v, by rw [show o + (k + 1) = o + 1 + k by omega]; exact h1, ?_⟩
    rw [List.take_succ_cons]
    simp only [sizeL]
    rw [← Nat.add_assoc]
    exact h2

/-- The codes from a place on. -/
def cdL (b o c : Nat) (p n : Nat) : Value := .slice (some ⟨b, o + p, none⟩) n (c - p)

theorem sizeL_app : ∀ (a b : List Te), sizeL (a ++ b) = sizeL a + sizeL b
  | [], b => by simp [sizeL]
  | t :: a, b => by simp only [List.cons_append, sizeL, sizeL_app a b]; omega

theorem sizeL_take (ts : List Te) (k : Nat) : sizeL (ts.take k) ≤ sizeL ts := by
  have := sizeL_app (ts.take k) (ts.drop k)
  rw [List.take_append_drop] at this
  omega

theorem len_sizeL : ∀ ts : List Te, ts.length ≤ sizeL ts
  | [] => Nat.zero_le _
  | t :: ts => by
    have h1 := len_sizeL ts
    have h2 := size_pos t
    simp only [sizeL, List.length_cons]
    omega

theorem sizeL_rev : ∀ ts : List Te, sizeL ts.reverse = sizeL ts
  | [] => rfl
  | t :: ts => by
    rw [List.reverse_cons, sizeL_app, sizeL_rev ts]
    simp only [sizeL]
    omega

theorem nodeRow_any (x s : Value) (w : World) : Calls Tryd.prog 88 #[.agg #[x, s]] w fun e w' => e = .returned s ∧ Below w.heap.size w w' := by
  go_enter Tryd.func88, Tryd.ntmps88
  go_wp2
  go_ret
  exact ⟨rfl, below_alloc _⟩

theorem nodePlace_any (x s : Value) (w : World) : Calls Tryd.prog 87 #[.agg #[x, s]] w fun e w' => e = .returned x ∧ Below w.heap.size w w' := by
  go_enter Tryd.func87, Tryd.ntmps87
  go_wp2
  go_ret
  exact ⟨rfl, below_alloc _⟩

theorem run_loadNode {w : World} {b : Nat} {x s : Value} (h0 : w.cell? ⟨b, 0, none⟩ = some x) (h1 : w.cell? ⟨b, 1, none⟩ = some s) : (loadVar 94 ⟨b, 0, none⟩).run Tryd.prog w = .ok (.agg #[x, s]) w := by
  have h := run_loadCells_list (P := Tryd.prog) (w := w) ⟨b, 0, none⟩ [x, s] (fun j v hj => by
    rw [Addr.add_lit, Nat.zero_add]
    match j, hj with
    | 0, hj => simp at hj; subst hj; exact h0
    | 1, hj => simp at hj; subst hj; exact h1)
  simp only [List.length_cons, List.length_nil, Nat.zero_add, Nat.reduceAdd] at h
  simp [loadVar, Sem.run_bind, h]

theorem run_rowA (n : Nat) {w : World} {b : Nat} {x s : Value} (h0 : w.cell? ⟨b, 0, none⟩ = some x) (h1 : w.cell? ⟨b, 1, none⟩ = some s) : (method (n + 1) 88 (.pointer (some ⟨b, 0, none⟩)) "lodestone/lpo.row").run Tryd.prog w = .ok (88, .agg #[x, s]) w := by
  have e : (method (n + 1) 88 (.pointer (some ⟨b, 0, none⟩)) "lodestone/lpo.row").run Tryd.prog w = (do let v ← loadVar 94 ⟨b, 0, none⟩; pure (88, v) : Sem (FuncId × Value)).run Tryd.prog w := by kernel_rfl
  rw [e, Sem.run_bind, run_loadNode h0 h1]
  rfl

theorem run_placeA (n : Nat) {w : World} {b : Nat} {x s : Value} (h0 : w.cell? ⟨b, 0, none⟩ = some x) (h1 : w.cell? ⟨b, 1, none⟩ = some s) : (method (n + 1) 88 (.pointer (some ⟨b, 0, none⟩)) "lodestone/lpo.place").run Tryd.prog w = .ok (87, .agg #[x, s]) w := by
  have e : (method (n + 1) 88 (.pointer (some ⟨b, 0, none⟩)) "lodestone/lpo.place").run Tryd.prog w = (do let v ← loadVar 94 ⟨b, 0, none⟩; pure (87, v) : Sem (FuncId × Value)).run Tryd.prog w := by kernel_rfl
  rw [e, Sem.run_bind, run_loadNode h0 h1]
  rfl

end Go.Proofs.YtcoaabgaolblfaaDoor

/- apply of package lpo. -/
namespace Go.Proofs.YtcoaabgaolblfaaDoor
open Go.RowKit Go.Maps

set_option maxRecDepth 100000 in
set_option maxHeartbeats 1600000 in
theorem lpoApply_any (b0 o0 c0 p n : Nat) (v : Value) (vals : List Value) (ts : List Te) (A : Nat → Prop) (q : Nat) (w : World) (hr : RdV w v vals) (ht : TLl w A (cdL b0 o0 c0) vals ts q) (hA : ∀ b, A b → b < w.heap.size) (hs : p + 1 + sizeL ts ≤ n) (hn : n ≤ c0) (hc : c0 ≤ 9223372036854775807) :
    Calls Tryd.prog 33 #[.slice (some ⟨b0, o0, none⟩) n c0, .int .i64 (p : Int), v] w fun e w' => ∃ b, e = .returned (.iface 88 (.pointer (some ⟨b, 0, none⟩))) ∧ w.heap.size ≤ b ∧ w'.cell? ⟨b, 0, none⟩ = some (.int .i64 (p : Int)) ∧ w'.cell? ⟨b, 1, none⟩ = some (cdL b0 o0 c0 p (1 + sizeL ts)) ∧ w'.cell? ⟨b, 2, none⟩ = some v ∧ Below w.heap.size w w' := by
  have hlen := ht.len
  have hsh : ∃ ao cap, v = .slice ao ts.length cap := by
    rcases hr with ⟨rfl, rfl⟩ | ⟨g, off, cap, rfl, _⟩
    · exact ⟨none, 0, by rw [← hlen]; rfl⟩
    · exact ⟨_, cap, by rw [hlen]⟩
  obtain ⟨ao, cap, rfl⟩ := hsh
  have HR := hid hr
  have HT := hid ht
  have HA := hid hA
  have hbig := len_sizeL ts
  have hw0 : IntKind.i64.wrap ((p : Int) + 1) = ((p + 1 : Nat) : Int) := by rw [IntWalk.i64_in _ ⟨by omega, by omega⟩]; omega
  clear hr ht hA
  go_enter Tryd.func33, Tryd.ntmps33
  go_wp2
  go_loopw [7, 14] (fun sv iv wr => ∃ k : Nat, k ≤ ts.length ∧ iv = .int .i64 k ∧ sv = .int .i64 ((p + 1 + sizeL (ts.take k) : Nat) : Int) ∧ Below w.heap.size w wr) (fun _ iv _ => ts.length - (intOf iv).toNat)
  case atStart => exact ⟨0, Nat.zero_le _, rfl, by simp [sizeL], Below.refl _ _⟩
  case round =>
    obtain ⟨k, hk, rfl, rfl, hbl⟩ := hrel
    have HBl := hid hbl
    by_cases hlt : k < ts.length
    · obtain ⟨u, hu⟩ : ∃ u, vals[k]? = some u := ⟨_, List.getElem?_eq_getElem (by omega)⟩
      obtain ⟨t, htk⟩ : ∃ t, ts[k]? = some t := ⟨_, List.getElem?_eq_getElem hlt⟩
      obtain ⟨g, off, rfl, hcl⟩ := (HR.out.kp (Kp.of_below hbl)).at hu
      have htv := HT.out.get hu htk
      have hst := sizeL_take ts (k + 1)
      have hsn : sizeL (ts.take (k + 1)) = sizeL (ts.take k) + t.size := by rw [take_get htk, sizeL_app]; simp [sizeL]
      have HSn := hid hsn
      obtain ⟨S, hS⟩ : ∃ S, S = sizeL (ts.take k) := ⟨_, rfl⟩
      rw [← hS] at hsn HSn htv ⊢
      clear hS hu htk hbl
      cases t with
      | v c =>
        unfold TL cdL at htv
        subst htv
        simp only [Te.size] at hsn HSn
        go_wp2_with fail
        refine (nodeRow_any _ _ wr).mono ?_
        rintro e w2 ⟨rfl, hb2⟩
        have HB2 := hid (below_step HBl.out hb2)
        have hwr : IntKind.i64.wrap (((p + 1 + S : Nat) : Int) + 1) = ((p + 1 + (S + 1) : Nat) : Int) := by rw [IntWalk.i64_in _ ⟨by omega, by omega⟩]; omega
        clear hb2
        go_wp2
        go_roundw
        case rel => exact ⟨k + 1, by omega, by go_num, by rw [HSn.out]; exact congrArg (Value.int .i64) (by omega), HB2.out⟩
        case measure => simp [intOf]; omega
      | a c rs =>
        unfold TL cdL at htv
        obtain ⟨b, a, cp, rfl, hb, h3, h3b, h4, h5, h6, h7⟩ := htv
        have h3r := (HBl.out.cell (p := ⟨b, 0, none⟩) (HA.out b hb)).trans h3
        have h3s := (HBl.out.cell (p := ⟨b, 1, none⟩) (HA.out b hb)).trans h3b
        simp only [Te.size] at hsn HSn
        obtain ⟨Z, hZ⟩ : ∃ Z, Z = 1 + sizeL rs := ⟨_, rfl⟩
        rw [← hZ] at hsn HSn h3s
        have hwr : IntKind.i64.wrap (((p + 1 + S : Nat) : Int) + (Z : Int)) = ((p + 1 + (S + Z) : Nat) : Int) := by rw [IntWalk.i64_in _ ⟨by omega, by omega⟩]; omega
        clear h3 h3b h7 hZ
        go_wp2_with fail
        rw [run_rowA _ h3r h3s]
        simp only [Result.andThen_ok]
        refine (nodeRow_any _ _ wr).mono ?_
        rintro e w2 ⟨rfl, hb2⟩
        have HB2 := hid (below_step HBl.out hb2)
        clear hb2
        go_wp2
        go_roundw
        case rel => exact ⟨k + 1, by omega, by go_num, by rw [HSn.out]; exact congrArg (Value.int .i64) (by omega), HB2.out⟩
        case measure => simp [intOf]; omega
    · have hke : k = ts.length := by omega
      subst hke
      rw [List.take_length]
      obtain ⟨Z, hZ⟩ : ∃ Z, Z = sizeL ts := ⟨_, rfl⟩
      rw [← hZ] at hs ⊢
      have HZ := hid hZ
      have hzc : p + 1 + Z ≤ c0 := by omega
      have hcp : ¬ c0 = p := by omega
      have hsub : p + 1 + Z - p = 1 + Z := by omega
      clear hZ hbig
      go_wp2
      go_ret
      exact ⟨_, rfl, hbl.size, by simp, by rw [← HZ.out]; unfold cdL; simp, by simp, below_step hbl (below_alloc _)⟩

end Go.Proofs.YtcoaabgaolblfaaDoor
