/- What is above what, plainly: the least relation that holds the pairs and goes on; tables of bits. -/
import Derived.Laws.Bits64b
namespace Go.Proofs.Ytagndlcpcggmpaa

def Tr (R : Nat → Nat → Prop) : Prop := ∀ i j k, R i j → R j k → R i k

/-- The pairs told. -/
def PR (ps : List (Int × Int)) (i j : Nat) : Prop := ((i : Int), (j : Int)) ∈ ps

/-- Above, by the pairs: in every relation that holds them and goes on. -/
def Up (ps : List (Int × Int)) (i j : Nat) : Prop := ∀ S : Nat → Nat → Prop, (∀ i j, PR ps i j → S i j) → Tr S → S i j

theorem Up.base {ps : List (Int × Int)} {i j : Nat} (h : PR ps i j) : Up ps i j := fun _ hb _ => hb _ _ h

theorem Up.tr (ps : List (Int × Int)) : Tr (Up ps) := fun _ _ _ h k S hb ht => ht _ _ _ (h S hb ht) (k S hb ht)

theorem Up.mono {ps qs : List (Int × Int)} (h : ∀ x, x ∈ ps → x ∈ qs) {i j : Nat} (hu : Up ps i j) : Up qs i j :=
  hu (Up qs) (fun _ _ hp => Up.base (h _ hp)) (Up.tr qs)

theorem Up.same {ps qs : List (Int × Int)} (h : ∀ x, x ∈ ps ↔ x ∈ qs) (i j : Nat) : Up ps i j ↔ Up qs i j :=
  ⟨Up.mono fun x hx => (h x).1 hx, Up.mono fun x hx => (h x).2 hx⟩

/-- Pairs of numbers that are symbols. -/
def InN (n : Int) (ps : List (Int × Int)) : Prop := ∀ x ∈ ps, 0 ≤ x.1 ∧ x.1 < n ∧ 0 ≤ x.2 ∧ x.2 < n

theorem Up.inN {n : Int} {ps : List (Int × Int)} (h : InN n ps) {i j : Nat} (hu : Up ps i j) : (i : Int) < n ∧ (j : Int) < n := by
  refine hu (fun i j => (i : Int) < n ∧ (j : Int) < n) (fun i j hp => ?_) (fun i j k h1 h2 => ⟨h1.1, h2.2⟩)
  have := h _ hp
  exact ⟨this.2.1, this.2.2.2⟩

open Classical in
/-- What Close answers beside the precedence. -/
noncomputable def closeE (n : Int) (ps : List (Int × Int)) : Int :=
  if n < 0 ∨ 128 < n then 1 else if ¬ InN n ps then 100 else if ∃ i, Up ps i i then 101 else 0

open Classical in
noncomputable def abB (ps : List (Int × Int)) (f g : Int) : Bool := decide (0 ≤ f ∧ 0 ≤ g ∧ Up ps f.toNat g.toNat)

theorem abB_iff (ps : List (Int × Int)) (f g : Int) : abB ps f g = true ↔ 0 ≤ f ∧ 0 ≤ g ∧ Up ps f.toNat g.toNat := by
  classical
  unfold abB
  simp

theorem abB_nat (ps : List (Int × Int)) (i j : Nat) : abB ps i j = true ↔ Up ps i j := by
  rw [abB_iff]
  simp

theorem closeE_arg {n : Int} {ps : List (Int × Int)} (h : n < 0 ∨ 128 < n) : closeE n ps = 1 := by
  unfold closeE
  rw [if_pos h]

theorem closeE_sym {n : Int} {ps : List (Int × Int)} (h : 0 ≤ n) (h2 : n ≤ 128) (hn : ¬ InN n ps) : closeE n ps = 100 := by
  unfold closeE
  rw [if_neg (by omega), if_pos hn]

theorem closeE_cyc {n : Int} {ps : List (Int × Int)} (h : 0 ≤ n) (h2 : n ≤ 128) (hn : InN n ps) (hc : ∃ i, Up ps i i) : closeE n ps = 101 := by
  unfold closeE
  rw [if_neg (by omega), if_neg (by simpa using hn), if_pos hc]

theorem closeE_ok {n : Int} {ps : List (Int × Int)} (h : 0 ≤ n) (h2 : n ≤ 128) (hn : InN n ps) (hc : ∀ i, ¬ Up ps i i) : closeE n ps = 0 := by
  unfold closeE
  rw [if_neg (by omega), if_neg (by simpa using hn), if_neg (by simpa using hc)]

theorem closeE_zero {n : Int} {ps : List (Int × Int)} (h : closeE n ps = 0) : 0 ≤ n ∧ n ≤ 128 ∧ InN n ps ∧ ∀ i, ¬ Up ps i i := by
  by_cases h1 : n < 0 ∨ 128 < n
  · rw [closeE_arg h1] at h; cases h
  by_cases h2 : InN n ps
  · by_cases h3 : ∃ i, Up ps i i
    · rw [closeE_cyc (by omega) (by omega) h2 h3] at h; cases h
    · exact ⟨by omega, by omega, h2, fun i hi => h3 ⟨i, hi⟩⟩
  · rw [closeE_sym (by omega) (by omega) h2] at h; cases h

theorem closeE_iff {n : Int} {ps : List (Int × Int)} : closeE n ps = 0 ↔ 0 ≤ n ∧ n ≤ 128 ∧ InN n ps ∧ ∀ i, ¬ Up ps i i :=
  ⟨closeE_zero, fun h => closeE_ok h.1 h.2.1 h.2.2.1 h.2.2.2⟩

theorem closeE_cases (n : Int) (ps : List (Int × Int)) : closeE n ps = 0 ∨ closeE n ps = 1 ∨ closeE n ps = 100 ∨ closeE n ps = 101 := by
  unfold closeE
  split
  · exact .inr (.inl rfl)
  · split
    · exact .inr (.inr (.inl rfl))
    · split
      · exact .inr (.inr (.inr rfl))
      · exact .inl rfl

theorem closeE_same {n : Int} {ps qs : List (Int × Int)} (h : ∀ x, x ∈ ps ↔ x ∈ qs) : closeE n ps = closeE n qs := by
  have h1 : InN n ps ↔ InN n qs := ⟨fun hh x hx => hh x ((h x).2 hx), fun hh x hx => hh x ((h x).1 hx)⟩
  have h2 : (∃ i, Up ps i i) ↔ ∃ i, Up qs i i := exists_congr fun i => Up.same h i i
  by_cases a : n < 0 ∨ 128 < n
  · rw [closeE_arg a, closeE_arg a]
  by_cases b : InN n ps
  · by_cases c : ∃ i, Up ps i i
    · rw [closeE_cyc (by omega) (by omega) b c, closeE_cyc (by omega) (by omega) (h1.1 b) (h2.1 c)]
    · rw [closeE_ok (by omega) (by omega) b (fun i hi => c ⟨i, hi⟩), closeE_ok (by omega) (by omega) (h1.1 b) (fun i hi => c (h2.2 ⟨i, hi⟩))]
  · rw [closeE_sym (by omega) (by omega) b, closeE_sym (by omega) (by omega) (fun hh => b (h1.2 hh))]

theorem abB_same {ps qs : List (Int × Int)} (h : ∀ x, x ∈ ps ↔ x ∈ qs) (f g : Int) : abB ps f g = abB qs f g := by
  rw [Bool.eq_iff_iff, abB_iff, abB_iff, Up.same h]

/-- One pair more. -/
theorem up_more (ps : List (Int × Int)) (f g i k : Nat) : Up (ps ++ [((f : Int), (g : Int))]) i k ↔ Up ps i k ∨ ((i = f ∨ Up ps i f) ∧ (k = g ∨ Up ps g k)) := by
  constructor
  · intro h
    by_cases hc : g = f ∨ Up ps g f
    · -- with a way back all goes on
      refine h (fun i k => Up ps i k ∨ ((i = f ∨ Up ps i f) ∧ (k = g ∨ Up ps g k))) (fun i j hp => ?_) ?_
      · rcases List.mem_append.1 hp with hp | hp
        · exact .inl (Up.base hp)
        · simp only [List.mem_singleton, Prod.mk.injEq] at hp
          exact .inr ⟨.inl (by omega), .inl (by omega)⟩
      · intro a b c h1 h2
        rcases h1 with h1 | ⟨h1, h1'⟩ <;> rcases h2 with h2 | ⟨h2, h2'⟩
        · exact .inl (Up.tr ps _ _ _ h1 h2)
        · refine .inr ⟨?_, h2'⟩
          rcases h2 with rfl | h2
          · exact .inr h1
          · exact .inr (Up.tr ps _ _ _ h1 h2)
        · refine .inr ⟨h1, ?_⟩
          rcases h1' with rfl | h1'
          · exact .inr h2
          · exact .inr (Up.tr ps _ _ _ h1' h2)
        · exact .inr ⟨h1, h2'⟩
    · refine h (fun i k => Up ps i k ∨ ((i = f ∨ Up ps i f) ∧ (k = g ∨ Up ps g k))) (fun i j hp => ?_) ?_
      · rcases List.mem_append.1 hp with hp | hp
        · exact .inl (Up.base hp)
        · simp only [List.mem_singleton, Prod.mk.injEq] at hp
          exact .inr ⟨.inl (by omega), .inl (by omega)⟩
      · intro a b c h1 h2
        rcases h1 with h1 | ⟨h1, h1'⟩ <;> rcases h2 with h2 | ⟨h2, h2'⟩
        · exact .inl (Up.tr ps _ _ _ h1 h2)
        · refine .inr ⟨?_, h2'⟩
          rcases h2 with rfl | h2
          · exact .inr h1
          · exact .inr (Up.tr ps _ _ _ h1 h2)
        · refine .inr ⟨h1, ?_⟩
          rcases h1' with rfl | h1'
          · exact .inr h2
          · exact .inr (Up.tr ps _ _ _ h1' h2)
        · exact .inr ⟨h1, h2'⟩
  · have hfg : Up (ps ++ [((f : Int), (g : Int))]) f g := Up.base (List.mem_append_right _ (by simp))
    have hm : ∀ {i k}, Up ps i k → Up (ps ++ [((f : Int), (g : Int))]) i k := Up.mono fun x hx => List.mem_append_left _ hx
    rintro (h | ⟨h1, h2⟩)
    · exact hm h
    · have h3 : Up (ps ++ [((f : Int), (g : Int))]) i g := by
        rcases h1 with rfl | h1
        · exact hfg
        · exact Up.tr _ _ _ _ (hm h1) hfg
      rcases h2 with rfl | h2
      · exact h3
      · exact Up.tr _ _ _ _ h3 (hm h2)

/-- Pairs that are above one another already, told besides. -/
theorem up_told {ps qs : List (Int × Int)} (h1 : ∀ x ∈ ps, x ∈ qs) (h2 : ∀ i j : Nat, PR qs i j → Up ps i j) (i j : Nat) : Up qs i j ↔ Up ps i j :=
  ⟨fun h => h (Up ps) h2 (Up.tr ps), Up.mono h1⟩

/-! Tables of bits: 256 words, two a row. -/

def hasN (T : List Nat) (f g : Nat) : Bool := ((T[2 * f + g / 64]?).getD 0).testBit (g % 64)

def setN (T : List Nat) (f g : Nat) : List Nat := T.set (2 * f + g / 64) (((T[2 * f + g / 64]?).getD 0) ||| 2 ^ (g % 64))

def orN (T : List Nat) (f g : Nat) : List Nat :=
  (T.set (2 * f) ((T[2 * f]?).getD 0 ||| (T[2 * g]?).getD 0)).set (2 * f + 1) ((T[2 * f + 1]?).getD 0 ||| (T[2 * g + 1]?).getD 0)

/-- A table: 256 words of 64 bits. -/
structure Tab (T : List Nat) : Prop where
  len : T.length = 256
  word : ∀ (k x : Nat), T[k]? = some x → x < 18446744073709551616

theorem word_or {a b : Nat} (ha : a < 18446744073709551616) (hb : b < 18446744073709551616) : a ||| b < 18446744073709551616 := by
  have := Nat.or_lt_two_pow (n := 64) (x := a) (y := b) (by simpa using ha) (by simpa using hb)
  simpa using this

theorem Tab.get {T : List Nat} (h : Tab T) {k : Nat} (hk : k < 256) : ∃ x, T[k]? = some x ∧ x < 18446744073709551616 := by
  have hl := h.len
  refine ⟨T[k], List.getElem?_eq_getElem (by omega), h.word k _ (List.getElem?_eq_getElem (by omega))⟩

theorem Tab.getD {T : List Nat} (h : Tab T) (k : Nat) : (T[k]?).getD 0 < 18446744073709551616 := by
  cases hk : T[k]? with
  | none => simp
  | some x => exact h.word k x hk

theorem Tab.set {T : List Nat} (h : Tab T) (k : Nat) {x : Nat} (hx : x < 18446744073709551616) : Tab (T.set k x) := by
  refine ⟨by simp [h.len], fun j y hy => ?_⟩
  rw [List.getElem?_set] at hy
  split at hy
  · split at hy
    · cases hy; exact hx
    · cases hy
  · exact h.word j y hy

theorem two_pow_lt (k : Nat) (h : k < 64) : 2 ^ k < 18446744073709551616 := by
  have := Nat.pow_lt_pow_right (a := 2) (by omega) h
  simpa using this

theorem Tab.setN {T : List Nat} (h : Tab T) (f g : Nat) : Tab (setN T f g) :=
  h.set _ (word_or (h.getD _) (two_pow_lt _ (Nat.mod_lt _ (by omega))))

theorem Tab.orN {T : List Nat} (h : Tab T) (f g : Nat) : Tab (orN T f g) :=
  (h.set _ (word_or (h.getD _) (h.getD _))).set _ (word_or (h.getD _) (h.getD _))

theorem has_set {T : List Nat} (h : Tab T) {f g i j : Nat} (hf : f < 128) (hg : g < 128) (hi : i < 128) (hj : j < 128) :
    hasN (setN T f g) i j = true ↔ hasN T i j = true ∨ (i = f ∧ j = g) := by
  have hl := h.len
  unfold hasN setN
  rw [List.getElem?_set]
  by_cases he : 2 * f + g / 64 = 2 * i + j / 64
  · have hfi : i = f := by omega
    subst hfi
    have hd : g / 64 = j / 64 := by omega
    rw [if_pos he, if_pos (by omega), he]
    simp only [Option.getD_some, Nat.testBit_or, Nat.testBit_two_pow, Bool.or_eq_true, decide_eq_true_eq]
    constructor
    · rintro (h | h)
      · exact .inl h
      · exact .inr ⟨by trivial, by omega⟩
    · rintro (h | ⟨_, rfl⟩)
      · exact .inl h
      · exact .inr rfl
  · rw [if_neg he]
    constructor
    · exact .inl
    · rintro (h | ⟨rfl, rfl⟩)
      · exact h
      · exact absurd rfl he

theorem orN_at {T : List Nat} (h : Tab T) {f g k : Nat} (hf : f < 128) : ((orN T f g)[k]?).getD 0 = if k = 2 * f then (T[2 * f]?).getD 0 ||| (T[2 * g]?).getD 0 else if k = 2 * f + 1 then (T[2 * f + 1]?).getD 0 ||| (T[2 * g + 1]?).getD 0 else (T[k]?).getD 0 := by
  have hl := h.len
  unfold orN
  rw [List.getElem?_set, List.getElem?_set]
  simp only [List.length_set]
  by_cases h1 : k = 2 * f
  · subst h1
    rw [if_neg (by omega), if_pos rfl, if_pos (by omega), if_pos rfl]
    rfl
  · by_cases h2 : k = 2 * f + 1
    · subst h2
      rw [if_pos rfl, if_pos (by omega), if_neg (by omega), if_pos rfl]
      rfl
    · rw [if_neg (by omega), if_neg (by omega), if_neg h1, if_neg h2]

theorem has_or {T : List Nat} (h : Tab T) {f g i j : Nat} (hf : f < 128) (hj : j < 128) :
    hasN (orN T f g) i j = true ↔ hasN T i j = true ∨ (i = f ∧ hasN T g j = true) := by
  unfold hasN
  rw [orN_at h hf]
  have hd : j / 64 = 0 ∨ j / 64 = 1 := by omega
  rcases hd with hd | hd
  all_goals rw [hd]
  · rw [Nat.add_zero, Nat.add_zero]
    by_cases hi : i = f
    · subst hi
      rw [if_pos rfl]
      simp
    · rw [if_neg (by omega), if_neg (by omega)]
      simp [hi]
  · by_cases hi : i = f
    · subst hi
      rw [if_neg (by omega), if_pos rfl]
      simp
    · rw [if_neg (by omega), if_neg (by omega)]
      simp [hi]

/-- Word by word at most. -/
def LeT (T U : List Nat) : Prop := ∀ k : Nat, (T[k]?).getD 0 ≤ (U[k]?).getD 0

theorem LeT.refl (T : List Nat) : LeT T T := fun _ => Nat.le_refl _

theorem LeT.trans {T U V : List Nat} (h : LeT T U) (k : LeT U V) : LeT T V := fun i => Nat.le_trans (h i) (k i)

theorem LeT.orN {T : List Nat} (h : Tab T) {f g : Nat} (hf : f < 128) : LeT T (orN T f g) := by
  intro k
  rw [orN_at h hf]
  split
  · next h => subst h; exact Nat.left_le_or
  · split
    · next h => subst h; exact Nat.left_le_or
    · exact Nat.le_refl _

theorem LeT.eq {T U : List Nat} (hT : Tab T) (hU : Tab U) (h : LeT T U) (k : LeT U T) : T = U := by
  have h1 := hT.len
  have h2 := hU.len
  apply List.ext_getElem (by omega)
  intro i hi hi2
  have a := h i
  have b := k i
  rw [List.getElem?_eq_getElem hi, List.getElem?_eq_getElem hi2] at a b
  simp only [Option.getD_some] at a b
  omega

theorem sum_le : ∀ {T U : List Nat}, T.length = U.length → LeT T U → T.sum ≤ U.sum ∧ (T.sum = U.sum → T = U)
  | [], [], _, _ => ⟨Nat.le_refl _, fun _ => rfl⟩
  | [], _ :: _, h, _ => by cases h
  | _ :: _, [], h, _ => by cases h
  | x :: T, y :: U, h, hl => by
    have h0 := hl 0
    simp only [List.getElem?_cons_zero, Option.getD_some] at h0
    have ih := sum_le (T := T) (U := U) (by simpa using h) (fun k => by
      have := hl (k + 1)
      simpa using this)
    simp only [List.sum_cons]
    refine ⟨by omega, fun e => ?_⟩
    have h1 : x = y := by omega
    have h2 : T.sum = U.sum := by omega
    rw [h1, ih.2 h2]

theorem sum_lt {T U : List Nat} (hT : Tab T) (hU : Tab U) (h : LeT T U) (hne : T ≠ U) : T.sum < U.sum := by
  have := sum_le (by rw [hT.len, hU.len]) h
  rcases Nat.lt_or_ge T.sum U.sum with hl | hg
  · exact hl
  · exact absurd (this.2 (by omega)) hne

theorem sum_bound : ∀ {T : List Nat}, (∀ (k x : Nat), T[k]? = some x → x < 18446744073709551616) → T.sum ≤ T.length * 18446744073709551616
  | [], _ => by simp
  | x :: T, h => by
    have h0 := h 0 x rfl
    have ih := sum_bound (T := T) (fun k y hy => h (k + 1) y hy)
    simp only [List.sum_cons, List.length_cons]
    omega

theorem Tab.sum {T : List Nat} (h : Tab T) : T.sum ≤ 256 * 18446744073709551616 := by
  have := sum_bound h.word
  rw [h.len] at this
  exact this

/-- A table's relation. -/
def TR (T : List Nat) (i j : Nat) : Prop := i < 128 ∧ j < 128 ∧ hasN T i j = true

/-- A table on the way to the closure of B: it holds B, and nothing that B does not come to. -/
structure Mid (B : Nat → Nat → Prop) (T : List Nat) : Prop where
  base : ∀ i j, B i j → TR T i j
  least : ∀ S : Nat → Nat → Prop, (∀ i j, B i j → S i j) → Tr S → ∀ i j, TR T i j → S i j

theorem Mid.orN {B : Nat → Nat → Prop} {T : List Nat} (h : Mid B T) (ht : Tab T) {f g : Nat} (hf : f < 128) (hg : g < 128) (hh : hasN T f g = true) : Mid B (orN T f g) := by
  refine ⟨fun i j hb => ?_, fun S hb hS i j hij => ?_⟩
  · obtain ⟨h1, h2, h3⟩ := h.base i j hb
    exact ⟨h1, h2, (has_or ht hf h2).2 (.inl h3)⟩
  · obtain ⟨h1, h2, h3⟩ := hij
    rcases (has_or ht hf h2).1 h3 with h4 | ⟨rfl, h4⟩
    · exact h.least S hb hS i j ⟨h1, h2, h4⟩
    · exact hS _ _ _ (h.least S hb hS _ _ ⟨hf, hg, hh⟩) (h.least S hb hS _ _ ⟨hg, h2, h4⟩)

/-- Rounds gone through: as far as the place (f, g) nothing is wanting, if nothing has changed. -/
def Far (W T : List Nat) (f g : Nat) : Prop := T = W → ∀ i k j : Nat, (i < f ∨ (i = f ∧ k < g)) → k < 128 → j < 128 → hasN W i k = true → hasN W k j = true → hasN W i j = true

theorem Far.start (W : List Nat) : Far W W 0 0 := fun _ _ _ _ h => by omega

theorem Far.row {W T : List Nat} {f : Nat} (h : Far W T f 128) : Far W T (f + 1) 0 := fun e i k j hh hk hj => h e i k j (by omega) hk hj

theorem Far.skip {W T : List Nat} {f g : Nat} (h : Far W T f g) (hn : hasN T f g = false) : Far W T f (g + 1) := fun e i k j hh hk hj h1 h2 => by
  by_cases hc : i = f ∧ k = g
  · obtain ⟨rfl, rfl⟩ := hc
    rw [← e, hn] at h1
    cases h1
  · exact h e i k j (by omega) hk hj h1 h2

theorem Far.orN {W T : List Nat} {f g : Nat} (h : Far W T f g) (hT : Tab T) (hW : Tab W) (hl : LeT W T) (hf : f < 128) : Far W (orN T f g) f (g + 1) := fun e i k j hh hk hj h1 h2 => by
  have hTW : T = W := LeT.eq hT hW (e ▸ LeT.orN hT hf) hl
  by_cases hc : i = f ∧ k = g
  · obtain ⟨rfl, rfl⟩ := hc
    have := (has_or hT (g := k) (i := i) hf hj).2 (.inr ⟨rfl, by rw [hTW]; exact h2⟩)
    rw [e] at this
    exact this
  · exact h hTW i k j (by omega) hk hj h1 h2

theorem Mid.closed {B : Nat → Nat → Prop} {W : List Nat} (h : Mid B W) (hf : Far W W 128 0) : (∀ i j, B i j → TR W i j) ∧ Tr (TR W) ∧ ∀ S : Nat → Nat → Prop, (∀ i j, B i j → S i j) → Tr S → ∀ i j, TR W i j → S i j :=
  ⟨h.base, fun i j k h1 h2 => ⟨h1.1, h2.2.1, hf rfl i j k (.inl h1.1) h1.2.1 h2.2.1 h1.2.2 h2.2.2⟩, h.least⟩

theorem up_of_closed {ps : List (Int × Int)} {W : List Nat} (h : (∀ i j, PR ps i j → TR W i j) ∧ Tr (TR W) ∧ ∀ S : Nat → Nat → Prop, (∀ i j, PR ps i j → S i j) → Tr S → ∀ i j, TR W i j → S i j) (i j : Nat) : TR W i j ↔ Up ps i j :=
  ⟨fun hw S hb ht => h.2.2 S hb ht i j hw, fun hu => hu (TR W) h.1 h.2.1⟩

/-- The table of the pairs themselves. -/
def ToldT (ps : List (Int × Int)) (T : List Nat) : Prop := Tab T ∧ ∀ i j, TR T i j ↔ (i < 128 ∧ j < 128 ∧ PR ps i j)

def zeroT : List Nat := List.replicate 256 0

theorem tab_zero : Tab zeroT := ⟨List.length_replicate, fun k x hx => by
  unfold zeroT at hx
  rw [List.getElem?_replicate] at hx
  split at hx
  · cases hx; omega
  · cases hx⟩

theorem told_zero : ToldT [] zeroT := by
  refine ⟨tab_zero, fun i j => ⟨fun h => ?_, fun h => by simp [PR] at h⟩⟩
  have := h.2.2
  unfold hasN zeroT at this
  rw [List.getElem?_replicate] at this
  split at this <;> simp at this

theorem told_step {ps : List (Int × Int)} {T : List Nat} (h : ToldT ps T) {f g : Nat} (hf : f < 128) (hg : g < 128) : ToldT (ps ++ [((f : Int), (g : Int))]) (setN T f g) := by
  refine ⟨h.1.setN f g, fun i j => ⟨fun hh => ?_, fun hh => ?_⟩⟩
  · obtain ⟨h1, h2, h3⟩ := hh
    refine ⟨h1, h2, ?_⟩
    rcases (has_set h.1 hf hg h1 h2).1 h3 with h3 | ⟨rfl, rfl⟩
    · exact List.mem_append_left _ ((h.2 i j).1 ⟨h1, h2, h3⟩).2.2
    · exact List.mem_append_right _ (by simp)
  · obtain ⟨h1, h2, h3⟩ := hh
    refine ⟨h1, h2, (has_set h.1 hf hg h1 h2).2 ?_⟩
    rcases List.mem_append.1 h3 with h3 | h3
    · exact .inl ((h.2 i j).2 ⟨h1, h2, h3⟩).2.2
    · simp only [List.mem_singleton, Prod.mk.injEq] at h3
      exact .inr ⟨by omega, by omega⟩

theorem ToldT.mid {n : Int} {ps : List (Int × Int)} {T : List Nat} (h : ToldT ps T) (hn : InN n ps) (h2 : n ≤ 128) : Mid (PR ps) T :=
  ⟨fun i j hp => (h.2 i j).2 ⟨by have := hn _ hp; simp only at this; omega, by have := hn _ hp; simp only at this; omega, hp⟩, fun _ hb _ i j ht => hb i j ((h.2 i j).1 ht).2.2⟩

end Go.Proofs.Ytagndlcpcggmpaa
