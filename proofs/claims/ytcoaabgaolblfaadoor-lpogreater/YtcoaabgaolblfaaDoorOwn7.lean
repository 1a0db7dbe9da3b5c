/- Texts of the proof, one behind the other. -/
import Derived.Laws.Bits64b
import Derived.Test.YtcoaabgaolblfaaDoorOwn1
import Derived.Laws.Rows
import Derived.Laws.ResultCell
import Derived.Laws.Shifts
import Derived.Deep.MidRow
import Derived.BigRegion
import Derived.ChangeKeysEq
import Derived.Deep.WholeRow
/- What is above what, plainly: the least relation that holds the pairs and goes on; tables of bits. -/
namespace Go.Proofs.YtcoaabgaolblfaaDoor

def TrP (R : Nat → Nat → Prop) : Prop := ∀ i j k, R i j → R j k → R i k

/-- The pairs told. -/
def PR (ps : List (Int × Int)) (i j : Nat) : Prop := ((i : Int), (j : Int)) ∈ ps

/-- Above, by the pairs: in every relation that holds them and goes on. -/
def Up (ps : List (Int × Int)) (i j : Nat) : Prop := ∀ S : Nat → Nat → Prop, (∀ i j, PR ps i j → S i j) → TrP S → S i j

theorem Up.base {ps : List (Int × Int)} {i j : Nat} (h : PR ps i j) : Up ps i j := fun _ hb _ => hb _ _ h

theorem Up.tr (ps : List (Int × Int)) : TrP (Up ps) := fun _ _ _ h k S hb ht => ht _ _ _ (h S hb ht) (k S hb ht)

theorem Up.mono {ps qs : List (Int × Int)} (h : ∀ x, x ∈ ps → x ∈ qs) {i j : Nat} (hu : Up ps i j) : Up qs i j :=
  hu (Up qs) (fun _ _ hp => Up.base (h _ hp)) (Up.tr qs)

theorem Up.same {ps qs : List (Int × Int)} (h : ∀ x, x ∈ ps ↔ x ∈ qs) (i j : Nat) : Up ps i j ↔ Up qs i j :=
  ⟨Up.mono fun x hx => (h x).1 hx, Up.mono fun x hx => (h x).2 hx⟩

/-- Pairs of numbers that are symbols. -/
def InN (n : Int) (ps : List (Int × Int)) : Prop := ∀ x ∈ ps, 0 ≤ x.1 ∧ x.1 < n ∧ 0 ≤ x.2 ∧ x.2 < n

theorem Up.inN {n : Int} {ps : List (Int × Int)} (h : InN n ps) {i j : Nat} (hu : Up ps i j) : (i : Int) < n ∧ (j : Int) < n := by
  refine hu (fun i j => (i : Int) < n ∧ (j : Int) < n) (fun i j hp => ?_) (fun i j k h1 h2 => ⟨h1.1, h2.2⟩)
  have := h _ hp
  exact ⟨this.2.1, this.2.2.2⟩

open Classical in
/-- What Close answers beside the precedence. -/
noncomputable def closeE (n : Int) (ps : List (Int × Int)) : Int :=
  if n < 0 ∨ 128 < n then 1 else if ¬ InN n ps then 100 else if ∃ i, Up ps i i then 101 else 0

open Classical in
noncomputable def abB (ps : List (Int × Int)) (f g : Int) : Bool := decide (0 ≤ f ∧ 0 ≤ g ∧ Up ps f.toNat g.toNat)

theorem abB_iff (ps : List (Int × Int)) (f g : Int) : abB ps f g = true ↔ 0 ≤ f ∧ 0 ≤ g ∧ Up ps f.toNat g.toNat := by
  classical
  unfold abB
  simp

theorem abB_nat (ps : List (Int × Int)) (i j : Nat) : abB ps i j = true ↔ Up ps i j := by
  rw [abB_iff]
  simp

theorem closeE_arg {n : Int} {ps : List (Int × Int)} (h : n < 0 ∨ 128 < n) : closeE n ps = 1 := by
  unfold closeE
  rw [if_pos h]

theorem closeE_sym {n : Int} {ps : List (Int × Int)} (h : 0 ≤ n) (h2 : n ≤ 128) (hn : ¬ InN n ps) : closeE n ps = 100 := by
  unfold closeE
  rw [if_neg (by omega), if_pos hn]

theorem closeE_cyc {n : Int} {ps : List (Int × Int)} (h : 0 ≤ n) (h2 : n ≤ 128) (hn : InN n ps) (hc : ∃ i, Up ps i i) : closeE n ps = 101 := by
  unfold closeE
  rw [if_neg (by omega), if_neg (by simpa using hn), if_pos hc]

theorem closeE_ok {n : Int} {ps : List (Int × Int)} (h : 0 ≤ n) (h2 : n ≤ 128) (hn : InN n ps) (hc : ∀ i, ¬ Up ps i i) : closeE n ps = 0 := by
  unfold closeE
  rw [if_neg (by omega), if_neg (by simpa using hn), if_neg (by simpa using hc)]

theorem closeE_zero {n : Int} {ps : List (Int × Int)} (h : closeE n ps = 0) : 0 ≤ n ∧ n ≤ 128 ∧ InN n ps ∧ ∀ i, ¬ Up ps i i := by
  by_cases h1 : n < 0 ∨ 128 < n
  · rw [closeE_arg h1] at h; cases h
  by_cases h2 : InN n ps
  · by_cases h3 : ∃ i, Up ps i i
    · rw [closeE_cyc (by omega) (by omega) h2 h3] at h; cases h
    · exact ⟨by omega, by omega, h2, fun i hi => h3 ⟨i, hi⟩⟩
  · rw [closeE_sym (by omega) (by omega) h2] at h; cases h

theorem closeE_iff {n : Int} {ps : List (Int × Int)} : closeE n ps = 0 ↔ 0 ≤ n ∧ n ≤ 128 ∧ InN n ps ∧ ∀ i, ¬ Up ps i i :=
  ⟨closeE_zero, fun h => closeE_ok h.1 h.2.1 h.2.2.1 h.2.2.2⟩

theorem closeE_cases (n : Int) (ps : List (Int × Int)) : closeE n ps = 0 ∨ closeE n ps = 1 ∨ closeE n ps = 100 ∨ closeE n ps = 101 := by
  unfold closeE
  split
  · exact .inr (.inl rfl)
  · split
    · exact .inr (.inr (.inl rfl))
    · split
      · exact .inr (.inr (.inr rfl))
      · exact .inl rfl

theorem closeE_same {n : Int} {ps qs : List (Int × Int)} (h : ∀ x, x ∈ ps ↔ x ∈ qs) : closeE n ps = closeE n qs := by
  have h1 : InN n ps ↔ InN n qs := ⟨fun hh x hx => hh x ((h x).2 hx), fun hh x hx => hh x ((h x).1 hx)⟩
  have h2 : (∃ i, Up ps i i) ↔ ∃ i, Up qs i i := exists_congr fun i => Up.same h i i
  by_cases a : n < 0 ∨ 128 < n
  · rw [closeE_arg a, closeE_arg a]
  by_cases b : InN n ps
  · by_cases c : ∃ i, Up ps i i
    · rw [closeE_cyc (by omega) (by omega) b c, closeE_cyc (by omega) (by omega) (h1.1 b) (h2.1 c)]
    · rw [closeE_ok (by omega) (by omega) b (fun i hi => c ⟨i, hi⟩), closeE_ok (by omega) (by omega) (h1.1 b) (fun i hi => c (h2.2 ⟨i, hi⟩))]
  · rw [closeE_sym (by omega) (by omega) b, closeE_sym (by omega) (by omega) (fun hh => b (h1.2 hh))]

theorem abB_same {ps qs : List (Int × Int)} (h : ∀ x, x ∈ ps ↔ x ∈ qs) (f g : Int) : abB ps f g = abB qs f g := by
  rw [Bool.eq_iff_iff, abB_iff, abB_iff, Up.same h]

/-- One pair more. -/
theorem up_more (ps : List (Int × Int)) (f g i k : Nat) : Up (ps ++ [((f : Int), (g : Int))]) i k ↔ Up ps i k ∨ ((i = f ∨ Up ps i f) ∧ (k = g ∨ Up ps g k)) := by
  constructor
  · intro h
    by_cases hc : g = f ∨ Up ps g f
    · -- with a way back all goes on
      refine h (fun i k => Up ps i k ∨ ((i = f ∨ Up ps i f) ∧ (k = g ∨ Up ps g k))) (fun i j hp => ?_) ?_
      · rcases List.mem_append.1 hp with hp | hp
        · exact .inl (Up.base hp)
        · simp only [List.mem_singleton, Prod.mk.injEq] at hp
          exact .inr ⟨.inl (by omega), .inl (by omega)⟩
      · intro a b c h1 h2
        rcases h1 with h1 | ⟨h1, h1'⟩ <;> rcases h2 with h2 | ⟨h2, h2'⟩
        · exact .inl (Up.tr ps _ _ _ h1 h2)
        · refine .inr ⟨?_, h2'⟩
          rcases h2 with rfl | h2
          · exact .inr h1
          · exact .inr (Up.tr ps _ _ _ h1 h2)
        · refine .inr ⟨h1, ?_⟩
          rcases h1' with rfl | h1'
          · exact .inr h2
          · exact .inr (Up.tr ps _ _ _ h1' h2)
        · exact .inr ⟨h1, h2'⟩
    · refine h (fun i k => Up ps i k ∨ ((i = f ∨ Up ps i f) ∧ (k = g ∨ Up ps g k))) (fun i j hp => ?_) ?_
      · rcases List.mem_append.1 hp with hp | hp
        · exact .inl (Up.base hp)
        · simp only [List.mem_singleton, Prod.mk.injEq] at hp
          exact .inr ⟨.inl (by omega), .inl (by omega)⟩
      · intro a b c h1 h2
        rcases h1 with h1 | ⟨h1, h1'⟩ <;> rcases h2 with h2 | ⟨h2, h2'⟩
        · exact .inl (Up.tr ps _ _ _ h1 h2)
        · refine .inr ⟨?_, h2'⟩
          rcases h2 with rfl | h2
          · exact .inr h1
          · exact .inr (Up.tr ps _ _ _ h1 h2)
        · refine .inr ⟨h1, ?_⟩
          rcases h1' with rfl | h1'
          · exact .inr h2
          · exact .inr (Up.tr ps _ _ _ h1' h2)
        · exact .inr ⟨h1, h2'⟩
  · have hfg : Up (ps ++ [((f : Int), (g : Int))]) f g := Up.base (List.mem_append_right _ (by simp))
    have hm : ∀ {i k}, Up ps i k → Up (ps ++ [((f : Int), (g : Int))]) i k := Up.mono fun x hx => List.mem_append_left _ hx
    rintro (h | ⟨h1, h2⟩)
    · exact hm h
    · have h3 : Up (ps ++ [((f : Int), (g : Int))]) i g := by
        rcases h1 with rfl | h1
        · exact hfg
        · exact Up.tr _ _ _ _ (hm h1) hfg
      rcases h2 with rfl | h2
      · exact h3
      · exact Up.tr _ _ _ _ h3 (hm h2)

/-- Pairs that are above one another already, told besides. -/
theorem up_told {ps qs : List (Int × Int)} (h1 : ∀ x ∈ ps, x ∈ qs) (h2 : ∀ i j : Nat, PR qs i j → Up ps i j) (i j : Nat) : Up qs i j ↔ Up ps i j :=
  ⟨fun h => h (Up ps) h2 (Up.tr ps), Up.mono h1⟩

/-! Tables of bits: 256 words, two a row. -/

def hasN (T : List Nat) (f g : Nat) : Bool := ((T[2 * f + g / 64]?).getD 0).testBit (g % 64)

def setN (T : List Nat) (f g : Nat) : List Nat := T.set (2 * f + g / 64) (((T[2 * f + g / 64]?).getD 0) ||| 2 ^ (g % 64))

def orN (T : List Nat) (f g : Nat) : List Nat :=
  (T.set (2 * f) ((T[2 * f]?).getD 0 ||| (T[2 * g]?).getD 0)).set (2 * f + 1) ((T[2 * f + 1]?).getD 0 ||| (T[2 * g + 1]?).getD 0)

/-- A table: 256 words of 64 bits. -/
structure Tab (T : List Nat) : Prop where
  len : T.length = 256
  word : ∀ (k x : Nat), T[k]? = some x → x < 18446744073709551616

theorem word_or {a b : Nat} (ha : a < 18446744073709551616) (hb : b < 18446744073709551616) : a ||| b < 18446744073709551616 := by
  have := Nat.or_lt_two_pow (n := 64) (x := a) (y := b) (by simpa using ha) (by simpa using hb)
  simpa using this

theorem Tab.get {T : List Nat} (h : Tab T) {k : Nat} (hk : k < 256) : ∃ x, T[k]? = some x ∧ x < 18446744073709551616 := by
  have hl := h.len
  refine ⟨T[k], List.getElem?_eq_getElem (by omega), h.word k _ (List.getElem?_eq_getElem (by omega))⟩

theorem Tab.getD {T : List Nat} (h : Tab T) (k : Nat) : (T[k]?).getD 0 < 18446744073709551616 := by
  cases hk : T[k]? with
  | none => simp
  | some x => exact h.word k x hk

theorem Tab.set {T : List Nat} (h : Tab T) (k : Nat) {x : Nat} (hx : x < 18446744073709551616) : Tab (T.set k x) := by
  refine ⟨by simp [h.len], fun j y hy => ?_⟩
  rw [List.getElem?_set] at hy
  split at hy
  · split at hy
    · cases hy; exact hx
    · cases hy
  · exact h.word j y hy

theorem two_pow_lt (k : Nat) (h : k < 64) : 2 ^ k < 18446744073709551616 := by
  have := Nat.pow_lt_pow_right (a := 2) (by omega) h
  simpa using this

theorem Tab.setN {T : List Nat} (h : Tab T) (f g : Nat) : Tab (setN T f g) :=
  h.set _ (word_or (h.getD _) (two_pow_lt _ (Nat.mod_lt _ (by omega))))

theorem Tab.orN {T : List Nat} (h : Tab T) (f g : Nat) : Tab (orN T f g) :=
  (h.set _ (word_or (h.getD _) (h.getD _))).set _ (word_or (h.getD _) (h.getD _))

theorem has_set {T : List Nat} (h : Tab T) {f g i j : Nat} (hf : f < 128) (hg : g < 128) (hi : i < 128) (hj : j < 128) :
    hasN (setN T f g) i j = true ↔ hasN T i j = true ∨ (i = f ∧ j = g) := by
  have hl := h.len
  unfold hasN setN
  rw [List.getElem?_set]
  by_cases he : 2 * f + g / 64 = 2 * i + j / 64
  · have hfi : i = f := by omega
    subst hfi
    have hd : g / 64 = j / 64 := by omega
    rw [if_pos he, if_pos (by omega), he]
    simp only [Option.getD_some, Nat.testBit_or, Nat.testBit_two_pow, Bool.or_eq_true, decide_eq_true_eq]
    constructor
    · rintro (h | h)
      · exact .inl h
      · exact .inr ⟨by trivial, by omega⟩
    · rintro (h | ⟨_, rfl⟩)
      · exact .inl h
      · exact .inr rfl
  · rw [if_neg he]
    constructor
    · exact .inl
    · rintro (h | ⟨rfl, rfl⟩)
      · exact h
      · exact absurd rfl he

theorem orN_at {T : List Nat} (h : Tab T) {f g k : Nat} (hf : f < 128) : ((orN T f g)[k]?).getD 0 = if k = 2 * f then (T[2 * f]?).getD 0 ||| (T[2 * g]?).getD 0 else if k = 2 * f + 1 then (T[2 * f + 1]?).getD 0 ||| (T[2 * g + 1]?).getD 0 else (T[k]?).getD 0 := by
  have hl := h.len
  unfold orN
  rw [List.getElem?_set, List.getElem?_set]
  simp only [List.length_set]
  by_cases h1 : k = 2 * f
  · subst h1
    rw [if_neg (by omega), if_pos rfl, if_pos (by omega), if_pos rfl]
    rfl
  · by_cases h2 : k = 2 * f + 1
    · subst h2
      rw [if_pos rfl, if_pos (by omega), if_neg (by omega), if_pos rfl]
      rfl
    · rw [if_neg (by omega), if_neg (by omega), if_neg h1, if_neg h2]

theorem has_or {T : List Nat} (h : Tab T) {f g i j : Nat} (hf : f < 128) (hj : j < 128) :
    hasN (orN T f g) i j = true ↔ hasN T i j = true ∨ (i = f ∧ hasN T g j = true) := by
  unfold hasN
  rw [orN_at h hf]
  have hd : j / 64 = 0 ∨ j / 64 = 1 := by omega
  rcases hd with hd | hd
  all_goals rw [hd]
  · rw [Nat.add_zero, Nat.add_zero]
    by_cases hi : i = f
    · subst hi
      rw [if_pos rfl]
      simp
    · rw [if_neg (by omega), if_neg (by omega)]
      simp [hi]
  · by_cases hi : i = f
    · subst hi
      rw [if_neg (by omega), if_pos rfl]
      simp
    · rw [if_neg (by omega), if_neg (by omega)]
      simp [hi]

/-- Word by word at most. -/
def LeT (T U : List Nat) : Prop := ∀ k : Nat, (T[k]?).getD 0 ≤ (U[k]?).getD 0

theorem LeT.refl (T : List Nat) : LeT T T := fun _ => Nat.le_refl _

theorem LeT.trans {T U V : List Nat} (h : LeT T U) (k : LeT U V) : LeT T V := fun i => Nat.le_trans (h i) (k i)

theorem LeT.orN {T : List Nat} (h : Tab T) {f g : Nat} (hf : f < 128) : LeT T (orN T f g) := by
  intro k
  rw [orN_at h hf]
  split
  · next h => subst h; exact Nat.left_le_or
  · split
    · next h => subst h; exact Nat.left_le_or
    · exact Nat.le_refl _

theorem LeT.eq {T U : List Nat} (hT : Tab T) (hU : Tab U) (h : LeT T U) (k : LeT U T) : T = U := by
  have h1 := hT.len
  have h2 := hU.len
  apply List.ext_getElem (by omega)
  intro i hi hi2
  have a := h i
  have b := k i
  rw [List.getElem?_eq_getElem hi, List.getElem?_eq_getElem hi2] at a b
  simp only [Option.getD_some] at a b
  omega

theorem sum_le : ∀ {T U : List Nat}, T.length = U.length → LeT T U → T.sum ≤ U.sum ∧ (T.sum = U.sum → T = U)
  | [], [], _, _ => ⟨Nat.le_refl _, fun _ => rfl⟩
  | [], _ :: _, h, _ => by cases h
  | _ :: _, [], h, _ => by cases h
  | x :: T, y :: U, h, hl => by
    have h0 := hl 0
    simp only [List.getElem?_cons_zero, Option.getD_some] at h0
    have ih := sum_le (T := T) (U := U) (by simpa using h) (fun k => by
      have := hl (k + 1)
      simpa using this)
    simp only [List.sum_cons]
    refine ⟨by omega, fun e => ?_⟩
    have h1 : x = y := by omega
    have h2 : T.sum = U.sum := by omega
    rw [h1, ih.2 h2]

theorem sum_lt {T U : List Nat} (hT : Tab T) (hU : Tab U) (h : LeT T U) (hne : T ≠ U) : T.sum < U.sum := by
  have := sum_le (by rw [hT.len, hU.len]) h
  rcases Nat.lt_or_ge T.sum U.sum with hl | hg
  · exact hl
  · exact absurd (this.2 (by omega)) hne

theorem sum_bound : ∀ {T : List Nat}, (∀ (k x : Nat), T[k]? = some x → x < 18446744073709551616) → T.sum ≤ T.length * 18446744073709551616
  | [], _ => by simp
  | x :: T, h => by
    have h0 := h 0 x rfl
    have ih := sum_bound (T := T) (fun k y hy => h (k + 1) y hy)
    simp only [List.sum_cons, List.length_cons]
    omega

theorem Tab.sum {T : List Nat} (h : Tab T) : T.sum ≤ 256 * 18446744073709551616 := by
  have := sum_bound h.word
  rw [h.len] at this
  exact this

/-- A table's relation. -/
def TR (T : List Nat) (i j : Nat) : Prop := i < 128 ∧ j < 128 ∧ hasN T i j = true

/-- A table on the way to the closure of B: it holds B, and nothing that B does not come to. -/
structure Mid (B : Nat → Nat → Prop) (T : List Nat) : Prop where
  base : ∀ i j, B i j → TR T i j
  least : ∀ S : Nat → Nat → Prop, (∀ i j, B i j → S i j) → TrP S → ∀ i j, TR T i j → S i j

theorem Mid.orN {B : Nat → Nat → Prop} {T : List Nat} (h : Mid B T) (ht : Tab T) {f g : Nat} (hf : f < 128) (hg : g < 128) (hh : hasN T f g = true) : Mid B (orN T f g) := by
  refine ⟨fun i j hb => ?_, fun S hb hS i j hij => ?_⟩
  · obtain ⟨h1, h2, h3⟩ := h.base i j hb
    exact ⟨h1, h2, (has_or ht hf h2).2 (.inl h3)⟩
  · obtain ⟨h1, h2, h3⟩ := hij
    rcases (has_or ht hf h2).1 h3 with h4 | ⟨rfl, h4⟩
    · exact h.least S hb hS i j ⟨h1, h2, h4⟩
    · exact hS _ _ _ (h.least S hb hS _ _ ⟨hf, hg, hh⟩) (h.least S hb hS _ _ ⟨hg, h2, h4⟩)

/-- Rounds gone through: as far as the place (f, g) nothing is wanting, if nothing has changed. -/
def FarP (W T : List Nat) (f g : Nat) : Prop := T = W → ∀ i k j : Nat, (i < f ∨ (i = f ∧ k < g)) → k < 128 → j < 128 → hasN W i k = true → hasN W k j = true → hasN W i j = true

theorem FarP.start (W : List Nat) : FarP W W 0 0 := fun _ _ _ _ h => by omega

theorem FarP.row {W T : List Nat} {f : Nat} (h : FarP W T f 128) : FarP W T (f + 1) 0 := fun e i k j hh hk hj => h e i k j (by omega) hk hj

theorem FarP.skip {W T : List Nat} {f g : Nat} (h : FarP W T f g) (hn : hasN T f g = false) : FarP W T f (g + 1) := fun e i k j hh hk hj h1 h2 => by
  by_cases hc : i = f ∧ k = g
  · obtain ⟨rfl, rfl⟩ := hc
    rw [← e, hn] at h1
    cases h1
  · exact h e i k j (by omega) hk hj h1 h2

theorem FarP.orN {W T : List Nat} {f g : Nat} (h : FarP W T f g) (hT : Tab T) (hW : Tab W) (hl : LeT W T) (hf : f < 128) : FarP W (orN T f g) f (g + 1) := fun e i k j hh hk hj h1 h2 => by
  have hTW : T = W := LeT.eq hT hW (e ▸ LeT.orN hT hf) hl
  by_cases hc : i = f ∧ k = g
  · obtain ⟨rfl, rfl⟩ := hc
    have := (has_or hT (g := k) (i := i) hf hj).2 (.inr ⟨rfl, by rw [hTW]; exact h2⟩)
    rw [e] at this
    exact this
  · exact h hTW i k j (by omega) hk hj h1 h2

theorem Mid.closed {B : Nat → Nat → Prop} {W : List Nat} (h : Mid B W) (hf : FarP W W 128 0) : (∀ i j, B i j → TR W i j) ∧ TrP (TR W) ∧ ∀ S : Nat → Nat → Prop, (∀ i j, B i j → S i j) → TrP S → ∀ i j, TR W i j → S i j :=
  ⟨h.base, fun i j k h1 h2 => ⟨h1.1, h2.2.1, hf rfl i j k (.inl h1.1) h1.2.1 h2.2.1 h1.2.2 h2.2.2⟩, h.least⟩

theorem up_of_closed {ps : List (Int × Int)} {W : List Nat} (h : (∀ i j, PR ps i j → TR W i j) ∧ TrP (TR W) ∧ ∀ S : Nat → Nat → Prop, (∀ i j, PR ps i j → S i j) → TrP S → ∀ i j, TR W i j → S i j) (i j : Nat) : TR W i j ↔ Up ps i j :=
  ⟨fun hw S hb ht => h.2.2 S hb ht i j hw, fun hu => hu (TR W) h.1 h.2.1⟩

/-- The table of the pairs themselves. -/
def ToldT (ps : List (Int × Int)) (T : List Nat) : Prop := Tab T ∧ ∀ i j, TR T i j ↔ (i < 128 ∧ j < 128 ∧ PR ps i j)

def zeroT : List Nat := List.replicate 256 0

theorem tab_zero : Tab zeroT := ⟨List.length_replicate, fun k x hx => by
  unfold zeroT at hx
  rw [List.getElem?_replicate] at hx
  split at hx
  · cases hx; omega
  · cases hx⟩

theorem told_zero : ToldT [] zeroT := by
  refine ⟨tab_zero, fun i j => ⟨fun h => ?_, fun h => by simp [PR] at h⟩⟩
  have := h.2.2
  unfold hasN zeroT at this
  rw [List.getElem?_replicate] at this
  split at this <;> simp at this

theorem told_step {ps : List (Int × Int)} {T : List Nat} (h : ToldT ps T) {f g : Nat} (hf : f < 128) (hg : g < 128) : ToldT (ps ++ [((f : Int), (g : Int))]) (setN T f g) := by
  refine ⟨h.1.setN f g, fun i j => ⟨fun hh => ?_, fun hh => ?_⟩⟩
  · obtain ⟨h1, h2, h3⟩ := hh
    refine ⟨h1, h2, ?_⟩
    rcases (has_set h.1 hf hg h1 h2).1 h3 with h3 | ⟨rfl, rfl⟩
    · exact List.mem_append_left _ ((h.2 i j).1 ⟨h1, h2, h3⟩).2.2
    · exact List.mem_append_right _ (by simp)
  · obtain ⟨h1, h2, h3⟩ := hh
    refine ⟨h1, h2, (has_set h.1 hf hg h1 h2).2 ?_⟩
    rcases List.mem_append.1 h3 with h3 | h3
    · exact .inl ((h.2 i j).2 ⟨h1, h2, h3⟩).2.2
    · simp only [List.mem_singleton, Prod.mk.injEq] at h3
      exact .inr ⟨by omega, by omega⟩

theorem ToldT.mid {n : Int} {ps : List (Int × Int)} {T : List Nat} (h : ToldT ps T) (hn : InN n ps) (h2 : n ≤ 128) : Mid (PR ps) T :=
  ⟨fun i j hp => (h.2 i j).2 ⟨by have := hn _ hp; simp only at this; omega, by have := hn _ hp; simp only at this; omega, hp⟩, fun _ hb _ i j ht => hb i j ((h.2 i j).1 ht).2.2⟩

end Go.Proofs.YtcoaabgaolblfaaDoor

/- Rows of bits of package prec: has, with, withAll. -/
namespace Go.Proofs.YtcoaabgaolblfaaDoor
open Go.RowKit Go.Maps

def U64 (x : Nat) : Value := .int .u64 (x : Int)

def rowV (a b : Nat) : Value := .agg #[U64 a, U64 b]

def rowHas (a b g : Nat) : Bool := (if g < 64 then a else b).testBit (g % 64)

theorem hidP {p : Prop} (h : p) : Hid p := h

theorem below_setRow {B : Nat} {a w : World} (h : Below B a w) {g : Nat} (hg : B ≤ g) {cs : Array Value} : Below B a (w.setRow g cs) :=
  h.trans ⟨rfl, rfl, rfl, by simp [World.setRow], fun k hk => setRow_other w g k _ (by omega)⟩

theorem isSymbol_any (n c : Int) (w : World) : Calls Tryd.prog 23 #[.int .i64 n, .int .i64 c] w fun e w' => e = .returned (.bool (decide (0 ≤ c ∧ c < n))) ∧ w' = w := by
  by_cases h1 : 0 ≤ c
  · by_cases h2 : c < n
    · go_enter Tryd.func23, Tryd.ntmps23
      go_wp2
      go_ret
      exact ⟨ret1b (by simp [h1, h2]), rfl⟩
    · have h2' : n ≤ c := by omega
      go_enter Tryd.func23, Tryd.ntmps23
      go_wp2
      go_ret
      exact ⟨ret1b (by simp; omega), rfl⟩
  · have h1' : c < 0 := by omega
    go_enter Tryd.func23, Tryd.ntmps23
    go_wp2
    go_ret
    exact ⟨ret1b (by simp; omega), rfl⟩

theorem bit_and {a s : Nat} (ha : a < 18446744073709551616) : bits .and .u64 ((a : Int) / 2 ^ s) 1 = if a.testBit s then 1 else 0 := by
  have h1 : ((a : Int) / 2 ^ s) = ((a / 2 ^ s : Nat) : Int) := by simp
  have h2 : a / 2 ^ s < 18446744073709551616 := Nat.lt_of_le_of_lt (Nat.div_le_self _ _) ha
  rw [h1]
  have := bits_and_u64_nat (a / 2 ^ s) 1 h2 (by decide)
  rw [show ((1 : Nat) : Int) = 1 from rfl] at this
  rw [this, Nat.and_one_is_mod, Nat.testBit_eq_decide_div_mod_eq]
  have := Nat.mod_two_eq_zero_or_one (a / 2 ^ s)
  rcases this with h | h <;> rw [h] <;> simp

theorem bit_eq {a s : Nat} (ha : a < 18446744073709551616) : (bits .and .u64 ((a : Int) / 2 ^ s) 1 == 1) = a.testBit s := by
  rw [bit_and ha]
  cases a.testBit s <;> simp

theorem has_any (a b g : Nat) (w : World) (ha : a < 18446744073709551616) (hb : b < 18446744073709551616) (hg : g < 128) :
    Calls Tryd.prog 39 #[rowV a b, .int .i64 g] w fun e w' => e = .returned (.bool (rowHas a b g)) ∧ Below w.heap.size w w' := by
  obtain ⟨s, hs⟩ : ∃ s, g % 64 = s := ⟨_, rfl⟩
  have hsl : s < 64 := by omega
  have hs2 : (g : Int) % 64 = (s : Int) := by omega
  by_cases h64 : g < 64
  · have hd : g / 64 = 0 := by omega
    have hd2 : (g : Int) / 64 = 0 := by omega
    have hh : rowHas a b g = a.testBit s := by unfold rowHas; rw [if_pos h64, hs]
    rw [hh]
    have he := bit_eq (s := s) ha
    clear hh hs
    unfold rowV U64
    go_enter Tryd.func39, Tryd.ntmps39
    go_wp2
    go_ret
    exact ⟨rfl, below_alloc _⟩
  · have hd : g / 64 = 1 := by omega
    have hd2 : (g : Int) / 64 = 1 := by omega
    have hh : rowHas a b g = b.testBit s := by unfold rowHas; rw [if_neg h64, hs]
    rw [hh]
    have he := bit_eq (s := s) hb
    clear hh hs
    unfold rowV U64
    go_enter Tryd.func39, Tryd.ntmps39
    go_wp2
    go_ret
    exact ⟨rfl, below_alloc _⟩

theorem bit_or {a s : Nat} (ha : a < 18446744073709551616) (hs : s < 64) : bits .or .u64 (a : Int) (IntKind.u64.wrap (2 ^ s)) = ((a ||| 2 ^ s : Nat) : Int) := by
  have h1 := two_pow_lt s hs
  have h2 : IntKind.u64.wrap (2 ^ s) = ((2 ^ s : Nat) : Int) := by
    rw [IntKind.wrap_u64]
    have : (2 : Int) ^ s = ((2 ^ s : Nat) : Int) := by simp
    rw [this]
    generalize 2 ^ s = p at h1
    omega
  rw [h2, bits_or_u64_nat _ _ ha h1]

/-- A block that holds a row of bits. -/
def Rw2 (w : World) (g x y : Nat) : Prop := w.heap[g]? = some (.cells #[U64 x, U64 y] 70 (0, 0))

def rowWith (a b g : Nat) : Value := if g < 64 then rowV (a ||| 2 ^ (g % 64)) b else rowV a (b ||| 2 ^ (g % 64))

theorem info_row : (Tryd.prog.info? 70).map (·.size) = some 2 := by kernel_rfl

theorem under_row : Tryd.prog.underlying 70 = some (.array 2 68) := by kernel_rfl

theorem row_one (x y : Nat) : (#[U64 x, U64 y] : Array Value).all (·.oneCell') = true := by
  rw [Array.all_eq_true_iff_forall_mem]
  intro v hv
  simp only [List.mem_toArray, List.mem_cons, List.not_mem_nil, or_false] at hv
  rcases hv with rfl | rfl <;> rfl

theorem with_any (a b g : Nat) (w : World) (ha : a < 18446744073709551616) (hb : b < 18446744073709551616) (hg : g < 128) :
    Calls Tryd.prog 24 #[rowV a b, .int .i64 g] w fun e w' => e = .returned (rowWith a b g) ∧ Below w.heap.size w w' := by
  obtain ⟨s, hs⟩ : ∃ s, g % 64 = s := ⟨_, rfl⟩
  have hsl : s < 64 := by omega
  have hs2 : (g : Int) % 64 = (s : Int) := by omega
  by_cases h64 : g < 64
  · have hd : g / 64 = 0 := by omega
    have hd2 : (g : Int) / 64 = 0 := by omega
    have hh : rowWith a b g = rowV (a ||| 2 ^ s) b := by unfold rowWith; rw [if_pos h64, hs]
    rw [hh]
    have he := bit_or ha hsl
    clear hh hs
    unfold rowV U64
    go_enter Tryd.func24, Tryd.ntmps24
    go_wp2
    go_region
    go_wp2
    refine bodyPost_ret (v := .agg #[U64 (a ||| 2 ^ s), U64 b]) (results_cell_row rfl _ _ (w.heap.size + 1) 70 _ (0, 0) _ rfl (heap_alloc2_new _ _ _) under_row rfl (by rw [info_row]; rfl)) rfl ⟨rfl, ?_⟩
    exact (below_step (below_alloc _) (below_alloc _)).drew
  · have hd : g / 64 = 1 := by omega
    have hd2 : (g : Int) / 64 = 1 := by omega
    have hh : rowWith a b g = rowV a (b ||| 2 ^ s) := by unfold rowWith; rw [if_neg h64, hs]
    rw [hh]
    have he := bit_or hb hsl
    clear hh hs
    unfold rowV U64
    go_enter Tryd.func24, Tryd.ntmps24
    go_wp2
    go_region
    go_wp2
    refine bodyPost_ret (v := .agg #[U64 a, U64 (b ||| 2 ^ s)]) (results_cell_row rfl _ _ (w.heap.size + 1) 70 _ (0, 0) _ rfl (heap_alloc2_new _ _ _) under_row rfl (by rw [info_row]; rfl)) rfl ⟨rfl, ?_⟩
    exact (below_step (below_alloc _) (below_alloc _)).drew

theorem withAll_any (a b c d : Nat) (w : World) (ha : a < 18446744073709551616) (hb : b < 18446744073709551616) (hc : c < 18446744073709551616) (hd : d < 18446744073709551616) :
    Calls Tryd.prog 40 #[rowV a b, rowV c d] w fun e w' => e = .returned (rowV (a ||| c) (b ||| d)) ∧ Below w.heap.size w w' := by
  have h1 := bits_or_u64_nat a c ha hc
  have h2 := bits_or_u64_nat b d hb hd
  unfold rowV U64
  have i0 : ∀ w, (Instr.index 70 (.agg #[.int .u64 (c : Int), .int .u64 (d : Int)]) (.int .i64 0)).run Tryd.prog w = .ok (.int .u64 (c : Int)) w := fun _ => by kernel_rfl
  have i1 : ∀ w, (Instr.index 70 (.agg #[.int .u64 (c : Int), .int .u64 (d : Int)]) (.int .i64 1)).run Tryd.prog w = .ok (.int .u64 (d : Int)) w := fun _ => by kernel_rfl
  go_enter Tryd.func40, Tryd.ntmps40
  go_wp2
  go_loopw [8] (fun i wr => ∃ k : Nat, k ≤ 2 ∧ i = .int .i64 k ∧ Rw2 wr w.heap.size (if k = 0 then a else a ||| c) (if k ≤ 1 then b else b ||| d) ∧ Rw2 wr (w.heap.size + 2) 0 0 ∧ Below w.heap.size w wr) (fun i _ => 2 - (intOf i).toNat)
  case atStart =>
    refine ⟨0, by omega, rfl, ?_, ?_, ?_⟩
    · show (((w.heap.push _).push _).push _)[w.heap.size]? = _
      simp only [Array.getElem?_push, Array.size_push]
      rw [if_neg (by omega), if_neg (by omega), if_pos trivial]
      rfl
    · show (((w.heap.push _).push _).push _)[w.heap.size + 2]? = _
      simp only [Array.getElem?_push, Array.size_push]
      rw [if_pos trivial]
      rfl
    · exact below_step (below_step (below_alloc _) (below_alloc _)) (below_alloc _)
  case round =>
    obtain ⟨k, hk, rfl, h3, h4, hbl⟩ := hrel
    have H3 : Hid (Rw2 wr w.heap.size (if k = 0 then a else a ||| c) (if k ≤ 1 then b else b ||| d)) := h3
    have H4 : Hid (Rw2 wr (w.heap.size + 2) 0 0) := h4
    clear h3 h4
    have HB : Hid (Below w.heap.size w wr) := hbl
    clear hbl
    by_cases hk2 : k < 2
    · rcases (show k = 0 ∨ k = 1 by omega) with rfl | rfl
      · have hcell : wr.cell? ⟨w.heap.size, 0, none⟩ = some (.int .u64 (a : Int)) := cell_of_row wr w.heap.size 0 _ _ _ H3.out
        have hfr := frozen_of_row wr w.heap.size 0 _ _ H3.out
        go_wp2
        go_roundw
        case rel =>
          refine ⟨1, by omega, rfl, ?_, ?_, HB.out.setCell (p := ⟨w.heap.size, 0, none⟩) (Nat.le_refl _) _⟩
          · have := heap_setCell_same wr w.heap.size 0 _ _ (.int .u64 ((a ||| c : Nat) : Int)) H3.out
            exact this
          · exact (heap_setCell_other _ _ _ _ (by simp)).trans H4.out
        case measure => simp [intOf]
      · have hcell : wr.cell? ⟨w.heap.size, 1, none⟩ = some (.int .u64 (b : Int)) := cell_of_row wr w.heap.size 1 _ _ _ H3.out
        have hfr := frozen_of_row wr w.heap.size 1 _ _ H3.out
        go_wp2
        go_roundw
        case rel =>
          refine ⟨2, by omega, rfl, ?_, ?_, HB.out.setCell (p := ⟨w.heap.size, 1, none⟩) (Nat.le_refl _) _⟩
          · have := heap_setCell_same wr w.heap.size 1 _ _ (.int .u64 ((b ||| d : Nat) : Int)) H3.out
            exact this
          · exact (heap_setCell_other _ _ _ _ (by simp)).trans H4.out
        case measure => simp [intOf]
    · obtain rfl : k = 2 := by omega
      go_wp2_with (first
        | (refine wpList_load_row rfl _ _ rfl w.heap.size rfl _ _ _ _ H3.out under_row rfl (by rw [info_row]; rfl) ?_)
        | (refine wpList_store_row rfl _ _ _ rfl (w.heap.size + 2) #[U64 (a ||| c), U64 (b ||| d)] rfl rfl _ _ H4.out (by rw [info_row]; rfl) rfl (row_one _ _) ?_))
      refine bodyPost_ret (results_cell_row rfl _ _ (w.heap.size + 2) _ #[U64 (a ||| c), U64 (b ||| d)] (0, 0) _ rfl (setRow_heap wr _ _ _ _ _ H4.out) under_row rfl (by rw [info_row]; rfl)) rfl ?_
      exact ⟨rfl, below_setRow HB.out (by omega)⟩

end Go.Proofs.YtcoaabgaolblfaaDoor

/- Tables of bits in memory; two of them held against each other. -/
namespace Go.Proofs.YtcoaabgaolblfaaDoor
open Go.RowKit Go.Maps

/-- A table's cells. -/
def cellsT (T : List Nat) : Array Value := (T.map U64).toArray

theorem cellsT_size (T : List Nat) : (cellsT T).size = T.length := by simp [cellsT]

theorem cellsT_get (T : List Nat) (k : Nat) : (cellsT T)[k]? = (T[k]?).map U64 := by simp [cellsT]

theorem cellsT_one (T : List Nat) : (cellsT T).all (·.oneCell') = true := by
  rw [Array.all_eq_true_iff_forall_mem]
  intro v hv
  simp only [cellsT, List.mem_toArray, List.mem_map] at hv
  obtain ⟨x, _, rfl⟩ := hv
  rfl

set_option maxRecDepth 100000 in
theorem cellsT_inj {T W : List Nat} (h : cellsT T = cellsT W) : T = W := by
  unfold cellsT at h
  have h2 := congrArg Array.toList h
  simp only at h2
  apply List.ext_getElem?
  intro k
  have := congrArg (·[k]?) h2
  simp only [List.getElem?_map] at this
  cases h1 : T[k]? <;> cases h3 : W[k]? <;> rw [h1, h3] at this <;> simp [U64] at this <;> first | rfl | (congr 1; omega)

/-- Block g holds a table (as a block of type t). -/
def Tb (t : TypeId) (w : World) (g : Nat) (T : List Nat) : Prop := w.heap[g]? = some (.cells (cellsT T) t (0, 0))

theorem Tb.lt {t : TypeId} {w : World} {g : Nat} {T : List Nat} (h : Tb t w g T) : g < w.heap.size := (Array.getElem?_eq_some_iff.1 h).1

theorem Tb.below {t : TypeId} {w w' : World} {B g : Nat} {T : List Nat} (h : Tb t w g T) (hb : Below B w w') (hg : g < B) : Tb t w' g T := (hb.block g hg).trans h

theorem Tb.later {t : TypeId} {w w' : World} {g : Nat} {T : List Nat} (h : Tb t w g T) (hb : Below w.heap.size w w') : Tb t w' g T := h.below hb h.lt

theorem Tb.cell {t : TypeId} {w : World} {g : Nat} {T : List Nat} (h : Tb t w g T) {k x : Nat} (hk : T[k]? = some x) : w.cell? ⟨g, k, none⟩ = some (.int .u64 (x : Int)) := by
  rw [cell_of_row w g k _ _ _ h, cellsT_get, hk]
  rfl

theorem Tb.frozen {t : TypeId} {w : World} {g : Nat} {T : List Nat} (h : Tb t w g T) (k : Nat) : w.frozen? ⟨g, k, none⟩ = false := frozen_of_row w g k _ _ h

set_option maxRecDepth 100000 in
theorem Tb.set {t : TypeId} {w : World} {g : Nat} {T : List Nat} (h : Tb t w g T) (k x : Nat) : Tb t (w.setCell ⟨g, k, none⟩ (.int .u64 (x : Int))) g (T.set k x) := by
  unfold Tb at h ⊢
  rw [heap_setCell_same w g k _ _ _ h]
  congr 2
  simp [cellsT, List.map_set, U64]

theorem Tb.setOther {t : TypeId} {w : World} {g g' k : Nat} {T : List Nat} {v : Value} (h : Tb t w g T) (hne : g ≠ g') : Tb t (w.setCell ⟨g', k, none⟩ v) g T := (heap_setCell_other _ _ _ _ hne).trans h

theorem Tb.setRowOther {t : TypeId} {w : World} {g g' : Nat} {T : List Nat} {cs : Array Value} (h : Tb t w g T) (hne : g ≠ g') : Tb t (w.setRow g' cs) g T := (setRow_other w g' g cs hne).trans h

theorem info_table : (Tryd.prog.info? 72).map (·.size) = some 256 := by kernel_rfl

theorem under_table : Tryd.prog.underlying 72 = some (.array 128 70) := by kernel_rfl

theorem cells_row : Tryd.prog.cellsOf 70 = 2 := by kernel_rfl

theorem cells_u64 : Tryd.prog.cellsOf 68 = 1 := by kernel_rfl

theorem under_u64 : Tryd.prog.underlying 68 = some (.int .u64) := by kernel_rfl

theorem has_info {t : TypeId} {n : Nat} (h : (Tryd.prog.info? t).map (·.size) = some n) : ∃ i, Tryd.prog.info? t = some i := by
  cases hi : Tryd.prog.info? t with
  | none => rw [hi] at h; cases h
  | some i => exact ⟨i, rfl⟩

theorem info_u64 : (Tryd.prog.info? 68).map (·.size) = some 1 := by kernel_rfl

theorem run_part_u64 (w : World) (cs : Array Value) (k x : Nat) (h : cs[k]? = some (U64 x)) : (part 68 cs k).run Tryd.prog w = .ok (U64 x) w := by
  simp [part, isAgg, Sem.run_bind, run_underlying under_u64 w, h]

theorem run_part_row (w : World) (T : List Nat) (k x y : Nat) (h : T[k]? = some x) (h2 : T[k + 1]? = some y) : (part 70 (cellsT T) k).run Tryd.prog w = .ok (rowV x y) w := by
  obtain ⟨i, hi⟩ := has_info info_row
  have hs := run_sizeOf (P := Tryd.prog) w hi
  rw [cells_row] at hs
  have he : (cellsT T).extract k (k + 2) = #[U64 x, U64 y] := by
    apply Array.ext'
    unfold cellsT
    rw [List.extract_toArray]
    simp only [List.extract_eq_take_drop, Nat.add_sub_cancel_left]
    rw [← List.map_drop, drop_get h, drop_get h2]
    rfl
  simp [part, isAgg, Sem.run_bind, run_underlying under_row w, he, rowV]

set_option maxRecDepth 100000 in
theorem run_equal_row (w : World) (d a b c e : Nat) : (Op.equalIn (d + 2) 70 (rowV a b) (rowV c e)).run Tryd.prog w = .ok (decide (a = c ∧ b = e)) w := by
  obtain ⟨i, hi⟩ := has_info info_u64
  unfold rowV
  rw [run_equalIn_array w (d + 1) _ _ under_row hi, cells_u64]
  have h0 := run_part_u64 w #[U64 a, U64 b] 0 a rfl
  have h1 := run_part_u64 w #[U64 a, U64 b] 1 b rfl
  have h2 := run_part_u64 w #[U64 c, U64 e] 0 c rfl
  have h3 := run_part_u64 w #[U64 c, U64 e] 1 e rfl
  have h4 : (Op.equalIn (d + 1) 68 (U64 a) (U64 c)).run Tryd.prog w = .ok (decide (a = c)) w := by
    unfold U64
    rw [run_equalIn_int w d _ _ .u64 _ _ under_u64]
    congr 1
    rw [Bool.eq_iff_iff]
    simp only [beq_iff_eq, decide_eq_true_eq]
    omega
  have h5 : (Op.equalIn (d + 1) 68 (U64 b) (U64 e)).run Tryd.prog w = .ok (decide (b = e)) w := by
    unfold U64
    rw [run_equalIn_int w d _ _ .u64 _ _ under_u64]
    congr 1
    rw [Bool.eq_iff_iff]
    simp only [beq_iff_eq, decide_eq_true_eq]
    omega
  show (Op.eqItems (d + 1) 68 1 #[U64 a, U64 b] #[U64 c, U64 e] [0, 1]).run Tryd.prog w = _
  simp only [Op.eqItems, Sem.run_bind, Nat.zero_mul, Nat.one_mul, h0, h2, h4, Result.andThen_ok]
  by_cases x : a = c
  · subst x
    by_cases y : b = e
    · subst y
      simp [h1, h5]
    · simp [h1, h3, h5, y]
  · simp [x]

theorem run_eqItems_tab (w : World) (d : Nat) {T W : List Nat} (hT : T.length = 256) (hW : W.length = 256) : ∀ (is : List Nat), (∀ i ∈ is, i < 128) →
    ∃ r : Bool, (Op.eqItems (d + 2) 70 2 (cellsT T) (cellsT W) is).run Tryd.prog w = .ok r w ∧ (r = true ↔ ∀ i ∈ is, T[i * 2]? = W[i * 2]? ∧ T[i * 2 + 1]? = W[i * 2 + 1]?)
  | [], _ => ⟨true, by simp [Op.eqItems], by simp⟩
  | i :: is, h => by
    have hi : i < 128 := h i (List.mem_cons_self ..)
    obtain ⟨r', hr', hiff⟩ := run_eqItems_tab w d hT hW is (fun j hj => h j (List.mem_cons_of_mem _ hj))
    have a1 : T[i * 2]? = some T[i * 2] := List.getElem?_eq_getElem (by omega)
    have a2 : T[i * 2 + 1]? = some T[i * 2 + 1] := List.getElem?_eq_getElem (by omega)
    have b1 : W[i * 2]? = some W[i * 2] := List.getElem?_eq_getElem (by omega)
    have b2 : W[i * 2 + 1]? = some W[i * 2 + 1] := List.getElem?_eq_getElem (by omega)
    have e1 := run_part_row w T (i * 2) _ _ a1 a2
    have e2 := run_part_row w W (i * 2) _ _ b1 b2
    have e3 := run_equal_row w d T[i * 2] T[i * 2 + 1] W[i * 2] W[i * 2 + 1]
    simp only [Op.eqItems, Sem.run_bind, e1, e2, e3, Result.andThen_ok]
    by_cases hc : T[i * 2] = W[i * 2] ∧ T[i * 2 + 1] = W[i * 2 + 1]
    · refine ⟨r', by simpa [hc] using hr', ?_⟩
      rw [hiff]
      simp only [List.mem_cons, forall_eq_or_imp, a1, a2, b1, b2, hc, and_self, true_and]
    · refine ⟨false, by simp [hc], ?_⟩
      simp only [List.mem_cons, forall_eq_or_imp, a1, a2, b1, b2, Option.some.injEq, hc, false_and, Bool.false_eq_true]

set_option maxRecDepth 100000 in
theorem run_eql_tab (w : World) {T W : List Nat} (hT : T.length = 256) (hW : W.length = 256) : (binOp .eql 72 (.agg (cellsT T)) (.agg (cellsT W))).run Tryd.prog w = .ok (.bool (decide (T = W))) w := by
  obtain ⟨i, hi⟩ := has_info info_row
  obtain ⟨r, hr, hiff⟩ := run_eqItems_tab w 9997 hT hW (List.range 128) (fun i hi => List.mem_range.1 hi)
  rw [run_eql_struct, run_equalIn_array w 9999 _ _ under_table hi, cells_row, hr]
  simp only [Result.andThen_ok]
  congr 2
  rw [Bool.eq_iff_iff, hiff, decide_eq_true_iff]
  constructor
  · intro h
    apply List.ext_getElem?
    intro k
    by_cases hk : k < 256
    · have := h (k / 2) (List.mem_range.2 (by omega))
      rcases (show k = k / 2 * 2 ∨ k = k / 2 * 2 + 1 by omega) with e | e
      · rw [e]; exact this.1
      · rw [e]; exact this.2
    · rw [List.getElem?_eq_none (by omega), List.getElem?_eq_none (by omega)]
  · rintro rfl i _
    exact ⟨rfl, rfl⟩

end Go.Proofs.YtcoaabgaolblfaaDoor

/- A table closed: package prec's closed and hasCycle. -/
namespace Go.Proofs.YtcoaabgaolblfaaDoor
open Go.RowKit Go.Maps

set_option maxRecDepth 100000 in
theorem zero_table : (Tryd.prog.info? 72).map (fun i => (i.zero, i.size)) = some (some (.agg (cellsT zeroT)), 256) := by kernel_rfl

theorem run_zero_table (w : World) : (zeroValue 72).run Tryd.prog w = .ok (.agg (cellsT zeroT)) w := (zero_of_info zero_table).1 w

/-- What the words of a block come to. -/
def sumW (w : World) (g : Nat) : Nat :=
  match w.heap[g]? with
  | some (.cells cs _ _) => (cs.toList.map fun v => (intOf v).toNat).sum
  | _ => 0

theorem sumW_tab {t : TypeId} {w : World} {g : Nat} {T : List Nat} (h : Tb t w g T) : sumW w g = T.sum := by
  unfold Tb at h
  unfold sumW
  rw [h]
  simp only [cellsT, List.map_map]
  congr 1
  have : (fun v => (intOf v).toNat) ∘ U64 = id := by
    funext x
    simp [U64, intOf]
  rw [this, List.map_id]

/-- The state of the closing between rounds: T as it was, U as it is, gone through as far as (f, g). -/
structure PCI (B : Nat → Nat → Prop) (T : List Nat) (w : World) (G f g : Nat) (U : List Nat) (wr : World) : Prop where
  tab : Tab U
  mid : Mid B U
  le : LeT T U
  far : FarP T U f g
  t : Tb 72 wr w.heap.size U
  z : Tb 72 wr (w.heap.size + 1) zeroT
  was : Tb 72 wr G T
  gt : w.heap.size + 2 ≤ G
  below : Below w.heap.size w wr

theorem PCI.later {B : Nat → Nat → Prop} {T : List Nat} {w : World} {G f g : Nat} {U : List Nat} {wr w' : World} (h : PCI B T w G f g U wr) (hb : Below wr.heap.size wr w') : PCI B T w G f g U w' :=
  ⟨h.tab, h.mid, h.le, h.far, h.t.later hb, h.z.later hb, h.was.later hb, h.gt, h.below.trans (hb.mono h.below.size)⟩

theorem hasN_row {U : List Nat} {f g a b : Nat} (hg : g < 128) (h1 : U[f * 2]? = some a) (h2 : U[f * 2 + 1]? = some b) : rowHas a b g = hasN U f g := by
  unfold rowHas hasN
  by_cases h : g < 64
  · rw [if_pos h, show 2 * f + g / 64 = f * 2 by omega, h1]
    rfl
  · rw [if_neg h, show 2 * f + g / 64 = f * 2 + 1 by omega, h2]
    rfl

theorem orN_row {U : List Nat} {f g a b c d : Nat} (h1 : U[f * 2]? = some a) (h2 : U[f * 2 + 1]? = some b) (h3 : U[g * 2]? = some c) (h4 : U[g * 2 + 1]? = some d) :
    (U[f * 2]? = some a ∧ U[f * 2 + 1]? = some b ∧ U[g * 2]? = some c ∧ U[g * 2 + 1]? = some d) ∧ (U.set (f * 2) (a ||| c)).set (f * 2 + 1) (b ||| d) = orN U f g := by
  refine ⟨⟨h1, h2, h3, h4⟩, ?_⟩
  unfold orN
  rw [show 2 * f = f * 2 by omega, show 2 * g = g * 2 by omega, h1, h2, h3, h4]
  rfl

theorem pci_or {B : Nat → Nat → Prop} {T : List Nat} {w : World} {G f g a b c d : Nat} {U : List Nat} {wr : World} (h : PCI B T w G f g U wr) (hf : f < 128) (hg : g < 128) (hh : hasN U f g = true) (ho : (U.set (f * 2) (a ||| c)).set (f * 2 + 1) (b ||| d) = orN U f g) (hT : Tab T) :
    PCI B T w G f (g + 1) (orN U f g) ((wr.setCell ⟨w.heap.size, f * 2, none⟩ (.int .u64 ((a ||| c : Nat) : Int))).setCell ⟨w.heap.size, f * 2 + 1, none⟩ (.int .u64 ((b ||| d : Nat) : Int))) := by
  have hG := h.gt
  refine ⟨h.tab.orN f g, h.mid.orN h.tab hf hg hh, h.le.trans (LeT.orN h.tab hf), h.far.orN h.tab hT h.le hf, ?_, ?_, ?_, hG, ?_⟩
  · have := (h.t.set (f * 2) (a ||| c)).set (f * 2 + 1) (b ||| d)
    rw [ho] at this
    exact this
  · exact (h.z.setOther (by omega)).setOther (by omega)
  · exact (h.was.setOther (by omega)).setOther (by omega)
  · exact (h.below.setCell (p := ⟨w.heap.size, f * 2, none⟩) (Nat.le_refl _) _).setCell (p := ⟨w.heap.size, f * 2 + 1, none⟩) (Nat.le_refl _) _

set_option maxRecDepth 100000 in
set_option maxHeartbeats 3200000 in
theorem closed_any (B : Nat → Nat → Prop) (T : List Nat) (w : World) (hT : Tab T) (hM : Mid B T) :
    Calls Tryd.prog 25 #[.agg (cellsT T)] w fun e w' => ∃ U : List Nat, e = .returned (.agg (cellsT U)) ∧ Tab U ∧ ((∀ i j, B i j → TR U i j) ∧ TrP (TR U) ∧ ∀ S : Nat → Nat → Prop, (∀ i j, B i j → S i j) → TrP S → ∀ i j, TR U i j → S i j) ∧ Below w.heap.size w w' := by
  have hz := run_zero_table
  go_enter Tryd.func25, Tryd.ntmps25
  go_wp2
  go_loopw [] (fun wr => ∃ T : List Nat, Tab T ∧ Mid B T ∧ Tb 72 wr w.heap.size T ∧ Tb 72 wr (w.heap.size + 1) zeroT ∧ Below w.heap.size w wr) (fun wr => 256 * 18446744073709551616 - sumW wr w.heap.size)
  case atStart =>
    exact ⟨T, hT, hM, heap_alloc2_old _ _ _, heap_alloc2_new _ _ _, below_step (below_alloc _) (below_alloc _)⟩
  case round =>
    clear hT hM
    obtain ⟨T, hT, hM, h1, h2, hbl⟩ := hrel
    have HT : Hid (Tab T) := hT
    have HM : Hid (Mid B T) := hM
    have H1 : Hid (Tb 72 wr w.heap.size T) := h1
    have H2 : Hid (Tb 72 wr (w.heap.size + 1) zeroT) := h2
    have HB : Hid (Below w.heap.size w wr) := hbl
    clear hT hM h1 h2 hbl
    go_wp2_with (first
      | (refine wpList_load_row rfl _ _ rfl w.heap.size rfl _ _ _ _ H1.out under_table rfl (by rw [info_table, cellsT_size, HT.out.len]) ?_)
      | (refine wpList_store_row rfl _ _ _ rfl wr.heap.size (cellsT T) rfl rfl _ _ (heap_alloc_new _ _) (by rw [info_table, cellsT_size, HT.out.len]) (by rw [cellsT_size, cellsT_size, HT.out.len]; rfl) (cellsT_one _) ?_))
    rw [World.setRow_alloc_new]
    have hst : PCI B T w wr.heap.size 0 0 T (wr.alloc (.cells (cellsT T) 72)) :=
      ⟨HT.out, HM.out, LeT.refl _, FarP.start _, H1.out.later (below_alloc _), H2.out.later (below_alloc _), heap_alloc_new _ _, by have := H2.out.lt; omega, HB.out.trans ((below_alloc _).mono HB.out.size)⟩
    obtain ⟨W1, hW1⟩ : ∃ X, X = wr.alloc (.cells (cellsT T) 72) := ⟨_, rfl⟩
    obtain ⟨G, hG⟩ : ∃ X, X = wr.heap.size := ⟨_, rfl⟩
    have hsum := sumW_tab H1.out
    rw [← hW1, ← hG] at hst ⊢
    have HS : Hid (PCI B T w G 0 0 T W1) := hst
    clear hW1 hst H1 H2 HB HM hG
    go_loopw [7] (fun i wr => ∃ (f : Nat) (U : List Nat), f ≤ 128 ∧ i = .int .i64 f ∧ PCI B T w G f 0 U wr) (fun i _ => 128 - (intOf i).toNat)
    case atStart => exact ⟨0, T, by omega, rfl, HS.out⟩
    case round =>
      obtain ⟨f, U, hf, rfl, hI⟩ := hrel
      have HI : Hid (PCI B T w G f 0 U wr) := hI
      clear hI
      by_cases hf2 : f < 128
      · have hfd : decide ((f : Int) < 128) = true := by simp; omega
        go_wp2
        go_loopw [10] (fun i wr => ∃ (g : Nat) (U : List Nat), g ≤ 128 ∧ i = .int .i64 g ∧ PCI B T w G f g U wr) (fun i _ => 128 - (intOf i).toNat)
        case atStart => exact ⟨0, U, by omega, rfl, HI.out⟩
        case round =>
          obtain ⟨g, U, hg, rfl, hI⟩ := hrel
          have HI2 : Hid (PCI B T w G f g U wr) := hI
          by_cases hg2 : g < 128
          · obtain ⟨a, ha, ha2⟩ := hI.tab.get (k := f * 2) (by omega)
            obtain ⟨b, hb, hb2⟩ := hI.tab.get (k := f * 2 + 1) (by omega)
            have c1 := hI.t.cell ha
            have c2 := hI.t.cell hb
            have hrow := hasN_row hg2 ha hb
            have HR : Hid (U[f * 2]? = some a ∧ U[f * 2 + 1]? = some b ∧ rowHas a b g = hasN U f g) := ⟨ha, hb, hrow⟩
            clear ha hb hrow hI HI
            go_wp2_with fail
            refine (has_any a b g wr ha2 hb2 hg2).mono ?_
            rintro e w2 ⟨rfl, hb3⟩
            rw [HR.out.2.2]
            have HI3 : Hid (PCI B T w G f g U w2) := HI2.out.later hb3
            clear hb3 c1 c2 HI2
            cases hh : hasN U f g with
            | false =>
              go_wp2
              go_roundw
              case rel =>
                have h := HI3.out
                exact ⟨g + 1, U, by omega, by go_num, ⟨h.tab, h.mid, h.le, h.far.skip hh, h.t, h.z, h.was, h.gt, h.below⟩⟩
              case measure => simp [intOf]; omega
            | true =>
              obtain ⟨c, hc, hc2⟩ := HI3.out.tab.get (k := g * 2) (by omega)
              obtain ⟨d, hd, hd2⟩ := HI3.out.tab.get (k := g * 2 + 1) (by omega)
              have c1 := HI3.out.t.cell HR.out.1
              have c2 := HI3.out.t.cell HR.out.2.1
              have c3 := HI3.out.t.cell hc
              have c4 := HI3.out.t.cell hd
              have HO := orN_row HR.out.1 HR.out.2.1 hc hd
              have HO2 := hidP HO
              clear hc hd HO HR
              go_wp2_with fail
              refine wp_region_held_drew (S := fun _ => True) (by kernel_rfl) trivial (fun _ => ?_)
              obtain ⟨w3, hw3⟩ : ∃ X, X = w2.drew := ⟨_, rfl⟩
              have HI4 : Hid (PCI B T w G f g U w3) := by rw [hw3]; exact HI3.out.later (Below.refl _ _).drew
              have c1 := HI4.out.t.cell HO2.out.1.1
              have c2 := HI4.out.t.cell HO2.out.1.2.1
              have c3 := HI4.out.t.cell HO2.out.1.2.2.1
              have c4 := HI4.out.t.cell HO2.out.1.2.2.2
              rw [← hw3]
              clear hw3 HI3
              have hfi : (f : Int) < 128 := by omega
              have hgi : (g : Int) < 128 := by omega
              refine wpAnyH_take (i := 0) (v := .int .i64 (f : Int)) rfl (by kernel_rfl) (by kernel_rfl) (by kernel_rfl) (fun _ _ _ h => h) (Or.inl ⟨by rfl, fun w' h => by go_simp⟩) trivial ?_
              simp only [Act.put, List.setIfInBounds_toArray]
              refine wpAnyH_take (i := 1) (v := .int .i64 (f : Int)) rfl (by kernel_rfl) (by kernel_rfl) (by kernel_rfl) (fun _ _ _ h => h) (Or.inl ⟨by rfl, fun w' h => by go_simp⟩) trivial ?_
              simp only [Act.put]
              refine wpAnyH_take (i := 2) (v := .pointer (some ⟨w.heap.size, f * 2, none⟩)) rfl (by kernel_rfl) (by kernel_rfl) (by kernel_rfl) (fun _ _ _ h => h) (Or.inl ⟨by rfl, fun w' h => by go_simp⟩) trivial ?_
              simp only [Act.put]
              refine wpAnyH_take (i := 4) (v := .int .i64 (g : Int)) rfl (by kernel_rfl) (by kernel_rfl) (by kernel_rfl) (fun _ _ _ h => h) (Or.inl ⟨by rfl, fun w' h => by go_simp⟩) trivial ?_
              simp only [Act.put]
              refine wpAnyH_take (i := 5) (v := .pointer (some ⟨w.heap.size, g * 2, none⟩)) rfl (by kernel_rfl) (by kernel_rfl) (by kernel_rfl) (fun _ _ _ h => h) (Or.inl ⟨by rfl, fun w' h => by go_simp⟩) trivial ?_
              simp only [Act.put]
              refine wpAnyH_ready (rs := [3, 6]) (by kernel_rfl) (by simp) (AllReadyH.cons rfl (fun K hK => ?_) (AllReadyH.cons rfl (fun K hK => ?_) AllReadyH.nil))
              · go_simp
                refine hK.out _ _ trivial (fun hS9 => ?_)
                clear hK K hS9
                try simp only [Act.put]
                refine wpAnyH_ready (rs := [6]) (by kernel_rfl) (by simp) (AllReadyH.cons rfl (fun K hK => ?_) AllReadyH.nil)
                go_simp
                refine hK.out _ _ trivial (fun hS9 => ?_)
                clear hK K hS9
                try simp only [Act.put]
                refine wpAnyH_ready (rs := [7]) (by kernel_rfl) (by simp) (AllReadyH.cons rfl (fun K hK => ?_) AllReadyH.nil)
                go_simp
                refine (withAll_any a b c d w3 ha2 hb2 hc2 hd2).mono ?_
                rintro e w4 ⟨rfl, hb4⟩
                have HI5 : Hid (PCI B T w G f g U w4) := HI4.out.later hb4
                clear c1 c2 c3 c4 hb4
                have c1 := HI5.out.t.cell HO2.out.1.1
                have c2 := HI5.out.t.cell HO2.out.1.2.1
                have c3 := HI5.out.t.frozen (f * 2)
                have c4 := HI5.out.t.frozen (f * 2 + 1)
                unfold rowV U64
                refine hK.out _ _ trivial (fun hS9 => ?_)
                clear hK K hS9
                refine wpAnyH_take (i := 8) (v := .pointer (some ⟨w.heap.size, f * 2, none⟩)) rfl (by kernel_rfl) (by kernel_rfl) (by kernel_rfl) (fun _ _ _ h => h) (Or.inl ⟨by rfl, fun w' h => by go_simp⟩) trivial ?_
                simp only [Act.put]
                refine wpAnyH_ready (rs := [9]) (by kernel_rfl) (by simp) (AllReadyH.cons rfl (fun K hK => ?_) AllReadyH.nil)
                go_simp
                refine hK.out _ _ trivial (fun hS9 => ?_)
                clear hK K hS9
                refine wpAnyH_done (by kernel_rfl) ?_ _
                have HJ := hidP (pci_or HI5.out hf2 hg2 hh HO2.out.2 HT.out)
                clear c1 c2 c3 c4 HI5 HI4 HO2
                go_wp2
                go_roundw
                case rel => exact ⟨g + 1, _, by omega, by go_num, HJ.out⟩
                case measure => simp [intOf]; omega
              · go_simp
                refine hK.out _ _ trivial (fun hS9 => ?_)
                clear hK K hS9
                try simp only [Act.put]
                refine wpAnyH_ready (rs := [3]) (by kernel_rfl) (by simp) (AllReadyH.cons rfl (fun K hK => ?_) AllReadyH.nil)
                go_simp
                refine hK.out _ _ trivial (fun hS9 => ?_)
                clear hK K hS9
                try simp only [Act.put]
                refine wpAnyH_ready (rs := [7]) (by kernel_rfl) (by simp) (AllReadyH.cons rfl (fun K hK => ?_) AllReadyH.nil)
                go_simp
                refine (withAll_any a b c d w3 ha2 hb2 hc2 hd2).mono ?_
                rintro e w4 ⟨rfl, hb4⟩
                have HI5 : Hid (PCI B T w G f g U w4) := HI4.out.later hb4
                clear c1 c2 c3 c4 hb4
                have c1 := HI5.out.t.cell HO2.out.1.1
                have c2 := HI5.out.t.cell HO2.out.1.2.1
                have c3 := HI5.out.t.frozen (f * 2)
                have c4 := HI5.out.t.frozen (f * 2 + 1)
                unfold rowV U64
                refine hK.out _ _ trivial (fun hS9 => ?_)
                clear hK K hS9
                refine wpAnyH_take (i := 8) (v := .pointer (some ⟨w.heap.size, f * 2, none⟩)) rfl (by kernel_rfl) (by kernel_rfl) (by kernel_rfl) (fun _ _ _ h => h) (Or.inl ⟨by rfl, fun w' h => by go_simp⟩) trivial ?_
                simp only [Act.put]
                refine wpAnyH_ready (rs := [9]) (by kernel_rfl) (by simp) (AllReadyH.cons rfl (fun K hK => ?_) AllReadyH.nil)
                go_simp
                refine hK.out _ _ trivial (fun hS9 => ?_)
                clear hK K hS9
                refine wpAnyH_done (by kernel_rfl) ?_ _
                have HJ := hidP (pci_or HI5.out hf2 hg2 hh HO2.out.2 HT.out)
                clear c1 c2 c3 c4 HI5 HI4 HO2
                go_wp2
                go_roundw
                case rel => exact ⟨g + 1, _, by omega, by go_num, HJ.out⟩
                case measure => simp [intOf]; omega
          · obtain rfl : g = 128 := by omega
            clear hI HI
            go_wp2
            go_roundw
            case rel =>
              have h := HI2.out
              exact ⟨f + 1, U, by omega, by go_num, ⟨h.tab, h.mid, h.le, h.far.row, h.t, h.z, h.was, h.gt, h.below⟩⟩
            case measure => simp [intOf]; omega
      · obtain rfl : f = 128 := by omega
        have e1 := fun w => run_eql_tab w HI.out.tab.len HT.out.len
        by_cases hUT : U = T
        · subst hUT
          go_wp2_with (first
            | (refine wpList_load_row rfl _ _ rfl w.heap.size rfl _ _ _ _ HI.out.t under_table rfl (by rw [info_table, cellsT_size, HI.out.tab.len]) ?_)
            | (refine wpList_load_row rfl _ _ rfl G rfl _ _ _ _ HI.out.was under_table rfl (by rw [info_table, cellsT_size, HT.out.len]) ?_)
            | (refine wpList_store_row rfl _ _ _ rfl (w.heap.size + 1) (cellsT U) rfl rfl _ _ HI.out.z (by rw [info_table, cellsT_size, HT.out.len]) (by rw [cellsT_size, cellsT_size, HT.out.len]; rfl) (cellsT_one _) ?_))
          refine bodyPost_ret (results_cell_row rfl _ _ (w.heap.size + 1) _ (cellsT U) (0, 0) _ rfl (setRow_heap wr _ _ _ _ _ HI.out.z) under_table rfl (by rw [info_table, cellsT_size, HT.out.len])) rfl ?_
          exact ⟨U, rfl, HT.out, HI.out.mid.closed HI.out.far, below_setRow HI.out.below (by omega)⟩
        · go_wp2_with (first
            | (refine wpList_load_row rfl _ _ rfl w.heap.size rfl _ _ _ _ HI.out.t under_table rfl (by rw [info_table, cellsT_size, HI.out.tab.len]) ?_)
            | (refine wpList_load_row rfl _ _ rfl G rfl _ _ _ _ HI.out.was under_table rfl (by rw [info_table, cellsT_size, HT.out.len]) ?_))
          refine ⟨⟨U, HI.out.tab, HI.out.mid, HI.out.t, HI.out.z, HI.out.below⟩, ?_⟩
          rw [hsum, sumW_tab HI.out.t]
          have h1 := sum_lt HT.out HI.out.tab HI.out.le (fun e => hUT e.symm)
          have h2 := HI.out.tab.sum
          omega

end Go.Proofs.YtcoaabgaolblfaaDoor
