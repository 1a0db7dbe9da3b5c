/- Plain arithmetic: rows of limbs of 32 bits and the number that they are; no Go in it. -/
namespace Go.Proofs.Ytfifgmcjilkigaa

/-- What a row of limbs is worth, the lowest first. -/
def val : List Nat → Nat
  | [] => 0
  | x :: r => x + 4294967296 * val r

/-- Each limb is below 2^32. -/
def Lim (xs : List Nat) : Prop := ∀ x ∈ xs, x < 4294967296

/-- The limbs of a number (the first number counts the steps). -/
def limbsF : Nat → Nat → List Nat
  | 0, _ => []
  | f + 1, n => if n = 0 then [] else (n % 4294967296) :: limbsF f (n / 4294967296)
def limbs (n : Nat) : List Nat := limbsF n n

theorem limbsF_any (n : Nat) : ∀ f f', n ≤ f → n ≤ f' → limbsF f n = limbsF f' n := by
  induction n using Nat.strongRecOn with
  | _ n ih =>
    intro f f' h h'
    cases f with
    | zero =>
      obtain rfl : n = 0 := by omega
      cases f' with
      | zero => rfl
      | succ f' => simp [limbsF]
    | succ f => cases f' with
      | zero =>
        obtain rfl : n = 0 := by omega
        simp [limbsF]
      | succ f' =>
        simp only [limbsF]
        by_cases h0 : n = 0
        · simp [h0]
        · rw [if_neg h0, if_neg h0, ih (n / 4294967296) (by omega) f f' (by omega) (by omega)]

theorem limbs_zero : limbs 0 = [] := rfl
theorem limbs_pos {n : Nat} (h : n ≠ 0) : limbs n = (n % 4294967296) :: limbs (n / 4294967296) := by
  unfold limbs
  cases n with
  | zero => exact absurd rfl h
  | succ n => rw [limbsF, if_neg h, limbsF_any ((n + 1) / 4294967296) n ((n + 1) / 4294967296) (by omega) (by omega)]

theorem Lim.nil : Lim [] := by intro x h; cases h
theorem Lim.cons {x : Nat} {r : List Nat} (h : x < 4294967296) (hr : Lim r) : Lim (x :: r) := by
  intro y hy
  rcases List.mem_cons.1 hy with rfl | hy
  · exact h
  · exact hr y hy
theorem Lim.head {x : Nat} {r : List Nat} (h : Lim (x :: r)) : x < 4294967296 := h x (by simp)
theorem Lim.tail {x : Nat} {r : List Nat} (h : Lim (x :: r)) : Lim r := fun y hy => h y (by simp [hy])
theorem Lim.take {xs : List Nat} (h : Lim xs) (k : Nat) : Lim (xs.take k) := fun y hy => h y (List.mem_of_mem_take hy)
theorem Lim.append {xs ys : List Nat} (h : Lim xs) (k : Lim ys) : Lim (xs ++ ys) := by
  intro y hy
  rcases List.mem_append.1 hy with hy | hy
  · exact h y hy
  · exact k y hy
theorem Lim.get {xs : List Nat} (h : Lim xs) {k x : Nat} (hk : xs[k]? = some x) : x < 4294967296 := h x (List.mem_of_getElem? hk)

theorem limbs_lim (n : Nat) : Lim (limbs n) := by
  induction n using Nat.strongRecOn with
  | _ n ih =>
    by_cases h : n = 0
    · subst h; rw [limbs_zero]; exact Lim.nil
    · rw [limbs_pos h]; exact Lim.cons (Nat.mod_lt _ (by omega)) (ih _ (by omega))

theorem val_limbs (n : Nat) : val (limbs n) = n := by
  induction n using Nat.strongRecOn with
  | _ n ih =>
    by_cases h : n = 0
    · subst h; rw [limbs_zero]; rfl
    · rw [limbs_pos h, val, ih _ (by omega)]; omega

theorem val_snoc (xs : List Nat) (x : Nat) : val (xs ++ [x]) = val xs + 4294967296 ^ xs.length * x := by
  induction xs with
  | nil => simp [val]
  | cons y r ih => simp only [List.cons_append, val, ih, List.length_cons, Nat.pow_succ, Nat.mul_add]; rw [Nat.mul_comm (4294967296 ^ r.length) 4294967296, Nat.mul_assoc, Nat.add_assoc]

theorem val_append (xs ys : List Nat) : val (xs ++ ys) = val xs + 4294967296 ^ xs.length * val ys := by
  induction xs with
  | nil => simp [val]
  | cons y r ih => simp only [List.cons_append, val, ih, List.length_cons, Nat.pow_succ, Nat.mul_add]; rw [Nat.mul_comm (4294967296 ^ r.length) 4294967296, Nat.mul_assoc, Nat.add_assoc]

theorem val_lt {xs : List Nat} (h : Lim xs) : val xs < 4294967296 ^ xs.length := by
  induction xs with
  | nil => simp [val]
  | cons y r ih =>
    have h1 := h.head
    have h2 := ih h.tail
    simp only [val, List.length_cons, Nat.pow_succ]
    have : 4294967296 * val r + 4294967296 ≤ 4294967296 ^ r.length * 4294967296 := by
      rw [Nat.mul_comm (4294967296 ^ r.length)]; have := Nat.mul_le_mul_left 4294967296 h2; omega
    omega

/-- Noughts taken off the top. -/
def trimL (xs : List Nat) : List Nat := limbs (val xs)

theorem limbs_cons {x : Nat} {r : List Nat} (hx : x < 4294967296) (h : val (x :: r) ≠ 0) : limbs (val (x :: r)) = x :: limbs (val r) := by
  rw [limbs_pos h]; simp only [val]; rw [show (x + 4294967296 * val r) % 4294967296 = x by omega, show (x + 4294967296 * val r) / 4294967296 = val r by omega]

/-- A row whose last limb isn't 0 is its number's limbs. -/
theorem limbs_val_of_last {xs : List Nat} (h : Lim xs) (hl : ∀ x, xs.getLast? = some x → x ≠ 0) : limbs (val xs) = xs := by
  induction xs with
  | nil => simp [val, limbs_zero]
  | cons y r ih =>
    have hr : limbs (val r) = r := by
      apply ih h.tail
      intro x hx
      apply hl x
      cases r with
      | nil => simp at hx
      | cons z s => rw [List.getLast?_cons_cons]; exact hx
    have hne : val (y :: r) ≠ 0 := by
      cases r with
      | nil => have := hl y (by simp); simp [val]; omega
      | cons z s =>
        intro h0
        simp only [val] at h0
        have h00 : val (z :: s) = 0 := by simp only [val]; omega
        rw [h00, limbs_zero] at hr
        cases hr
    rw [limbs_cons h.head hne, hr]

theorem getLast?_limbs {n x : Nat} (h : (limbs n).getLast? = some x) : x ≠ 0 := by
  induction n using Nat.strongRecOn generalizing x with
  | _ n ih =>
    by_cases h0 : n = 0
    · subst h0; rw [limbs_zero] at h; simp at h
    · rw [limbs_pos h0] at h
      by_cases h1 : n / 4294967296 = 0
      · rw [h1, limbs_zero] at h; simp at h; omega
      · have : limbs (n / 4294967296) ≠ [] := by rw [limbs_pos h1]; simp
        cases hr : limbs (n / 4294967296) with
        | nil => exact absurd hr this
        | cons z s => rw [hr, List.getLast?_cons_cons, ← hr] at h; exact ih _ (by omega) h

/-- Noughts behind a row change nothing. -/
theorem val_snoc_zero (xs : List Nat) : val (xs ++ [0]) = val xs := by rw [val_snoc]; simp
theorem val_replicate_zero (n : Nat) : val (List.replicate n 0) = 0 := by
  induction n with
  | zero => rfl
  | succ n ih => simp [List.replicate_succ, val, ih]

/-- Which rows are naturals. -/
def lastN (xs : List Nat) : Nat := xs.getLast?.getD 0
def rightB (xs : List Nat) : Bool := decide (xs.length ≤ 64) && (xs.length == 0 || !(lastN xs == 0))

theorem limbs_val_of_right {xs : List Nat} (h : Lim xs) (hr : rightB xs = true) : limbs (val xs) = xs := by
  apply limbs_val_of_last h
  intro x hx
  unfold rightB lastN at hr
  rw [hx] at hr
  cases xs with
  | nil => simp at hx
  | cons y r => simp at hr; exact hr.2

theorem length_le_of_right {xs : List Nat} (hr : rightB xs = true) : xs.length ≤ 64 := by unfold rightB at hr; simp at hr; exact hr.1

theorem rightB_limbs (n : Nat) : rightB (limbs n) = decide ((limbs n).length ≤ 64) := by
  unfold rightB lastN
  cases h : (limbs n).getLast? with
  | none => rw [List.getLast?_eq_none_iff] at h; simp [h]
  | some x => have := getLast?_limbs h; simp [this]

theorem take_snoc? {xs : List Nat} {k x : Nat} (h : xs[k]? = some x) : xs.take (k + 1) = xs.take k ++ [x] := by
  obtain ⟨hk, rfl⟩ := List.getElem?_eq_some_iff.1 h
  exact List.take_succ_eq_append_getElem hk

theorem drop_cons? {xs : List Nat} {k x : Nat} (h : xs[k]? = some x) : xs.drop k = x :: xs.drop (k + 1) := by
  obtain ⟨hk, rfl⟩ := List.getElem?_eq_some_iff.1 h
  exact List.drop_eq_getElem_cons hk

theorem trim_step {xs : List Nat} {k : Nat} (h0 : 0 < k) (h1 : k ≤ xs.length) (hx : xs[k - 1]? = some 0) : val (xs.take (k - 1)) = val (xs.take k) := by
  have : xs.take k = xs.take (k - 1) ++ [0] := by
    have h2 := List.take_succ_eq_append_getElem (l := xs) (i := k - 1) (by omega)
    rw [show k - 1 + 1 = k by omega] at h2
    rw [h2]
    have h3 := List.getElem?_eq_getElem (l := xs) (i := k - 1) (by omega)
    rw [hx] at h3
    simp at h3
    rw [← h3]
  rw [this, val_snoc_zero]

theorem trim_done {xs : List Nat} {k : Nat} (hl : Lim xs) (hv : val (xs.take k) = val xs) (h1 : k ≤ xs.length) (hx : k = 0 ∨ ∃ x, xs[k - 1]? = some x ∧ x ≠ 0) : limbs (val xs) = xs.take k := by
  rw [← hv]
  apply limbs_val_of_last (hl.take k)
  intro x hx'
  rcases hx with rfl | ⟨y, hy, hy0⟩
  · simp at hx'
  · rw [List.getLast?_eq_getElem?, List.length_take, Nat.min_eq_left h1] at hx'
    by_cases hk : k = 0
    · subst hk; simp at hx'
    · rw [List.getElem?_take_of_lt (by omega), hy] at hx'
      simp at hx'; omega

theorem val_split {xs : List Nat} {k x : Nat} (h : xs[k]? = some x) : val xs = val (xs.take k) + 4294967296 ^ k * (x + 4294967296 * val (xs.drop (k + 1))) := by
  obtain ⟨hk, rfl⟩ := List.getElem?_eq_some_iff.1 h
  have h1 := val_append (xs.take k) (xs.drop k)
  rw [List.take_append_drop, List.length_take, Nat.min_eq_left (by omega), List.drop_eq_getElem_cons hk] at h1
  exact h1

theorem val_lt_at {xs ys : List Nat} {k x y : Nat} (hl : Lim xs) (hx : xs[k]? = some x) (hy : ys[k]? = some y) (hd : xs.drop (k + 1) = ys.drop (k + 1)) (h : x < y) : val xs < val ys := by
  rw [val_split hx, val_split hy, hd]
  have h1 := val_lt (hl.take k)
  rw [List.length_take, Nat.min_eq_left (by have := (List.getElem?_eq_some_iff.1 hx).1; omega)] at h1
  have h2 : 4294967296 ^ k * (x + 1 + 4294967296 * val (ys.drop (k + 1))) ≤ 4294967296 ^ k * (y + 4294967296 * val (ys.drop (k + 1))) := Nat.mul_le_mul_left _ (by omega)
  have h3 : 4294967296 ^ k * (x + 1 + 4294967296 * val (ys.drop (k + 1))) = 4294967296 ^ k * (x + 4294967296 * val (ys.drop (k + 1))) + 4294967296 ^ k := by
    rw [show x + 1 + 4294967296 * val (ys.drop (k + 1)) = (x + 4294967296 * val (ys.drop (k + 1))) + 1 by omega, Nat.mul_add, Nat.mul_one]
  omega

theorem length_limbs_mono {a b : Nat} (h : a ≤ b) : (limbs a).length ≤ (limbs b).length := by
  induction b using Nat.strongRecOn generalizing a with
  | _ b ih =>
    by_cases ha : a = 0
    · subst ha; rw [limbs_zero]; simp
    · rw [limbs_pos ha, limbs_pos (show b ≠ 0 by omega)]
      simp only [List.length_cons]
      have := ih (b / 4294967296) (by omega) (a := a / 4294967296) (by omega)
      omega

theorem val_lt_of_length {xs ys : List Nat} (hx : limbs (val xs) = xs) (hy : limbs (val ys) = ys) (h : xs.length < ys.length) : val xs < val ys := by
  apply Nat.lt_of_not_le
  intro hle
  have := length_limbs_mono hle
  rw [hx, hy] at this
  omega

/-- A limb laid into a row. -/
theorem val_set {Z : List Nat} {k z t : Nat} (h : Z[k]? = some z) : val (Z.set k t) + 4294967296 ^ k * z = val Z + 4294967296 ^ k * t := by
  induction Z generalizing k with
  | nil => simp at h
  | cons y r ih =>
    cases k with
    | zero => simp at h; subst h; simp [val]; omega
    | succ k =>
      simp only [List.getElem?_cons_succ] at h
      have := ih h
      simp only [List.set_cons_succ, val, Nat.pow_succ]
      rw [Nat.mul_comm (4294967296 ^ k) 4294967296, Nat.mul_assoc, Nat.mul_assoc]
      omega

/-- One step of multiplying. -/
theorem mul_step {Z : List Nat} {P i j C x y z D : Nat} (hz : Z[i + j]? = some z) (h : val Z + 4294967296 ^ (i + j) * C = P + 4294967296 ^ i * (x * D)) :
    val (Z.set (i + j) ((C + (x * y + z)) % 4294967296)) + 4294967296 ^ (i + (j + 1)) * ((C + (x * y + z)) / 4294967296) = P + 4294967296 ^ i * (x * (D + 4294967296 ^ j * y)) := by
  have h1 := val_set (t := (C + (x * y + z)) % 4294967296) hz
  have h2 : 4294967296 ^ (i + j) * ((C + (x * y + z)) % 4294967296) + 4294967296 ^ (i + (j + 1)) * ((C + (x * y + z)) / 4294967296) = 4294967296 ^ (i + j) * (C + (x * y + z)) := by
    rw [show i + (j + 1) = i + j + 1 by omega, Nat.pow_succ, Nat.mul_assoc, ← Nat.mul_add, Nat.mod_add_div]
  have h3 : 4294967296 ^ (i + j) * (C + (x * y + z)) = 4294967296 ^ (i + j) * C + 4294967296 ^ i * (x * (4294967296 ^ j * y)) + 4294967296 ^ (i + j) * z := by
    rw [Nat.mul_add, Nat.mul_add, Nat.add_assoc]
    congr 2
    rw [Nat.pow_add]
    simp only [Nat.mul_assoc, Nat.mul_left_comm, Nat.mul_comm]
  rw [Nat.mul_add x, Nat.mul_add (4294967296 ^ i)]
  omega

theorem mul_prod_le {x y : Nat} (hx : x < 4294967296) (hy : y < 4294967296) : x * y ≤ 18446744065119617025 := by
  have := Nat.mul_le_mul (show x ≤ 4294967295 by omega) (show y ≤ 4294967295 by omega)
  simpa using this

theorem mul_prod_leI {x y : Nat} (hx : x < 4294967296) (hy : y < 4294967296) : (x : Int) * (y : Int) ≤ 18446744065119617025 ∧ 0 ≤ (x : Int) * (y : Int) := by
  have := mul_prod_le hx hy
  rw [← Int.natCast_mul]
  omega

theorem mul_last {Z : List Nat} {P i m C x D E : Nat} (hz : Z[i + m]? = some 0) (h : val Z + 4294967296 ^ (i + m) * C = P * D + 4294967296 ^ i * (x * D)) (hE : E = P + 4294967296 ^ i * x) :
    val (Z.set (i + m) C) = E * D := by
  have h1 := val_set (t := C) hz
  subst hE
  rw [Nat.add_mul, Nat.mul_assoc]
  omega

/-- One step of dividing by ten, from the top. -/
theorem div_step {xs Q : List Nat} {k R x : Nat} (hx : xs[k]? = some x) (h : val (xs.drop (k + 1)) = 10 * val Q + R) :
    val (xs.drop k) = 10 * val ((R * 4294967296 + x) / 10 :: Q) + (R * 4294967296 + x) % 10 := by
  rw [drop_cons? hx]
  simp only [val]
  omega

/-- One step of adding. -/
theorem add_step {X Y : Nat} {L : List Nat} {k c x y : Nat} (hk : L.length = k) (h : val L + 4294967296 ^ k * c = X + Y) :
    val (L ++ [(c + x + y) % 4294967296]) + 4294967296 ^ (k + 1) * ((c + x + y) / 4294967296) = (X + 4294967296 ^ k * x) + (Y + 4294967296 ^ k * y) := by
  rw [val_snoc, hk, Nat.pow_succ, Nat.mul_assoc, Nat.add_assoc, ← Nat.mul_add, Nat.mod_add_div]
  rw [Nat.mul_add, Nat.mul_add]
  omega

/-- A number's digits, the lowest first (the first number counts the steps). -/
def tensF : Nat → Nat → List Nat
  | 0, _ => []
  | f + 1, n => if n = 0 then [] else (n % 10) :: tensF f (n / 10)
def tens (n : Nat) : List Nat := tensF n n

theorem tensF_any (n : Nat) : ∀ f f', n ≤ f → n ≤ f' → tensF f n = tensF f' n := by
  induction n using Nat.strongRecOn with
  | _ n ih =>
    intro f f' h h'
    cases f with
    | zero =>
      obtain rfl : n = 0 := by omega
      cases f' with
      | zero => rfl
      | succ f' => simp [tensF]
    | succ f => cases f' with
      | zero =>
        obtain rfl : n = 0 := by omega
        simp [tensF]
      | succ f' =>
        simp only [tensF]
        by_cases h0 : n = 0
        · simp [h0]
        · rw [if_neg h0, if_neg h0, ih (n / 10) (by omega) f f' (by omega) (by omega)]

theorem tens_zero : tens 0 = [] := rfl
theorem tens_pos {n : Nat} (h : n ≠ 0) : tens n = (n % 10) :: tens (n / 10) := by
  unfold tens
  cases n with
  | zero => exact absurd rfl h
  | succ n => rw [tensF, if_neg h, tensF_any ((n + 1) / 10) n ((n + 1) / 10) (by omega) (by omega)]

theorem tens_length_le {n k : Nat} (h : n < 10 ^ k) : (tens n).length ≤ k := by
  induction k generalizing n with
  | zero => simp at h; subst h; rw [tens_zero]; simp
  | succ k ih =>
    by_cases h0 : n = 0
    · subst h0; rw [tens_zero]; simp
    · rw [tens_pos h0]
      have := ih (n := n / 10) (by rw [Nat.pow_succ] at h; omega)
      simp; omega

theorem tens_length_limbs {xs : List Nat} (h : Lim xs) : (tens (val xs)).length ≤ 10 * xs.length := by
  apply tens_length_le
  have h1 := val_lt h
  have h2 : 4294967296 ^ xs.length ≤ (10 ^ 10) ^ xs.length := Nat.pow_le_pow_left (by decide) _
  rw [← Nat.pow_mul] at h2
  omega

theorem limbs_length_pos {n : Nat} (h : n ≠ 0) : 0 < (limbs n).length := by rw [limbs_pos h]; simp

/-- A digit's letter, and a number's text. -/
def letter (d : Nat) : UInt8 := UInt8.ofNat (48 + d)
def dec (n : Nat) : List UInt8 := if n = 0 then [48] else (tens n).reverse.map letter
def textS (xs : List Nat) : List UInt8 := if rightB xs then dec (val xs) else []
def textE (xs : List Nat) : Int := if rightB xs then 0 else 10

theorem letter_toNat {d : Nat} (h : d < 10) : (letter d).toNat = 48 + d := by unfold letter; simp [UInt8.toNat_ofNat']; omega

theorem val_inj {a b : List Nat} (ha : Lim a) (hb : Lim b) (hl : a.length = b.length) (hv : val a = val b) : a = b := by
  induction a generalizing b with
  | nil => cases b with
    | nil => rfl
    | cons y r => simp at hl
  | cons x s ih => cases b with
    | nil => simp at hl
    | cons y r =>
      have hx := ha.head
      have hy := hb.head
      simp only [val] at hv
      have h1 : x = y := by omega
      have h2 : val s = val r := by omega
      rw [h1, ih ha.tail hb.tail (by simpa using hl) h2]

theorem length_limbs_le {n k : Nat} (h : n < 4294967296 ^ k) : (limbs n).length ≤ k := by
  induction k generalizing n with
  | zero => simp at h; subst h; rw [limbs_zero]; simp
  | succ k ih =>
    by_cases h0 : n = 0
    · subst h0; rw [limbs_zero]; simp
    · rw [limbs_pos h0]
      have := ih (n := n / 4294967296) (by rw [Nat.pow_succ] at h; omega)
      simp; omega

theorem limbs_of_length {Z : List Nat} {m : Nat} (hZ : Lim Z) (hl : Z.length = (limbs m).length) (hv : m ≤ val Z) : limbs (val Z) = Z := by
  have h1 := length_limbs_le (val_lt hZ)
  have h2 := length_limbs_mono hv
  exact val_inj (limbs_lim _) hZ (by omega) (val_limbs _)

/-- One step of ten times a number and a digit. -/
theorem ten_step {X : Nat} {L : List Nat} {k c x d : Nat} (hk : L.length = k) (h : val L + 4294967296 ^ k * c = 10 * X + d) :
    val (L ++ [(c + x * 10) % 4294967296]) + 4294967296 ^ (k + 1) * ((c + x * 10) / 4294967296) = 10 * (X + 4294967296 ^ k * x) + d := by
  rw [val_snoc, hk, Nat.pow_succ, Nat.mul_assoc, Nat.add_assoc, ← Nat.mul_add, Nat.mod_add_div]
  rw [Nat.mul_add, Nat.mul_add, ← Nat.mul_assoc]
  omega

/-- Texts of numbers. -/
def isDigit (c : UInt8) : Bool := decide (48 ≤ c.toNat ∧ c.toNat ≤ 57)
def numB (s : List UInt8) : Bool := !(s.length == 0) && !(decide (1 < s.length) && s.headD 0 == 48) && s.all isDigit
def numV (s : List UInt8) : Nat := s.foldl (fun m c => 10 * m + (c.toNat - 48)) 0

theorem numV_snoc (s : List UInt8) (c : UInt8) : numV (s ++ [c]) = 10 * numV s + (c.toNat - 48) := by unfold numV; rw [List.foldl_append]; rfl

theorem foldl_ge (t : List UInt8) (m : Nat) : m ≤ t.foldl (fun m c => 10 * m + (c.toNat - 48)) m := by
  induction t generalizing m with
  | nil => exact Nat.le_refl _
  | cons c t ih => exact Nat.le_trans (by omega) (ih (10 * m + (c.toNat - 48)))

theorem numV_take_le (s : List UInt8) (k : Nat) : numV (s.take k) ≤ numV s := by
  have h := foldl_ge (s.drop k) (numV (s.take k))
  have e : numV s = (s.drop k).foldl (fun m c => 10 * m + (c.toNat - 48)) (numV (s.take k)) := by
    unfold numV
    rw [← List.foldl_append, List.take_append_drop]
  omega

/-- An answer of reckoning: the limbs, or nothing where there are too many; and its error's number. -/
def resL (n : Nat) : List Nat := if (limbs n).length ≤ 64 then limbs n else []
def resE (n : Nat) : Int := if (limbs n).length ≤ 64 then 0 else 2

def addL (xs ys : List Nat) : List Nat := if rightB xs && rightB ys then resL (val xs + val ys) else []
def addE (xs ys : List Nat) : Int := if rightB xs && rightB ys then resE (val xs + val ys) else 10
def mulL (xs ys : List Nat) : List Nat := if rightB xs && rightB ys then resL (val xs * val ys) else []
def mulE (xs ys : List Nat) : Int := if rightB xs && rightB ys then resE (val xs * val ys) else 10
def cmpI (a b : Nat) : Int := if a < b then -1 else if b < a then 1 else 0
theorem cmpI_lt {a b : Nat} (h : a < b) : cmpI a b = -1 := by unfold cmpI; rw [if_pos h]
theorem cmpI_gt {a b : Nat} (h : b < a) : cmpI a b = 1 := by unfold cmpI; rw [if_neg (by omega), if_pos h]
theorem cmpI_eq (a : Nat) : cmpI a a = 0 := by unfold cmpI; rw [if_neg (by omega), if_neg (by omega)]
def cmpV (xs ys : List Nat) : Int := if rightB xs && rightB ys then cmpI (val xs) (val ys) else 0
def cmpE (xs ys : List Nat) : Int := if rightB xs && rightB ys then 0 else 10

def parseL (s : List UInt8) : List Nat := if numB s then resL (numV s) else []
def parseE (s : List UInt8) : Int := if numB s then resE (numV s) else 11

end Go.Proofs.Ytfifgmcjilkigaa
