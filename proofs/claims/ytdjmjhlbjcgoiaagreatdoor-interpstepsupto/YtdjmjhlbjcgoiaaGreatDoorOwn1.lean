/- Texts of the proof, one behind the other. -/
import Derived.Test.YtdjmjhlbjcgoiaaGreatDoorProg
import Derived.WalkKit
import Derived.WalkSpells
import Derived.WalkLawsBesides
import Derived.Deep.QuietTactic
import Derived.BigQuiet
import Derived.Laws.CopyOwn
import Derived.Laws.IdiomCopy
import Derived.Deep.RegionHeldLaw
import Derived.Maps.AppendAt
import Derived.Maps.Own
import Derived.Maps.OwnOps
import Derived.Maps.OwnSet
import Derived.Deep.Upon
import Derived.Deep.Quiet
import Derived.WalkSmall
set_option maxRecDepth 1000000
set_option maxHeartbeats 6400000
namespace Go.Proofs.YtdjmjhlbjcgoiaaGreatDoor
def val : List Nat → Nat
 | [] => 0
 | x :: r => x + 4294967296 * val r
def Lim (xs : List Nat) : Prop := ∀ x ∈ xs, x < 4294967296
def limbsF : Nat → Nat → List Nat
 | 0, _ => []
 | f + 1, n => if n = 0 then [] else (n % 4294967296) :: limbsF f (n / 4294967296)
def limbs (n : Nat) : List Nat := limbsF n n
theorem limbsF_any (n : Nat) : ∀ f f', n ≤ f → n ≤ f' → limbsF f n = limbsF f' n := by
 induction n using Nat.strongRecOn with
 | _ n ih =>
  intro f f' h h'
  cases f with
  | zero =>
   obtain rfl : n = 0 := by omega
   cases f' with
   | zero => rfl
   | succ f' => simp [limbsF]
  | succ f => cases f' with
   | zero =>
    obtain rfl : n = 0 := by omega
    simp [limbsF]
   | succ f' =>
    simp only [limbsF]
    by_cases h0 : n = 0
    ·simp [h0]
    rw [if_neg h0, if_neg h0, ih (n / 4294967296) (by omega) f f' (by omega) (by omega)]
theorem xBK : limbs 0 = [] := rfl
theorem xCS {n : Nat} (h : n ≠ 0) : limbs n = (n % 4294967296) :: limbs (n / 4294967296) := by
 unfold limbs
 cases n with
 | zero => exact absurd rfl h
 | succ n => rw [limbsF, if_neg h, limbsF_any ((n + 1) / 4294967296) n ((n + 1) / 4294967296) (by omega) (by omega)]
theorem Lim.nil : Lim [] := by intro x h; cases h
theorem Lim.cons {x : Nat} {r : List Nat} (h : x < 4294967296) (hr : Lim r) : Lim (x :: r) := by
 intro y hy
 rcases List.mem_cons.1 hy with rfl | hy
 ·exact h
 exact hr y hy
theorem Lim.head {x : Nat} {r : List Nat} (h : Lim (x :: r)) : x < 4294967296 := h x (by simp)
theorem Lim.tail {x : Nat} {r : List Nat} (h : Lim (x :: r)) : Lim r := fun y hy => h y (by simp [hy])
theorem Lim.take {xs : List Nat} (h : Lim xs) (k : Nat) : Lim (xs.take k) := fun y hy => h y (List.mem_of_mem_take hy)
theorem Lim.append {xs ys : List Nat} (h : Lim xs) (k : Lim ys) : Lim (xs ++ ys) := by
 intro y hy
 rcases List.mem_append.1 hy with hy | hy
 ·exact h y hy
 exact k y hy
theorem Lim.get {xs : List Nat} (h : Lim xs) {k x : Nat} (hk : xs[k]? = some x) : x < 4294967296 := h x (List.mem_of_getElem? hk)
theorem xCT (n : Nat) : Lim (limbs n) := by
 induction n using Nat.strongRecOn with
 | _ n ih =>
  by_cases h : n = 0
  ·subst h; rw [xBK]; exact Lim.nil
  rw [xCS h]; exact Lim.cons (Nat.mod_lt _ (by omega)) (ih _ (by omega))
theorem val_limbs (n : Nat) : val (limbs n) = n := by
 induction n using Nat.strongRecOn with
 | _ n ih =>
  by_cases h : n = 0
  ·subst h; rw [xBK]; rfl
  rw [xCS h, val, ih _ (by omega)]; omega
theorem xBU (xs : List Nat) (x : Nat) : val (xs ++ [x]) = val xs + 4294967296 ^ xs.length * x := by
 induction xs with
 | nil => simp [val]
 | cons y r ih => simp only [List.cons_append, val, ih, List.length_cons, Nat.pow_succ, Nat.mul_add]; rw [Nat.mul_comm (4294967296 ^ r.length) 4294967296, Nat.mul_assoc, Nat.add_assoc]
theorem val_append (xs ys : List Nat) : val (xs ++ ys) = val xs + 4294967296 ^ xs.length * val ys := by
 induction xs with
 | nil => simp [val]
 | cons y r ih => simp only [List.cons_append, val, ih, List.length_cons, Nat.pow_succ, Nat.mul_add]; rw [Nat.mul_comm (4294967296 ^ r.length) 4294967296, Nat.mul_assoc, Nat.add_assoc]
theorem val_lt {xs : List Nat} (h : Lim xs) : val xs < 4294967296 ^ xs.length := by
 induction xs with
 | nil => simp [val]
 | cons y r ih =>
  have h1 := h.head
  have h2 := ih h.tail
  simp only [val, List.length_cons, Nat.pow_succ]
  have : 4294967296 * val r + 4294967296 ≤ 4294967296 ^ r.length * 4294967296 := by
   rw [Nat.mul_comm (4294967296 ^ r.length)]; have := Nat.mul_le_mul_left 4294967296 h2; omega
  omega
theorem limbs_cons {x : Nat} {r : List Nat} (hx : x < 4294967296) (h : val (x :: r) ≠ 0) : limbs (val (x :: r)) = x :: limbs (val r) := by
 rw [xCS h]; simp only [val]; rw [show (x + 4294967296 * val r) % 4294967296 = x by omega, show (x + 4294967296 * val r) / 4294967296 = val r by omega]
theorem xDY {xs : List Nat} (h : Lim xs) (hl : ∀ x, xs.getLast? = some x → x ≠ 0) : limbs (val xs) = xs := by
 induction xs with
 | nil => simp [val, xBK]
 | cons y r ih =>
  have hr : limbs (val r) = r := by
   apply ih h.tail
   intro x hx
   apply hl x
   cases r with
   | nil => simp at hx
   | cons z s => rw [List.getLast?_cons_cons]; exact hx
  have hne : val (y :: r) ≠ 0 := by
   cases r with
   | nil => have := hl y (by simp); simp [val]; omega
   | cons z s =>
    intro h0
    simp only [val] at h0
    have h00 : val (z :: s) = 0 := by simp only [val]; omega
    rw [h00, xBK] at hr
    cases hr
  rw [limbs_cons h.head hne, hr]
theorem getLast?_limbs {n x : Nat} (h : (limbs n).getLast? = some x) : x ≠ 0 := by
 induction n using Nat.strongRecOn generalizing x with
 | _ n ih =>
  by_cases h0 : n = 0
  ·subst h0; rw [xBK] at h; simp at h
  rw [xCS h0] at h
  by_cases h1 : n / 4294967296 = 0
  ·rw [h1, xBK] at h; simp at h; omega
  have : limbs (n / 4294967296) ≠ [] := by rw [xCS h1]; simp
  cases hr : limbs (n / 4294967296) with
  | nil => exact absurd hr this
  | cons z s => rw [hr, List.getLast?_cons_cons, ← hr] at h; exact ih _ (by omega) h
theorem val_snoc_zero (xs : List Nat) : val (xs ++ [0]) = val xs := by rw [xBU]; simp
theorem val_replicate_zero (n : Nat) : val (List.replicate n 0) = 0 := by
 induction n with
 | zero => rfl
 | succ n ih => simp [List.replicate_succ, val, ih]
def lastN (xs : List Nat) : Nat := xs.getLast?.getD 0
def rightB (xs : List Nat) : Bool := decide (xs.length ≤ 64) && (xs.length == 0 || !(lastN xs == 0))
theorem xBE {xs : List Nat} (h : Lim xs) (hr : rightB xs = true) : limbs (val xs) = xs := by
 apply xDY h
 intro x hx
 unfold rightB lastN at hr
 rw [hx] at hr
 cases xs with
 | nil => simp at hx
 | cons y r => simp at hr; exact hr.2
theorem xAV {xs : List Nat} (hr : rightB xs = true) : xs.length ≤ 64 := by unfold rightB at hr; simp at hr; exact hr.1
theorem rightB_limbs (n : Nat) : rightB (limbs n) = decide ((limbs n).length ≤ 64) := by
 unfold rightB lastN
 cases h : (limbs n).getLast? with
 | none => rw [List.getLast?_eq_none_iff] at h; simp [h]
 | some x => have := getLast?_limbs h; simp [this]
theorem xDA {xs : List Nat} {k x : Nat} (h : xs[k]? = some x) : xs.take (k + 1) = xs.take k ++ [x] := by
 obtain ⟨hk, rfl⟩ := List.getElem?_eq_some_iff.1 h
 exact List.take_succ_eq_append_getElem hk
theorem xFL {xs : List Nat} {k x : Nat} (h : xs[k]? = some x) : xs.drop k = x :: xs.drop (k + 1) := by
 obtain ⟨hk, rfl⟩ := List.getElem?_eq_some_iff.1 h
 exact List.drop_eq_getElem_cons hk
theorem trim_step {xs : List Nat} {k : Nat} (h0 : 0 < k) (h1 : k ≤ xs.length) (hx : xs[k - 1]? = some 0) : val (xs.take (k - 1)) = val (xs.take k) := by
 have : xs.take k = xs.take (k - 1) ++ [0] := by
  have h2 := List.take_succ_eq_append_getElem (l := xs) (i := k - 1) (by omega)
  rw [show k - 1 + 1 = k by omega] at h2
  rw [h2]
  have h3 := List.getElem?_eq_getElem (l := xs) (i := k - 1) (by omega)
  rw [hx] at h3
  simp at h3
  rw [← h3]
 rw [this, val_snoc_zero]
theorem trim_done {xs : List Nat} {k : Nat} (hl : Lim xs) (hv : val (xs.take k) = val xs) (h1 : k ≤ xs.length) (hx : k = 0 ∨ ∃ x, xs[k - 1]? = some x ∧ x ≠ 0) : limbs (val xs) = xs.take k := by
 rw [← hv]
 apply xDY (hl.take k)
 intro x hx'
 rcases hx with rfl | ⟨y, hy, hy0⟩
 ·simp at hx'
 rw [List.getLast?_eq_getElem?, List.length_take, Nat.min_eq_left h1] at hx'
 by_cases hk : k = 0
 ·subst hk; simp at hx'
 rw [List.getElem?_take_of_lt (by omega), hy] at hx'
 simp at hx'; omega
theorem val_split {xs : List Nat} {k x : Nat} (h : xs[k]? = some x) : val xs = val (xs.take k) + 4294967296 ^ k * (x + 4294967296 * val (xs.drop (k + 1))) := by
 obtain ⟨hk, rfl⟩ := List.getElem?_eq_some_iff.1 h
 have h1 := val_append (xs.take k) (xs.drop k)
 rw [List.take_append_drop, List.length_take, Nat.min_eq_left (by omega), List.drop_eq_getElem_cons hk] at h1
 exact h1
theorem val_lt_at {xs ys : List Nat} {k x y : Nat} (hl : Lim xs) (hx : xs[k]? = some x) (hy : ys[k]? = some y) (hd : xs.drop (k + 1) = ys.drop (k + 1)) (h : x < y) : val xs < val ys := by
 rw [val_split hx, val_split hy, hd]
 have h1 := val_lt (hl.take k)
 rw [List.length_take, Nat.min_eq_left (by have := (List.getElem?_eq_some_iff.1 hx).1; omega)] at h1
 have h2 : 4294967296 ^ k * (x + 1 + 4294967296 * val (ys.drop (k + 1))) ≤ 4294967296 ^ k * (y + 4294967296 * val (ys.drop (k + 1))) := Nat.mul_le_mul_left _ (by omega)
 have h3 : 4294967296 ^ k * (x + 1 + 4294967296 * val (ys.drop (k + 1))) = 4294967296 ^ k * (x + 4294967296 * val (ys.drop (k + 1))) + 4294967296 ^ k := by
  rw [show x + 1 + 4294967296 * val (ys.drop (k + 1)) = (x + 4294967296 * val (ys.drop (k + 1))) + 1 by omega, Nat.mul_add, Nat.mul_one]
 omega
theorem length_limbs_mono {a b : Nat} (h : a ≤ b) : (limbs a).length ≤ (limbs b).length := by
 induction b using Nat.strongRecOn generalizing a with
 | _ b ih =>
  by_cases ha : a = 0
  ·subst ha; rw [xBK]; simp
  rw [xCS ha, xCS (show b ≠ 0 by omega)]
  simp only [List.length_cons]
  have := ih (b / 4294967296) (by omega) (a := a / 4294967296) (by omega)
  omega
theorem xEL {xs ys : List Nat} (hx : limbs (val xs) = xs) (hy : limbs (val ys) = ys) (h : xs.length < ys.length) : val xs < val ys := by
 apply Nat.lt_of_not_le
 intro hle
 have := length_limbs_mono hle
 rw [hx, hy] at this
 omega
theorem val_set {Z : List Nat} {k z t : Nat} (h : Z[k]? = some z) : val (Z.set k t) + 4294967296 ^ k * z = val Z + 4294967296 ^ k * t := by
 induction Z generalizing k with
 | nil => simp at h
 | cons y r ih =>
  cases k with
  | zero => simp at h; subst h; simp [val]; omega
  | succ k =>
   simp only [List.getElem?_cons_succ] at h
   have := ih h
   simp only [List.set_cons_succ, val, Nat.pow_succ]
   rw [Nat.mul_comm (4294967296 ^ k) 4294967296, Nat.mul_assoc, Nat.mul_assoc]
   omega
theorem mul_step {Z : List Nat} {P i j C x y z D : Nat} (hz : Z[i + j]? = some z) (h : val Z + 4294967296 ^ (i + j) * C = P + 4294967296 ^ i * (x * D)) :
  val (Z.set (i + j) ((C + (x * y + z)) % 4294967296)) + 4294967296 ^ (i + (j + 1)) * ((C + (x * y + z)) / 4294967296) = P + 4294967296 ^ i * (x * (D + 4294967296 ^ j * y)) := by
 have h1 := val_set (t := (C + (x * y + z)) % 4294967296) hz
 have h2 : 4294967296 ^ (i + j) * ((C + (x * y + z)) % 4294967296) + 4294967296 ^ (i + (j + 1)) * ((C + (x * y + z)) / 4294967296) = 4294967296 ^ (i + j) * (C + (x * y + z)) := by
  rw [show i + (j + 1) = i + j + 1 by omega, Nat.pow_succ, Nat.mul_assoc, ← Nat.mul_add, Nat.mod_add_div]
 have h3 : 4294967296 ^ (i + j) * (C + (x * y + z)) = 4294967296 ^ (i + j) * C + 4294967296 ^ i * (x * (4294967296 ^ j * y)) + 4294967296 ^ (i + j) * z := by
  rw [Nat.mul_add, Nat.mul_add, Nat.add_assoc]
  congr 2
  rw [Nat.pow_add]
  simp only [Nat.mul_assoc, Nat.mul_left_comm, Nat.mul_comm]
 rw [Nat.mul_add x, Nat.mul_add (4294967296 ^ i)]
 omega
theorem mul_prod_le {x y : Nat} (hx : x < 4294967296) (hy : y < 4294967296) : x * y ≤ 18446744065119617025 := by
 have := Nat.mul_le_mul (show x ≤ 4294967295 by omega) (show y ≤ 4294967295 by omega)
 simpa using this
theorem mul_prod_leI {x y : Nat} (hx : x < 4294967296) (hy : y < 4294967296) : (x : Int) * (y : Int) ≤ 18446744065119617025 ∧ 0 ≤ (x : Int) * (y : Int) := by
 have := mul_prod_le hx hy
 rw [← Int.natCast_mul]
 omega
theorem mul_last {Z : List Nat} {P i m C x D E : Nat} (hz : Z[i + m]? = some 0) (h : val Z + 4294967296 ^ (i + m) * C = P * D + 4294967296 ^ i * (x * D)) (hE : E = P + 4294967296 ^ i * x) :
  val (Z.set (i + m) C) = E * D := by
 have h1 := val_set (t := C) hz
 subst hE
 rw [Nat.add_mul, Nat.mul_assoc]
 omega
theorem add_step {X Y : Nat} {L : List Nat} {k c x y : Nat} (hk : L.length = k) (h : val L + 4294967296 ^ k * c = X + Y) :
  val (L ++ [(c + x + y) % 4294967296]) + 4294967296 ^ (k + 1) * ((c + x + y) / 4294967296) = (X + 4294967296 ^ k * x) + (Y + 4294967296 ^ k * y) := by
 rw [xBU, hk, Nat.pow_succ, Nat.mul_assoc, Nat.add_assoc, ← Nat.mul_add, Nat.mod_add_div]
 rw [Nat.mul_add, Nat.mul_add]
 omega
theorem length_limbs_le {n k : Nat} (h : n < 4294967296 ^ k) : (limbs n).length ≤ k := by
 induction k generalizing n with
 | zero => simp at h; subst h; rw [xBK]; simp
 | succ k ih =>
  by_cases h0 : n = 0
  ·subst h0; rw [xBK]; simp
  rw [xCS h0]
  have := ih (n := n / 4294967296) (by rw [Nat.pow_succ] at h; omega)
  simp; omega
def resL (n : Nat) : List Nat := if (limbs n).length ≤ 64 then limbs n else []
def resE (n : Nat) : Int := if (limbs n).length ≤ 64 then 0 else 2
def addL (xs ys : List Nat) : List Nat := if rightB xs && rightB ys then resL (val xs + val ys) else []
def addE (xs ys : List Nat) : Int := if rightB xs && rightB ys then resE (val xs + val ys) else 10
def mulL (xs ys : List Nat) : List Nat := if rightB xs && rightB ys then resL (val xs * val ys) else []
def mulE (xs ys : List Nat) : Int := if rightB xs && rightB ys then resE (val xs * val ys) else 10
def cmpI (a b : Nat) : Int := if a < b then -1 else if b < a then 1 else 0
theorem cmpI_lt {a b : Nat} (h : a < b) : cmpI a b = -1 := by unfold cmpI; rw [if_pos h]
theorem cmpI_gt {a b : Nat} (h : b < a) : cmpI a b = 1 := by unfold cmpI; rw [if_neg (by omega), if_pos h]
theorem cmpI_eq (a : Nat) : cmpI a a = 0 := by unfold cmpI; rw [if_neg (by omega), if_neg (by omega)]
def cmpV (xs ys : List Nat) : Int := if rightB xs && rightB ys then cmpI (val xs) (val ys) else 0
def cmpE (xs ys : List Nat) : Int := if rightB xs && rightB ys then 0 else 10
end Go.Proofs.YtdjmjhlbjcgoiaaGreatDoor
namespace Go.Proofs.YtdjmjhlbjcgoiaaGreatDoor
open Go.RowKit Go.Maps

abbrev sA := @List.setIfInBounds_toArray
abbrev sB := @List.set_cons_zero
abbrev sC := @List.set_cons_succ
abbrev sD := @List.getElem_toArray
abbrev sE := @List.getElem_cons_succ
abbrev sF := @List.getElem_cons_zero
abbrev zB := @List.getElem?_eq_some_iff
abbrev zC := @List.getElem?_eq_getElem
abbrev zD := @List.mem_of_getElem?
abbrev zE := @List.eq_nil_of_length_eq_zero
abbrev zF := @List.length_append
abbrev zG := @List.length_cons
abbrev zH := @List.length_take
abbrev zI := @List.length_drop
abbrev zJ := @List.length_map
abbrev zL := @Array.getElem?_eq_some_iff
abbrev zM := @List.getElem?_append_right
abbrev zN := @List.getElem?_append_left
abbrev zO := @List.take_of_length_le
abbrev zP := @List.drop_of_length_le
abbrev zQ := @List.take_append_drop
abbrev zR := @List.append_assoc
abbrev zT := @List.mem_cons_of_mem
abbrev zU := @List.getElem?_map
abbrev zV := @List.append_nil
abbrev zW := @List.mem_iff_getElem?
abbrev zX := @Option.some.injEq
abbrev zY := @beq_eq_false_iff_ne
abbrev zZ := @Value.slice.injEq
abbrev yA := @IntWalk.i64_in
abbrev yB := @List.mem_cons
abbrev yE := @List.mem_append
abbrev yF := @List.length_set
abbrev yG := @List.cons_append
abbrev yH := @List.nil_append
abbrev yI := @List.map_append
abbrev yJ := @World.block_lt_of_cell?
abbrev yL := @List.mem_map
abbrev yM := @List.length_replicate
abbrev yO := @List.getElem?_eq_none
abbrev yP := @List.getElem?_cons_succ
abbrev yQ := @List.getElem?_cons_zero
abbrev yR := @List.mem_singleton
abbrev yS := @List.drop_drop
abbrev yT := @List.flatten_cons
abbrev yU := @heap_alloc_new
abbrev yW := @List.map_cons
abbrev yX := @List.length_reverse
abbrev yY := @decide_eq_true_eq
abbrev yZ := @List.mem_reverse
structure Kp (w w' : World) : Prop where
 size : w.heap.size ≤ w'.heap.size
 cell : ∀ (a : Addr) (v : Value), w.cell? a = some v → w'.cell? a = some v
theorem Kp.refl (w : World) : Kp w w := ⟨Nat.le_refl _, fun _ _ h => h⟩
theorem Kp.trans {a b c : World} (h : Kp a b) (k : Kp b c) : Kp a c := ⟨Nat.le_trans h.size k.size, fun x v hx => k.cell x v (h.cell x v hx)⟩
theorem zK {w w' : World} (h : Below w.heap.size w w') : Kp w w' :=
 ⟨h.size, fun a _ hv => (h.cell (yJ w a hv)).trans hv⟩
theorem Kp.drewN (w : World) (n : Nat) : Kp w (w.drewN n) := ⟨Nat.le_refl _, fun _ _ h => h⟩
def Row {α : Type} (E : World → Nat → Nat → α → Prop) (sz : Nat) (w : World) (v : Value) (xs : List α) : Prop :=
 ∃ ao cap, v = .slice ao xs.length cap ∧ xs.length ≤ cap ∧ cap ≤ maxLen ∧
  (0 < xs.length → ∃ g off, ao = some ⟨g, off, none⟩ ∧ g < w.heap.size ∧ ∀ (k : Nat) (x : α), xs[k]? = some x → E w g (off + k * sz) x)
theorem Row.imp {α : Type} {E : World → Nat → Nat → α → Prop} {sz : Nat} {w w' : World} {v : Value} {xs : List α} (h : Row E sz w v xs) (hs : w.heap.size ≤ w'.heap.size) (hE : ∀ g o x, E w g o x → E w' g o x) : Row E sz w' v xs := by
 obtain ⟨ao, cap, rfl, hc, hm, hx⟩ := h
 refine ⟨ao, cap, rfl, hc, hm, fun h0 => ?_⟩
 obtain ⟨g, off, rfl, hg, hx⟩ := hx h0
 exact ⟨g, off, rfl, Nat.lt_of_lt_of_le hg hs, fun k x he => hE _ _ _ (hx k x he)⟩
theorem Row.flat {α : Type} {E : World → Nat → Nat → α → Prop} {sz : Nat} {w : World} {v : Value} {xs : List α} (h : Row E sz w v xs) : ∃ ao cap, v = .slice ao xs.length cap ∧ xs.length ≤ cap ∧ cap ≤ maxLen ∧
  ∀ k : Nat, k < xs.length → ∃ g off x, ao = some ⟨g, off, none⟩ ∧ xs[k]? = some x ∧ E w g (off + k * sz) x := by
 obtain ⟨ao, cap, rfl, hc, hm, hx⟩ := h
 refine ⟨ao, cap, rfl, hc, hm, fun k hk => ?_⟩
 obtain ⟨g, off, rfl, hg, hx⟩ := hx (by omega)
 exact ⟨g, off, xs[k], rfl, zC hk, hx k _ (zC hk)⟩
def EI (w : World) (g o : Nat) (x : Int) : Prop := -9223372036854775808 ≤ x ∧ x ≤ 9223372036854775807 ∧ w.cell? ⟨g, o, none⟩ = some (.int .i64 x)
theorem EI.kp {w w' : World} (hk : Kp w w') (g o : Nat) (x : Int) (h : EI w g o x) : EI w' g o x := ⟨h.1, h.2.1, hk.cell _ _ h.2.2⟩
def Is (w : World) (v : Value) (xs : List Int) : Prop := Row EI 1 w v xs
theorem Is.kp {w w' : World} {v : Value} {xs : List Int} (h : Is w v xs) (hk : Kp w w') : Is w' v xs := Row.imp h hk.size (EI.kp hk)
theorem zA {w : World} (o : Obj) : Below w.heap.size w (w.alloc o) := (Below.refl _ _).alloc (Nat.le_refl _) o
theorem zS {a b c : World} (h : Below a.heap.size a b) (k : Below b.heap.size b c) : Below a.heap.size a c := h.trans (k.mono h.size)
theorem Row.len {α : Type} {E : World → Nat → Nat → α → Prop} {sz : Nat} {w : World} {ao : Option Addr} {n cap : Nat} {xs : List α} (h : Row E sz w (.slice ao n cap) xs) : n = xs.length := by
 obtain ⟨ao', cap', hv, _⟩ := h
 simp only [zZ] at hv
 exact hv.2.1
theorem Row.nil {α : Type} {E : World → Nat → Nat → α → Prop} {sz : Nat} {w : World} {ao : Option Addr} {cap : Nat} (hc : cap ≤ maxLen) : Row E sz w (.slice ao 0 cap) ([] : List α) :=
 ⟨ao, cap, rfl, Nat.zero_le _, hc, fun h => absurd h (by simp)⟩
theorem Is.at {w : World} {ao : Option Addr} {n cap : Nat} {es : List Int} (h : Is w (.slice ao n cap) es) {k : Nat} (hk : k < es.length) :
  ∃ g off x, ao = some ⟨g, off, none⟩ ∧ es[k]? = some x ∧ w.cell? ⟨g, off + k, none⟩ = some (.int .i64 x) ∧ -9223372036854775808 ≤ x ∧ x ≤ 9223372036854775807 := by
 obtain ⟨ao', cap', hv, _, _, hx⟩ := Row.flat h
 simp only [zZ] at hv
 obtain ⟨rfl, rfl, rfl⟩ := hv
 obtain ⟨g, off, x, rfl, hm, h1, h2, h3⟩ := hx k hk
 rw [Nat.mul_one] at h3
 exact ⟨g, off, x, rfl, hm, h3, h1, h2⟩
theorem xAR {α : Type} {xs : List α} {k : Nat} {x : α} (h : xs[k]? = some x) : xs.drop k = x :: xs.drop (k + 1) := by
 have hk := (zB.1 h)
 obtain ⟨hk, rfl⟩ := hk
 exact List.drop_eq_getElem_cons hk
theorem xAM {α : Type} {xs : List α} {k : Nat} {x : α} (h : xs[k]? = some x) : xs.take (k + 1) = xs.take k ++ [x] := by
 rw [List.take_add_one, h]; rfl
def I64 (x : Int) : Value := .int .i64 x
def ZI (xs : List Int) : Prop := ∀ (k : Nat) (x : Int), xs[k]? = some x → -9223372036854775808 ≤ x ∧ x ≤ 9223372036854775807
def OwI (w : World) (base : Nat) (v : Value) (xs : List Int) : Prop := ZI xs ∧ w.ownsRow base 3 1 v xs.length (xs.map I64)
theorem OwI.is {w : World} {base : Nat} {v : Value} {xs : List Int} (h : OwI w base v xs) : Is w v xs := by
 have h2 := h.2
 rcases h2.2 with ⟨rfl, hn⟩ | ⟨g, cap, cur, rfl, hb, hg, hc, hm, hs, ht⟩
 ·exact ⟨none, 0, by rw [hn], by omega, by simp [maxLen], by omega⟩
 refine ⟨_, cap, rfl, hc, hm, fun _ => ⟨g, 0, rfl, (zL.1 hg).1, ?_⟩⟩
 intro k x hk
 have hlt : k < xs.length := (zB.1 hk).1
 refine ⟨(h.1 k x hk).1, (h.1 k x hk).2, ?_⟩
 rw [Nat.zero_add, Nat.mul_one, World.ownsRow.cellAt h2 k (by omega)]
 simp [hk, I64]
theorem OwI.kept {w w' : World} {base : Nat} {v : Value} {xs : List Int} {row : Option Nat} (h : OwI w base v xs) (hg : w.grownBy w' row) (hr : v.ownBlock = none ∨ v.ownBlock ≠ row) : OwI w' base v xs := by
 refine ⟨h.1, h.2.1, ?_⟩
 rcases h.2.2 with h | ⟨g, cap, cur, rfl, hb, hgg, r⟩
 ·exact .inl h
 refine .inr ⟨g, cap, cur, rfl, hb, (hg.block g (zL.1 hgg).1 ?_).trans hgg, r⟩
 rcases hr with hr | hr
 ·cases hr
 exact hr
theorem OwI.later {w w' : World} {base : Nat} {v : Value} {xs : List Int} (h : OwI w base v xs) (hb : Below w.heap.size w w') : OwI w' base v xs :=
 h.kept (row := none) ⟨hb.os, hb.tape, hb.output, hb.size, fun k hk _ => hb.block k hk⟩ (by cases hv : v.ownBlock <;> simp)
theorem OwI.mono {w : World} {base b' : Nat} {v : Value} {xs : List Int} (h : OwI w base v xs) (hb : b' ≤ base) : OwI w b' v xs := by
 refine ⟨h.1, h.2.1, ?_⟩
 rcases h.2.2 with h | ⟨g, cap, cur, rfl, hg, r⟩
 ·exact .inl h
 exact .inr ⟨g, cap, cur, rfl, Nat.le_trans hb hg, r⟩
theorem made_zero64 (n : Nat) : (madeCells (Value.int .i64 0).cells (n * 1)).toList = (List.replicate n (0 : Int)).map I64 := by
 have : (Value.int .i64 0).cells = #[Value.int .i64 0] := rfl
 rw [this, toList_madeCells_one]
 simp [I64]
theorem OwI.made {w : World} {base n : Nat} {v : Value} (h : w.ownsRow base 3 1 v n (madeCells (Value.int .i64 0).cells (n * 1)).toList) : OwI w base v (List.replicate n 0) := by
 rw [made_zero64] at h
 refine ⟨?_, by simpa using h⟩
 intro k x hk
 rw [List.getElem?_replicate] at hk
 split at hk
 ·cases hk; omega
 cases hk
theorem OwI.at {w : World} {base g n cap : Nat} {xs : List Int} (h : OwI w base (.slice (some ⟨g, 0, none⟩) n cap) xs) {k : Nat} {x : Int} (hk : xs[k]? = some x) :
  w.cell? ⟨g, k, none⟩ = some (.int .i64 x) ∧ w.frozen? ⟨g, k, none⟩ = false := by
 have h2 := h.2
 rcases h2.2 with ⟨hv, hn⟩ | ⟨g', cap', cur, hv, hb, hg, hc, hm, hs, ht⟩
 ·cases hv
 simp only [zZ, zX, Addr.mk.injEq, and_true] at hv
 obtain ⟨rfl, rfl, rfl⟩ := hv
 have hlt : k < xs.length := (zB.1 hk).1
 have h3 := h2
 refine ⟨?_, World.ownsRow.frozenAt h3 k⟩
 rw [World.ownsRow.cellAt h3 k (by omega)]
 simp [hk, I64]
theorem OwI.put {w w0 : World} {base g n cap B : Nat} {xs : List Int} (h : OwI w base (.slice (some ⟨g, 0, none⟩) n cap) xs) (hb : Below B w0 w) (hB : B ≤ g) (hn : n = xs.length) {k : Nat} {z : Int} (hz : -9223372036854775808 ≤ z ∧ z ≤ 9223372036854775807) {ys : List Int} (hys : xs.set k z = ys) :
  OwI (w.setCell ⟨g, k, none⟩ (.int .i64 z)) base (.slice (some ⟨g, 0, none⟩) n cap) ys ∧ Below B w0 (w.setCell ⟨g, k, none⟩ (.int .i64 z)) := by
 subst hys
 subst hn
 have hs := World.ownsRow.stored h.2 k (.int .i64 z)
 refine ⟨⟨?_, ?_⟩, hb.setCell (p := ⟨g, k, none⟩) hB _⟩
 ·intro j y hy
  rw [List.getElem?_set] at hy
  split at hy
  ·split at hy
   ·cases hy; exact hz
   cases hy
  exact h.1 j y hy
 have h1 := hs.1
 rw [yF, List.map_set]
 exact h1
theorem OwI.shape {w : World} {base : Nat} {v : Value} {xs : List Int} (h : OwI w base v xs) : ∃ ao cap, v = .slice ao xs.length cap ∧ xs.length ≤ cap ∧ cap ≤ maxLen := by
 rcases h.2.2 with ⟨rfl, hn⟩ | ⟨g, cap, cur, rfl, hb, hg, hc, hm, hs, ht⟩
 ·exact ⟨none, 0, by rw [hn], by omega, by simp [maxLen]⟩
 exact ⟨_, cap, rfl, hc, hm⟩
theorem info_int : (Tryz.prog.info? 3).map (fun i => (i.zero, i.size, i.bytes)) = some (some (.int .i64 0), 1, 8) := by kernel_rfl
theorem xBQ : Tryz.prog.underlying 30 = some (.slice 3) := by kernel_rfl
theorem step_append_own {P : Program} {ops : Array Oper} {o : Oper} {a : Act} {w : World} {K : Act → World → Prop} {Q : Exit → Act → World → Prop} {E : Prop} (hgd : o.guard = none) (s x : Operand) (t : TypeId)
  (ho : o.op = .call { callee := .builtin .append, args := #[s, x], argTypes := #[t, t] })
  (base : Nat) (e : TypeId) (i : TypeInfo) (z : Value) (size bytes : Nat) (ht : P.underlying t = some (.slice e)) (hi : P.info? e = some i) (hz : i.zero = some z)
  (hsize : i.size = size) (hby : i.bytes = bytes) (hzs : z.cells.size = size) (hsz : 0 < size)
  (v : Value) (n : Nat) (xs : List Value) (hs : a.eval s = v) (hown : w.ownsRow base e size v n xs)
  (ad : Addr) (m c : Nat) (news : List Value) (hx : a.eval x = .slice (some ad) m c) (hl : news.length = m * size) (hnews : ∀ j u, news[j]? = some u → w.cell? (ad.add j) = some u) (h1 : ∀ u ∈ news, u.oneCell' = true)
  (h63 : n + m ≤ maxLen) (hbytes : (n + m) * bytes ≤ 140737488355328) (hbase : base ≤ w.heap.size)
  (hK : ∀ v' w', w'.ownsRow base e size v' (n + m) (xs ++ news) → w.grownBy w' v.ownBlock → (v'.ownBlock = v.ownBlock ∨ v'.ownBlock = some w.heap.size) → K (a.put o.dst v') w') :
  if Region.wanted o (yielded ops a.tmps) = true then Oper.wp P o a w K Q else E := by
 have hw : Region.wanted o (yielded ops a.tmps) = true := by simp [Region.wanted, hgd]
 rw [if_pos hw]
 obtain ⟨v', w', hr, h2, h3, h4, h5⟩ := run_append_own_at (P := P) w base t o.type e i z size bytes ht hi hz hsize hby hzs hsz v n xs hown ad m c news hl hnews h1 h63 hbytes hbase
 unfold Oper.wp execOp
 simp only [ho, resolve, invoke, builtin, Sem.run_bind, Sem.run_pure, Result.andThen_ok, List.map_toArray, yW, List.map_nil, hs, hx, hr]
 exact hK v' w' h2 h3 h5
theorem xAC {w w' : World} {base : Nat} {e : TypeId} {size : Nat} {v : Value} {n : Nat} {xs : List Value} (h : w.ownsRow base e size v n xs) (hb : Below w.heap.size w w') : w'.ownsRow base e size v n xs :=
 h.kept (row := none) ⟨hb.os, hb.tape, hb.output, hb.size, fun k hk _ => hb.block k hk⟩ (by cases hv : v.ownBlock <;> simp)
theorem xCD {w : World} {b1 b2 : Nat} {e1 e2 : TypeId} {s1 s2 : Nat} {v u : Value} {n m : Nat} {xs ys : List Value} (h : w.ownsRow b1 e1 s1 v n xs) (k : w.ownsRow b2 e2 s2 u m ys) (hne : e1 ≠ e2) : v.ownBlock = none ∨ v.ownBlock ≠ u.ownBlock := by
 rcases h.2 with ⟨rfl, _⟩ | ⟨g, cap, cur, rfl, _, hg, _⟩
 ·exact .inl rfl
 refine .inr ?_
 rcases k.2 with ⟨rfl, _⟩ | ⟨g', cap', cur', rfl, _, hg', _⟩
 ·simp [Value.ownBlock]
 simp only [Value.ownBlock]
 intro e
 cases e
 rw [hg] at hg'
 simp only [zX, Obj.cells.injEq] at hg'
 exact hne hg'.2.1
theorem step_append_run {P : Program} {ops : Array Oper} {o : Oper} {a : Act} {w w' : World} {v' : Value} {K : Act → World → Prop} {Q : Exit → Act → World → Prop} {E : Prop} (hgd : o.guard = none) (s x : Operand) (t : TypeId)
  (ho : o.op = .call { callee := .builtin .append, args := #[s, x], argTypes := #[t, t] }) (v u : Value) (hs : a.eval s = v) (hx : a.eval x = u)
  (hr : (Builtin.append_ #[t, t] o.type #[v, u]).run P w = .ok v' w') (hK : K (a.put o.dst v') w') :
  if Region.wanted o (yielded ops a.tmps) = true then Oper.wp P o a w K Q else E := by
 have hw : Region.wanted o (yielded ops a.tmps) = true := by simp [Region.wanted, hgd]
 rw [if_pos hw]
 unfold Oper.wp execOp
 simp only [ho, resolve, invoke, builtin, Sem.run_bind, Sem.run_pure, Result.andThen_ok, List.map_toArray, yW, List.map_nil, hs, hx, hr]
 exact hK
theorem empty_row {w : World} {base : Nat} (t : TypeId) (hb : base ≤ w.heap.size) : (w.alloc (.cells #[] t)).ownsRow base t 1 (.slice (some ⟨w.heap.size, 0, none⟩) 0 0) 0 [] := by
 refine ⟨rfl, .inr ⟨w.heap.size, 0, #[], rfl, hb, yU _ _, Nat.le_refl _, Nat.zero_le _, rfl, rfl⟩⟩
theorem xDH {w0 w w' : World} {g : Nat} (hB : Below w0.heap.size w0 w) (hg : w.grownBy w' (some g)) (h : w0.heap.size ≤ g) : Below w0.heap.size w0 w' := hB.grown hg hB.size (fun k hk => by cases hk; exact h)
theorem own_ge {w : World} {base : Nat} {e : TypeId} {s g n c m : Nat} {xs : List Value} (h : w.ownsRow base e s (.slice (some ⟨g, 0, none⟩) n c) m xs) : base ≤ g := by
 rcases h.2 with ⟨hv, _⟩ | ⟨g', cap, cur, hv, hb, _⟩
 ·cases hv
 cases hv
 exact hb
theorem own_blk {w : World} {base : Nat} {e : TypeId} {s m j : Nat} {v : Value} {xs : List Value} (h : w.ownsRow base e s v m xs) (hj : v.ownBlock = some j) : base ≤ j := by
 rcases h.2 with ⟨rfl, _⟩ | ⟨g', cap, cur, rfl, hb, _⟩
 ·cases hj
 cases hj
 exact hb
theorem own_form {w : World} {base : Nat} {e : TypeId} {s n : Nat} {v : Value} {xs : List Value} (h : w.ownsRow base e s v n xs) (hn : 0 < n) : ∃ g cap, v = .slice (some ⟨g, 0, none⟩) n cap := by
 rcases h.2 with ⟨_, h0⟩ | ⟨g, cap, cur, hv, _⟩
 ·omega
 exact ⟨g, cap, hv⟩
theorem xAA {w w' : World} (h : Below w.heap.size w w') (row : Option Nat) : w.grownBy w' row := ⟨h.os, h.tape, h.output, h.size, fun k hk _ => h.block k hk⟩
theorem Kp.of_map {w w' : World} {b : Nat} {es : Array MapEntry} {clock : Nat} (hg : w.grownBy w' (some b)) (hb : w.heap[b]? = some (.map es clock)) : Kp w w' := by
 refine ⟨hg.size, fun a v hv => ?_⟩
 have hlt := yJ w a hv
 have hne : a.block ≠ b := by
  intro e
  simp [World.cell?, e, hb] at hv
 rw [World.cell?_of_block (hg.block a.block hlt (by simpa using hne))]
 exact hv
theorem xBG {a b c : World} {row : Option Nat} (h : a.grownBy b row) (k : b.grownBy c row) : a.grownBy c row :=
 ⟨k.os.trans h.os, k.tape.trans h.tape, k.output.trans h.output, Nat.le_trans h.size k.size, fun i hi hne => (k.block i (Nat.lt_of_lt_of_le hi h.size) hne).trans (h.block i hi hne)⟩
theorem laidOut : laidOutB Tryz.prog = true := by kernel_rfl
section
variable {P : Program} {w w' : World} {ops : Array Oper} {rest : List Oper} {o : Oper} {a : Act} {Q : Exit → Act → World → Prop}
theorem xAT (hg : o.guard = none) (m x : Operand) (t : TypeId) (c : Bool) (hop : o.op = Op.lookup t m x c) (mv kv r : Value) (hm : a.eval m = mv) (hx : a.eval x = kv) (hrun : (Instr.lookup t mv kv c).run P w = .ok r w)
  (h : wpList P ops Q rest (a.put o.dst r) w) : wpList P ops Q (o :: rest) a w := by
 refine wpList_plain hg fun K' hK' => ?_
 unfold Oper.wp
 simp [execOp, hop, hm, hx, hrun, Result.andThen]
 exact hK' _ _ h
theorem xBH (hg : o.guard = none) (m x v : Operand) (t : TypeId) (hop : o.op = Op.mapUpdate t m x v) (mv kv vv : Value) (hm : a.eval m = mv) (hx : a.eval x = kv) (hv : a.eval v = vv) (hrun : (Instr.mapUpdate t mv kv vv).run P w = .ok () w')
  (h : wpList P ops Q rest (a.put o.dst undef) w') : wpList P ops Q (o :: rest) a w := by
 refine wpList_plain hg fun K' hK' => ?_
 unfold Oper.wp
 simp [execOp, hop, hm, hx, hv, hrun, Result.andThen]
 exact hK' _ _ h
end
theorem ret2i {k : IntKind} {v : Value} {a b : Int} (h : a = b) : Ending.returned (.tuple #[v, .int k a]) = .returned (.tuple #[v, .int k b]) := by rw [h]
theorem ret1i {k : IntKind} {a b : Int} (h : a = b) : Ending.returned (.int k a) = .returned (.int k b) := by rw [h]
theorem ret1b {a b : Bool} (h : a = b) : Ending.returned (.bool a) = .returned (.bool b) := by rw [h]
def U (x : Nat) : Value := .int .u32 (x : Int)
def Sl (w : World) (v : Value) (xs : List Nat) : Prop :=
 Lim xs ∧ ∃ ao cap, v = .slice ao xs.length cap ∧ xs.length ≤ cap ∧ cap ≤ maxLen ∧
  (0 < xs.length → ∃ g off, ao = some ⟨g, off, none⟩ ∧ g < w.heap.size ∧ ∀ (k x : Nat), xs[k]? = some x → w.cell? ⟨g, off + k, none⟩ = some (.int .u32 (x : Int)))
def Ow (w : World) (base : Nat) (v : Value) (xs : List Nat) : Prop := Lim xs ∧ w.ownsRow base 38 1 v xs.length (xs.map U)
theorem Ow.sl {w : World} {base : Nat} {v : Value} {xs : List Nat} (h : Ow w base v xs) : Sl w v xs := by
 refine ⟨h.1, ?_⟩
 have h2 := h.2
 rcases h2.2 with ⟨rfl, hn⟩ | ⟨g, cap, cur, rfl, hb, hg, hc, hm, hs, ht⟩
 ·exact ⟨none, 0, by rw [hn], by omega, by simp [maxLen], by omega⟩
 refine ⟨_, cap, rfl, hc, hm, fun _ => ⟨g, 0, rfl, (zL.1 hg).1, ?_⟩⟩
 intro k x hk
 have hlt : k < xs.length := (zB.1 hk).1
 rw [Nat.zero_add, World.ownsRow.cellAt h2 k (by omega)]
 simp [hk, U]
theorem Sl.later {w w' : World} {v : Value} {xs : List Nat} (h : Sl w v xs) (hb : Below w.heap.size w w') : Sl w' v xs := by
 obtain ⟨hl, ao, cap, rfl, hc, hm, hx⟩ := h
 refine ⟨hl, ao, cap, rfl, hc, hm, fun h0 => ?_⟩
 obtain ⟨g, off, rfl, hg, hx⟩ := hx h0
 exact ⟨g, off, rfl, Nat.lt_of_lt_of_le hg hb.size, fun k x hk => (hb.cell (p := ⟨g, off + k, none⟩) hg).trans (hx k x hk)⟩
theorem Ow.mono {w : World} {base b' : Nat} {v : Value} {xs : List Nat} (h : Ow w base v xs) (hb : b' ≤ base) : Ow w b' v xs := by
 refine ⟨h.1, h.2.1, ?_⟩
 rcases h.2.2 with h | ⟨g, cap, cur, rfl, hg, r⟩
 ·exact .inl h
 exact .inr ⟨g, cap, cur, rfl, Nat.le_trans hb hg, r⟩
theorem getLast_some {xs : List Nat} {x : Nat} (h : xs[xs.length - 1]? = some x) : lastN xs = x := by
 unfold lastN; rw [List.getLast?_eq_getElem?, h]; rfl
theorem xBL {xs : List Nat} {k : Nat} (h : k < xs.length) : ∃ x, xs[k]? = some x := ⟨xs[k], zC h⟩
theorem Ow.cut {w : World} {base g n cap : Nat} {xs : List Nat} (h : Ow w base (.slice (some ⟨g, 0, none⟩) n cap) xs) {k : Nat} (hk : k ≤ xs.length) :
  Ow w base (.slice (some ⟨g, 0, none⟩) k cap) (xs.take k) := by
 refine ⟨h.1.take k, by simp, ?_⟩
 rcases h.2.2 with ⟨h, _⟩ | ⟨g', cap', cur, hv, hb, hg, hc, hm, hs, ht⟩
 ·cases h
 simp only [zZ, zX, Addr.mk.injEq] at hv
 obtain ⟨⟨rfl, _, _⟩, _, rfl⟩ := hv
 have hl : (xs.take k).length = k := by simp; omega
 refine .inr ⟨g, cap, cur, by rw [hl], hb, hg, by rw [hl]; omega, hm, hs, ?_⟩
 rw [hl, List.map_take, ← ht, List.take_take]
 congr 1; omega
theorem Ow.shape {w : World} {base : Nat} {v : Value} {xs : List Nat} (h : Ow w base v xs) :
  (v = .slice none 0 0 ∧ xs = []) ∨ ∃ g cap, v = .slice (some ⟨g, 0, none⟩) xs.length cap ∧ base ≤ g ∧ g < w.heap.size ∧ xs.length ≤ cap ∧ cap ≤ maxLen ∧
   (∀ (k x : Nat), xs[k]? = some x → w.cell? ⟨g, k, none⟩ = some (.int .u32 (x : Int))) ∧ ∀ k : Nat, w.frozen? ⟨g, k, none⟩ = false := by
 have h2 := h.2
 rcases h2.2 with ⟨rfl, hn⟩ | ⟨g, cap, cur, rfl, hb, hg, hc, hm, hs, ht⟩
 ·exact .inl ⟨rfl, zE hn⟩
 refine .inr ⟨g, cap, rfl, hb, (zL.1 hg).1, hc, hm, ?_, fun k => World.ownsRow.frozenAt h2 k⟩
 intro k x hk
 have hlt : k < xs.length := (zB.1 hk).1
 rw [World.ownsRow.cellAt h2 k (by omega)]
 simp [hk, U]
def lenOfV : Value → Nat
 | .slice _ n _ => n
 | _ => 0
theorem info_u32 : (Tryz.prog.info? 38).map (fun i => (i.zero, i.size, i.bytes)) = some (some (.int .u32 0), 1, 4) := by kernel_rfl
theorem xDT : Tryz.prog.underlying 35 = some (.slice 38) := by kernel_rfl
theorem Ow.store {w : World} {base g n cap : Nat} {xs : List Nat} (h : Ow w base (.slice (some ⟨g, 0, none⟩) n cap) xs) (hn : n = xs.length) (k z : Nat) (hz : z < 4294967296) :
  Ow (w.setCell ⟨g, k, none⟩ (.int .u32 (z : Int))) base (.slice (some ⟨g, 0, none⟩) n cap) (xs.set k z) ∧ w.grownBy (w.setCell ⟨g, k, none⟩ (.int .u32 (z : Int))) (some g) := by
 subst hn
 have hs := World.ownsRow.stored h.2 k (.int .u32 (z : Int))
 refine ⟨⟨?_, ?_⟩, hs.2⟩
 ·intro y hy
  rcases List.mem_or_eq_of_mem_set hy with hy | rfl
  ·exact h.1 y hy
  exact hz
 have h1 := hs.1
 rw [yF, List.map_set]
 exact h1
theorem Ow.put {w w0 : World} {base g n cap B : Nat} {xs : List Nat} (h : Ow w base (.slice (some ⟨g, 0, none⟩) n cap) xs) (hb : Below B w0 w) (hB : B ≤ g) (hn : n = xs.length) {k z : Nat} {V : Int} (hV : V = (z : Int)) (hz : z < 4294967296) {ys : List Nat} (hys : xs.set k z = ys) :
  Ow (w.setCell ⟨g, k, none⟩ (.int .u32 V)) base (.slice (some ⟨g, 0, none⟩) n cap) ys ∧ Below B w0 (w.setCell ⟨g, k, none⟩ (.int .u32 V)) := by
 subst hV; subst hys
 exact ⟨(h.store hn k z hz).1, hb.setCell (p := ⟨g, k, none⟩) hB _⟩
theorem Ow.at {w : World} {base g n cap : Nat} {xs : List Nat} (h : Ow w base (.slice (some ⟨g, 0, none⟩) n cap) xs) {k x : Nat} (hk : xs[k]? = some x) :
  w.cell? ⟨g, k, none⟩ = some (.int .u32 (x : Int)) ∧ w.frozen? ⟨g, k, none⟩ = false := by
 rcases h.shape with ⟨hv, _⟩ | ⟨g', cap', hv, _, _, _, _, hx, hf⟩
 ·cases hv
 simp only [zZ, zX, Addr.mk.injEq, and_true] at hv
 obtain ⟨rfl, _⟩ := hv
 exact ⟨hx k x hk, hf k⟩
theorem get_mid {L : List Nat} {x : Nat} {R : List Nat} {k : Nat} (hk : L.length = k) : (L ++ x :: R)[k]? = some x := by subst hk; simp
theorem set_mid {α : Type} (L : List α) (x z : α) (R : List α) (k : Nat) (hk : L.length = k) : (L ++ x :: R).set k z = L ++ z :: R := by
 subst hk; simp
theorem U_one (xs : List Nat) : ∀ u ∈ xs.map U, u.oneCell' = true := by
 intro u hu
 obtain ⟨x, _, rfl⟩ := yL.1 hu
 rfl
theorem run_copy_own {w : World} {base g n cap cap' : Nat} {ao : Option Addr} {zs xs : List Nat} (ho : Ow w base (.slice (some ⟨g, 0, none⟩) n cap) zs) (hn : n = zs.length)
  (hs : Sl w (.slice ao xs.length cap') xs) (hle : xs.length ≤ n) :
  ∃ w', (Builtin.copy_ #[35, 35] 3 #[.slice (some ⟨g, 0, none⟩) n cap, .slice ao xs.length cap']).run Tryz.prog w = .ok (goInt xs.length) w' ∧
   Ow w' base (.slice (some ⟨g, 0, none⟩) n cap) (xs ++ zs.drop xs.length) ∧ w.grownBy w' (some g) := by
 subst hn
 have hsz : (Tryz.prog.info? 38).map (·.size) = some 1 := by kernel_rfl
 by_cases h0 : xs.length = 0
 ·obtain rfl : xs = [] := zE h0
  have := run_copy_none (P := Tryz.prog) w 35 35 3 38 (some ⟨g, 0, none⟩) ao zs.length cap 0 cap' xDT hsz (by simp)
  exact ⟨w, this, by simpa using ho, World.grownBy.refl _ _⟩
 obtain ⟨_, ao', c', hv, hc, hm, hx⟩ := id hs
 ·simp only [zZ] at hv
  obtain ⟨rfl, _, rfl⟩ := hv
  obtain ⟨g', off, rfl, hg, hx⟩ := hx (by omega)
  rcases ho.2.2 with ⟨hv, _⟩ | ⟨g2, cap2, cur, hv, hb, hg2, hc2, hm2, hs2, ht2⟩
  ·simp at hv
  simp only [zZ, zX, Addr.mk.injEq, and_true, true_and] at hv
  obtain ⟨rfl, rfl⟩ := hv
  have hmin : xs.length = Nat.min xs.length zs.length := (Nat.min_eq_left hle).symm
  have hcur : zs.length ≤ cur.size := by omega
  have := run_copy_row (P := Tryz.prog) w 35 35 3 38 g 0 zs.length cap ⟨g', off, none⟩ xs.length cap' cur 38 (xs.map U) xDT hsz hg2
   (by simpa using hmin) (by
    intro j v hj
    simp only [zU, Option.map_eq_some_iff] at hj
    obtain ⟨x, hx1, rfl⟩ := hj
    rw [Addr.add_lit]
    exact hx j x hx1) (by simp; omega) (U_one xs)
  refine ⟨_, by simpa using this, ⟨?_, ?_, .inr ⟨g, cap, _, by rw [zF, zI, show xs.length + (zs.length - xs.length) = zs.length by omega], hb, setRow_heap w g cur _ 38 _ hg2, ?_, hm2, ?_, ?_⟩⟩, ?_⟩
  ·exact Lim.append hs.1 (fun y hy => ho.1 y (List.mem_of_mem_drop hy))
  ·simp
  ·simp; omega
  ·simp; omega
  ·have hl : (xs.map U).length = xs.length := by simp
   rw [zF, zI, show xs.length + (zs.length - xs.length) = zs.length by omega]
   simp only [yI, List.map_drop, ← ht2, List.drop_take, Nat.mul_one]
   rw [List.take_append, hl, zO (by simp; omega)]
  exact ⟨rfl, rfl, rfl, by simp [World.setRow], fun k _ hk => setRow_other w g k _ (fun e => hk (by simp [e]))⟩
theorem Sl.flat {w : World} {v : Value} {xs : List Nat} (h : Sl w v xs) : ∃ ao cap, v = .slice ao xs.length cap ∧ xs.length ≤ cap ∧ cap ≤ maxLen ∧
  ∀ k : Nat, k < xs.length → ∃ g off x, ao = some ⟨g, off, none⟩ ∧ xs[k]? = some x ∧ x < 4294967296 ∧ w.cell? ⟨g, off + k, none⟩ = some (.int .u32 (x : Int)) := by
 obtain ⟨hl, ao, cap, rfl, hc, hm, hx⟩ := h
 refine ⟨ao, cap, rfl, hc, hm, fun k hk => ?_⟩
 obtain ⟨g, off, rfl, hg, hx⟩ := hx (by omega)
 obtain ⟨x, hx'⟩ := xBL hk
 exact ⟨g, off, x, rfl, hx', hl.get hx', hx k x hx'⟩
theorem Sl.flat' {w : World} {ao : Option Addr} {n cap : Nat} {xs : List Nat} (h : Sl w (.slice ao n cap) xs) : n = xs.length ∧
  ∀ k : Nat, k < xs.length → ∃ g off x, ao = some ⟨g, off, none⟩ ∧ xs[k]? = some x ∧ x < 4294967296 ∧ w.cell? ⟨g, off + k, none⟩ = some (.int .u32 (x : Int)) := by
 obtain ⟨ao', cap', hv, _, _, hx⟩ := h.flat
 simp only [zZ] at hv
 obtain ⟨rfl, rfl, rfl⟩ := hv
 exact ⟨rfl, hx⟩
theorem Ow.drewN {w : World} {base : Nat} {v : Value} {xs : List Nat} (h : Ow w base v xs) (n : Nat) : Ow (w.drewN n) base v xs := h
theorem Ow.nil (w : World) (base : Nat) : Ow w base (.slice none 0 0) [] := ⟨Lim.nil, World.ownsRow_nil _ _ _ _⟩
abbrev Mn := List Nat × List Int
def cmpX : List Int → List Int → Int
 | [], [] => 0
 | [], _ :: _ => -1
 | _ :: _, [] => 1
 | a :: az, b :: bs => if a < b then -1 else if b < a then 1 else cmpX az bs
def monB (m : Mn) : Bool := !(m.1.length == 0) && rightB m.1 && m.2.all (fun n => decide (0 ≤ n)) && (m.2.length == 0 || !(m.2[m.2.length - 1]? == some 0))
def expsAt (p : List Mn) (k : Nat) : List Int := ((p[k]?).map (·.2)).getD []
def okAt (p : List Mn) (vars : Int) (k : Nat) : Bool :=
 (match p[k]? with | some m => monB m && decide ((m.2.length : Int) ≤ vars) | none => false) && (k == 0 || decide (cmpX (expsAt p (k - 1)) (expsAt p k) < 0))
def polyB (p : List Mn) (vars : Int) : Bool := (List.range p.length).all (okAt p vars)
theorem xBD {p : List Mn} {vars : Int} : polyB p vars = true ↔ ∀ k, k < p.length → okAt p vars k = true := by
 simp [polyB, List.all_eq_true]
def smallB (m : Mn) : Bool := decide (m.2.length ≤ 512) && m.2.all (fun n => decide (n ≤ 64))
def boundsB (p : List Mn) : Bool := decide (p.length ≤ 256) && p.all smallB
def checkE (p : List Mn) (vars : Int) : Int := if vars < 0 then 1 else if polyB p vars = false then 20 else if boundsB p = false then 2 else 0
def checkAllE : List (List Mn) → Int
 | [] => 0
 | p :: r => if checkE p 9223372036854775807 = 0 then checkAllE r else checkE p 9223372036854775807
theorem cmpX_drop {az bs : List Int} : ∀ k, az.take k = bs.take k → k ≤ az.length → k ≤ bs.length → cmpX az bs = cmpX (az.drop k) (bs.drop k) := by
 intro k
 induction k generalizing az bs with
 | zero => intros; rfl
 | succ k ih =>
  intro h ha hb
  match az, bs with
  | [], _ => simp at ha
  | _ :: _, [] => simp at hb
  | a :: az, b :: bs =>
   simp only [List.take_succ_cons, List.cons.injEq] at h
   obtain ⟨rfl, h⟩ := h
   simp only [List.drop_succ_cons, cmpX, Int.lt_irrefl, if_false]
   exact ih h (by simpa using ha) (by simpa using hb)
theorem cmpX_self (az : List Int) : cmpX az az = 0 := by
 induction az with
 | nil => rfl
 | cons a az ih => simp [cmpX, ih]
theorem xAK {α : Type} {az : List α} {k : Nat} {x : α} (h : az[k]? = some x) : az.drop k = x :: az.drop (k + 1) := by
 have hk := (List.getElem?_eq_some_iff.1 h)
 obtain ⟨hk, rfl⟩ := hk
 exact List.drop_eq_getElem_cons hk
theorem xAY {α : Type} {az : List α} {k : Nat} {x : α} (h : az[k]? = some x) : az.take (k + 1) = az.take k ++ [x] := by
 rw [List.take_add_one, h]; rfl
theorem Sl.kp {w w' : World} {v : Value} {xs : List Nat} (h : Sl w v xs) (hk : Kp w w') : Sl w' v xs := by
 obtain ⟨hl, ao, cap, rfl, hc, hm, hx⟩ := h
 refine ⟨hl, ao, cap, rfl, hc, hm, fun h0 => ?_⟩
 obtain ⟨g, off, rfl, hg, hx⟩ := hx h0
 exact ⟨g, off, rfl, Nat.lt_of_lt_of_le hg hk.size, fun k x he => hk.cell _ _ (hx k x he)⟩
def Mo (w : World) (cv ev : Value) (m : Mn) : Prop := Sl w cv m.1 ∧ Is w ev m.2
theorem Mo.kp {w w' : World} {cv ev : Value} {m : Mn} (h : Mo w cv ev m) (hk : Kp w w') : Mo w' cv ev m := ⟨h.1.kp hk, h.2.kp hk⟩
def EM (w : World) (g o : Nat) (m : Mn) : Prop := ∃ cv ev, w.cell? ⟨g, o, none⟩ = some cv ∧ w.cell? ⟨g, o + 1, none⟩ = some ev ∧ Mo w cv ev m
theorem EM.kp {w w' : World} (hk : Kp w w') (g o : Nat) (m : Mn) (h : EM w g o m) : EM w' g o m := by
 obtain ⟨cv, ev, h1, h2, h3⟩ := h
 exact ⟨cv, ev, hk.cell _ _ h1, hk.cell _ _ h2, h3.kp hk⟩
def Ms (w : World) (v : Value) (p : List Mn) : Prop := Row EM 2 w v p
theorem Ms.kp {w w' : World} {v : Value} {p : List Mn} (h : Ms w v p) (hk : Kp w w') : Ms w' v p := Row.imp h hk.size (EM.kp hk)
def EV {β : Type} (R : World → Value → β → Prop) (w : World) (g o : Nat) (x : β) : Prop := ∃ u, w.cell? ⟨g, o, none⟩ = some u ∧ R w u x
def RsY (w : World) (v : Value) (xs : List (List Nat)) : Prop := Row (EV Sl) 1 w v xs
theorem RsY.kp {w w' : World} {v : Value} {xs : List (List Nat)} (h : RsY w v xs) (hk : Kp w w') : RsY w' v xs :=
 Row.imp h hk.size (fun _ _ _ ⟨u, h1, h2⟩ => ⟨u, hk.cell _ _ h1, h2.kp hk⟩)
def Ps (w : World) (v : Value) (xs : List (List Mn)) : Prop := Row (EV Ms) 1 w v xs
theorem Ps.kp {w w' : World} {v : Value} {xs : List (List Mn)} (h : Ps w v xs) (hk : Kp w w') : Ps w' v xs :=
 Row.imp h hk.size (fun _ _ _ ⟨u, h1, h2⟩ => ⟨u, hk.cell _ _ h1, h2.kp hk⟩)
theorem Ms.at {w : World} {ao : Option Addr} {n cap : Nat} {p : List Mn} (h : Ms w (.slice ao n cap) p) {k : Nat} (hk : k < p.length) :
  ∃ g off c es a1 c1 a2 c2, ao = some ⟨g, off, none⟩ ∧ p[k]? = some (c, es) ∧ w.cell? ⟨g, off + k * 2, none⟩ = some (.slice a1 c.length c1) ∧ w.cell? ⟨g, off + k * 2 + 1, none⟩ = some (.slice a2 es.length c2) ∧
   Mo w (.slice a1 c.length c1) (.slice a2 es.length c2) (c, es) ∧ c.length ≤ c1 ∧ c1 ≤ 9223372036854775807 ∧ es.length ≤ c2 ∧ c2 ≤ 9223372036854775807 := by
 obtain ⟨ao', cap', hv, _, _, hx⟩ := Row.flat h
 simp only [zZ] at hv
 obtain ⟨rfl, rfl, rfl⟩ := hv
 obtain ⟨g, off, ⟨c, es⟩, rfl, hm, cv, ev, h0, h1, hmo⟩ := hx k hk
 obtain ⟨a1, c1, hcv, hc1, hc2, _⟩ := hmo.1.flat
 obtain ⟨a2, c2, hev, he1, he2, _⟩ := Row.flat hmo.2
 simp only at hcv hev hc1 he1
 subst hcv; subst hev
 unfold maxLen at hc2 he2
 exact ⟨g, off, c, es, a1, c1, a2, c2, rfl, hm, h0, h1, hmo, hc1, by omega, he1, by omega⟩
theorem Ps.at {w : World} {ao : Option Addr} {n cap : Nat} {ps : List (List Mn)} (h : Ps w (.slice ao n cap) ps) {k : Nat} (hk : k < ps.length) :
  ∃ g off p a1 c1, ao = some ⟨g, off, none⟩ ∧ ps[k]? = some p ∧ w.cell? ⟨g, off + k, none⟩ = some (.slice a1 p.length c1) ∧ Ms w (.slice a1 p.length c1) p ∧ p.length ≤ c1 ∧ c1 ≤ 9223372036854775807 := by
 obtain ⟨ao', cap', hv, _, _, hx⟩ := Row.flat h
 simp only [zZ] at hv
 obtain ⟨rfl, rfl, rfl⟩ := hv
 obtain ⟨g, off, p, rfl, hm, u, h0, hmo⟩ := hx k hk
 obtain ⟨a1, c1, rfl, hc1, hc2, _⟩ := Row.flat hmo
 unfold maxLen at hc2
 rw [Nat.mul_one] at h0
 exact ⟨g, off, p, a1, c1, rfl, hm, h0, hmo, hc1, by omega⟩
theorem RsY.at {w : World} {ao : Option Addr} {n cap : Nat} {ps : List (List Nat)} (h : RsY w (.slice ao n cap) ps) {k : Nat} (hk : k < ps.length) :
  ∃ g off p a1 c1, ao = some ⟨g, off, none⟩ ∧ ps[k]? = some p ∧ w.cell? ⟨g, off + k, none⟩ = some (.slice a1 p.length c1) ∧ Sl w (.slice a1 p.length c1) p ∧ p.length ≤ c1 ∧ c1 ≤ 9223372036854775807 := by
 obtain ⟨ao', cap', hv, _, _, hx⟩ := Row.flat h
 simp only [zZ] at hv
 obtain ⟨rfl, rfl, rfl⟩ := hv
 obtain ⟨g, off, p, rfl, hm, u, h0, hmo⟩ := hx k hk
 obtain ⟨a1, c1, rfl, hc1, hc2, _⟩ := hmo.flat
 unfold maxLen at hc2
 rw [Nat.mul_one] at h0
 exact ⟨g, off, p, a1, c1, rfl, hm, h0, hmo, hc1, by omega⟩
theorem box2Y {w w1 : World} {c e : Value} {t : TypeId} (hb : Below (w.alloc (.cells #[c, e] t)).heap.size (w.alloc (.cells #[c, e] t)) w1) :
  w1.cell? ⟨w.heap.size, 0, none⟩ = some c ∧ w1.cell? ⟨w.heap.size, 1, none⟩ = some e ∧ Below w.heap.size w w1 := by
 refine ⟨?_, ?_, zS (zA _) hb⟩
 ·rw [hb.cell (by simp)]; simp
 rw [hb.cell (by simp)]; simp
end Go.Proofs.YtdjmjhlbjcgoiaaGreatDoor
