/- Texts of the proof, one behind the other. -/
import Derived.Test.YtdjmjhlbjcgoiaaGreatDoorOwn11
import Derived.Test.YtdjmjhlbjcgoiaaGreatDoorRows
import Derived.ProofKit
import Derived.OpenShut
import Derived.ShutString
import Derived.ChangeOld
import Derived.Deep.Slices
import Derived.Deep.SlicePairs
import Derived.SizedLaws
import Derived.Deep.Upon
set_option maxRecDepth 1000000
set_option maxHeartbeats 6400000
namespace Go.Proofs.YtdjmjhlbjcgoiaaGreatDoor
open Go.ChangeShapes Go.WideShapes Go.ChangeAt Go.RowKit Go.Deep
theorem xFG {w : World} {a : Addr} {v : Value} (h : w.cell? (a.add 0) = some v) : ∃ g off, a = ⟨g, off, none⟩ ∧ g < w.heap.size := by
 obtain ⟨b, off, spot⟩ := a
 have hspot : spot = none := by simpa [Addr.add] using World.cell?_spot h
 subst hspot
 refine ⟨b, off, rfl, ?_⟩
 rw [Addr.add_lit] at h
 exact yJ w _ h
def Fit (R : Nat) (p : List Mn) : Prop := p.length * 48 ≤ R ∧ ∀ m ∈ p, m.1.length * 4 ≤ R ∧ m.2.length * 8 ≤ R
theorem xEP {H : Type} {P : Program} {t e : TypeId} {d : DataW H} {elems spare : List (DataW H)} (hd : d = .slice elems spare) (hu : P.underlying t = some (.slice e)) : (elems.length + spare.length) * P.bytesOf e ∈ d.weights P t := by
 subst hd
 simp [DataW.weights, hu]
theorem weight_allY {H : Type} {P : Program} {e : TypeId} {d : DataW H} {n : Nat} : ∀ {l : List (DataW H)}, d ∈ l → n ∈ d.weights P e → n ∈ DataW.weightsAll P e l
 | [], h, _ => by cases h
 | x :: r, h, hn => by
  unfold DataW.weightsAll
  rcases yB.1 h with rfl | h
  ·exact List.mem_append_left _ hn
  exact List.mem_append_right _ (weight_allY h hn)
theorem weight_elemY {H : Type} {P : Program} {t e : TypeId} {d y : DataW H} {n : Nat} {elems spare : List (DataW H)} (hd : d = .slice elems spare) (hu : P.underlying t = some (.slice e)) (hy : y ∈ elems) (hn : n ∈ y.weights P e) : n ∈ d.weights P t := by
 subst hd
 have := weight_allY hy hn
 simp [DataW.weights, hu, this]
theorem weight_aggY {H : Type} {P : Program} {t u : TypeId} {fs : Array Field} {parts : List (DataW H)} {y : DataW H} {j n : Nat} (hu : P.underlying t = some (.struct fs)) (hj : (fs.toList.map (·.type))[j]? = some u) (hp : parts[j]? = some y) (hn : n ∈ y.weights P u) : n ∈ (DataW.agg parts).weights P t := by
 have := DataW.weights_mem_each hj hp n hn
 simp [DataW.weights, hu, this]
theorem open_limbs {H : Type} {enc : TypeId × Value → H} {W : World} {base fuel : Nat} {held : Bool} {cs : List Value} {x : DataW H × List MemPlace}
  (h : DataW.trod enc Tryz.prog W base (fun _ => true) held fuel 35 cs = some x) : ∃ v xs, cs = [v] ∧ Sl W v xs ∧ ∀ R, (∀ n ∈ x.1.weights Tryz.prog 35, n ≤ R) → xs.length * 4 ≤ R := by
 rcases open_ints Tryz.underlying35 Tryz.underlying38 (by kernel_rfl) h with ⟨rfl, _⟩ | ⟨a, len, cap, zs, rfl, _, hl, hm, hz, hx, hcell, hwz⟩
 ·exact ⟨_, [], rfl, ⟨by intro y hy; simp at hy, none, 0, rfl, by simp, by simp [maxLen], by simp⟩, by simp⟩
 simp only [if_true] at hz
 have hlen : ((zs.take len).map Int.toNat).length = len := by simp; omega
 have hfit : ∀ R, (∀ n ∈ x.1.weights Tryz.prog 35, n ≤ R) → len * 4 ≤ R := by
  intro R hR
  have := hR _ (xEP (by rw [hx]) Tryz.underlying35)
  rw [show Tryz.prog.bytesOf 38 = 4 by kernel_rfl] at this
  simp only [lits, zJ, zH, zI] at this
  omega
 refine ⟨_, (zs.take len).map Int.toNat, rfl, ⟨?_, some a, cap, by rw [hlen], by omega, hm, fun h0 => ?_⟩, by rw [hlen]; exact hfit⟩
 ·intro y hy
  obtain ⟨z, hz1, rfl⟩ := yL.1 hy
  have := bounds_u32 (hwz z (List.mem_of_mem_take hz1))
  omega
 rw [hlen] at h0
 obtain ⟨g, off, rfl, hg⟩ := xFG (hcell 0 (by omega))
 refine ⟨g, off, rfl, hg, fun k y hk => ?_⟩
 have hkl : k < len := by have := (zB.1 hk).1; omega
 have h1 := hcell k (by omega)
 rw [Addr.add_lit] at h1
 rw [h1]
 have hkz : k < zs.length := by omega
 have h2 := bounds_u32 (hwz zs[k] (List.getElem_mem hkz))
 simp only [zU, List.getElem?_take_of_lt hkl, zC hkz, Option.map_some, zX] at hk
 rw [List.getD_eq_getElem?_getD, zC hkz, Option.getD_some, ← hk]
 congr 2
 omega
theorem open_numsY {H : Type} {enc : TypeId × Value → H} {W : World} {base fuel : Nat} {held : Bool} {cs : List Value} {x : DataW H × List MemPlace}
  (h : DataW.trod enc Tryz.prog W base (fun _ => true) held fuel 30 cs = some x) : ∃ v xs, cs = [v] ∧ Is W v xs ∧ ∀ R, (∀ n ∈ x.1.weights Tryz.prog 30, n ≤ R) → xs.length * 8 ≤ R := by
 rcases open_ints Tryz.underlying30 Tryz.underlying3 (by kernel_rfl) h with ⟨rfl, _⟩ | ⟨a, len, cap, zs, rfl, _, hl, hm, hz, hx, hcell, hwz⟩
 ·exact ⟨_, [], rfl, Row.nil (by simp [maxLen]), by simp⟩
 simp only [if_true] at hz
 have hlen : (zs.take len).length = len := by simp; omega
 have hfit : ∀ R, (∀ n ∈ x.1.weights Tryz.prog 30, n ≤ R) → len * 8 ≤ R := by
  intro R hR
  have := hR _ (xEP (by rw [hx]) Tryz.underlying30)
  rw [show Tryz.prog.bytesOf 3 = 8 by kernel_rfl] at this
  simp only [lits, zJ, zH, zI] at this
  omega
 refine ⟨_, zs.take len, rfl, ⟨some a, cap, by rw [hlen], by omega, hm, fun h0 => ?_⟩, by rw [hlen]; exact hfit⟩
 rw [hlen] at h0
 obtain ⟨g, off, rfl, hg⟩ := xFG (hcell 0 (by omega))
 refine ⟨g, off, rfl, hg, fun k y hk => ?_⟩
 have hkl : k < len := by have := (zB.1 hk).1; omega
 have h1 := hcell k (by omega)
 rw [Addr.add_lit] at h1
 have hkz : k < zs.length := by omega
 have h2 := bounds_i64 (hwz zs[k] (List.getElem_mem hkz))
 rw [List.getElem?_take_of_lt hkl, zC hkz, zX] at hk
 rw [List.getD_eq_getElem?_getD, zC hkz, Option.getD_some] at h1
 subst hk
 rw [Nat.mul_one]
 exact ⟨by omega, by omega, h1⟩
theorem open_monos {H : Type} {enc : TypeId × Value → H} {W : World} {base fuel : Nat} {held : Bool} {cs : List Value} {x : DataW H × List MemPlace}
  (h : DataW.trod enc Tryz.prog W base (fun _ => true) held fuel 31 cs = some x) : ∃ v p, cs = [v] ∧ Ms W v p ∧ ∀ R, (∀ n ∈ x.1.weights Tryz.prog 31, n ≤ R) → Fit R p := by
 rcases open_slice_pairs Tryz.underlying31 Tryz.underlying37 (by kernel_rfl) rfl rfl (by kernel_rfl) (by kernel_rfl) h with ⟨rfl, _⟩ | ⟨a, len, cap, m, n, V0, V1, D0, D1, P0, P1, rfl, _, hl, hm, hmm, hx, hall⟩
 ·exact ⟨_, [], rfl, Row.nil (by simp [maxLen]), fun R _ => ⟨by simp, by simp⟩⟩
 simp only [if_true] at hmm
 have each : ∀ i, i < m → ∃ q : Mn, Mo W (V0 i) (V1 i) q ∧ ∀ R, (∀ n ∈ (D0 i).weights Tryz.prog 35, n ≤ R) → (∀ n ∈ (D1 i).weights Tryz.prog 30, n ≤ R) → q.1.length * 4 ≤ R ∧ q.2.length * 8 ≤ R := by
  intro i hi
  obtain ⟨_, _, t0, t1⟩ := hall i hi
  obtain ⟨v0, c, e0, hc, hf0⟩ := open_limbs t0
  obtain ⟨v1, e, e1, he, hf1⟩ := open_numsY t1
  simp only [List.cons.injEq, and_true] at e0 e1
  subst e0; subst e1
  exact ⟨(c, e), ⟨hc, he⟩, fun R h0 h1 => ⟨hf0 R h0, hf1 R h1⟩⟩
 obtain ⟨q, hq⟩ := choose_lt each
 have hlen : ((List.range len).map q).length = len := by simp
 have hfit : ∀ R, (∀ n ∈ x.1.weights Tryz.prog 31, n ≤ R) → Fit R ((List.range len).map q) := by
  intro R hR
  have hx1 : x.1 = .slice ((List.range len).map fun i => .agg [D0 i, D1 i]) ((List.range (m - len)).map fun j => .agg [D0 (len + j), D1 (len + j)]) := by rw [hx]
  refine ⟨?_, fun y hy => ?_⟩
  ·have := hR _ (xEP hx1 Tryz.underlying31)
   rw [show Tryz.prog.bytesOf 37 = 48 by kernel_rfl] at this
   simp only [zJ, List.length_range] at this
   rw [hlen]
   omega
  obtain ⟨i, hi, rfl⟩ := yL.1 hy
  have hi2 := List.mem_range.1 hi
  have hin : ∀ n ∈ (DataW.agg [D0 i, D1 i]).weights Tryz.prog 37, n ≤ R := fun n hn => hR n (weight_elemY hx1 Tryz.underlying31 (yL.2 ⟨i, hi, rfl⟩) hn)
  refine (hq i (by omega)).2 R (fun n hn => hin n ?_) (fun n hn => hin n ?_)
  ·exact weight_aggY Tryz.underlying37 (j := 0) rfl rfl hn
  exact weight_aggY Tryz.underlying37 (j := 1) rfl rfl hn
 refine ⟨_, (List.range len).map q, rfl, ⟨some a, cap, by rw [hlen], by omega, hm, fun h0 => ?_⟩, hfit⟩
 rw [hlen] at h0
 obtain ⟨g, off, rfl, hg⟩ := xFG (hall 0 (by omega)).1
 refine ⟨g, off, rfl, hg, fun k y hk => ?_⟩
 have hkl : k < len := by have := (zB.1 hk).1; omega
 obtain ⟨h0, h1, _⟩ := hall k (by omega)
 rw [Addr.add_lit] at h0 h1
 simp only [zU, List.getElem?_range hkl, Option.map_some, zX] at hk
 subst hk
 exact ⟨V0 k, V1 k, h0, h1, (hq k (by omega)).1⟩
theorem open_rowsY {H : Type} {enc : TypeId × Value → H} {W : World} {base fuel : Nat} {held : Bool} {cs : List Value} {x : DataW H × List MemPlace}
  (h : DataW.trod enc Tryz.prog W base (fun _ => true) held fuel 54 cs = some x) : ∃ v xs, cs = [v] ∧ RsY W v xs := by
 rcases open_slice1 Tryz.underlying54 (by kernel_rfl) h with ⟨rfl, _⟩ | ⟨a, len, cap, m, n, V, D, Pl, rfl, _, hl, hm, hmm, _, hall⟩
 ·exact ⟨_, [], rfl, Row.nil (by simp [maxLen])⟩
 simp only [if_true] at hmm
 have each : ∀ i, i < m → ∃ q : List Nat, Sl W (V i) q := by
  intro i hi
  obtain ⟨v0, c, e0, hc, _⟩ := open_limbs (hall i hi).2
  simp only [List.cons.injEq, and_true] at e0
  subst e0
  exact ⟨c, hc⟩
 obtain ⟨q, hq⟩ := choose_lt each
 have hlen : ((List.range len).map q).length = len := by simp
 refine ⟨_, (List.range len).map q, rfl, some a, cap, by rw [hlen], by omega, hm, fun h0 => ?_⟩
 rw [hlen] at h0
 obtain ⟨g, off, rfl, hg⟩ := xFG (hall 0 (by omega)).1
 refine ⟨g, off, rfl, hg, fun k y hk => ?_⟩
 have hkl : k < len := by have := (zB.1 hk).1; omega
 have h0 := (hall k (by omega)).1
 rw [Addr.add_lit] at h0
 simp only [zU, List.getElem?_range hkl, Option.map_some, zX] at hk
 subst hk
 rw [Nat.mul_one]
 exact ⟨V k, h0, hq k (by omega)⟩
end Go.Proofs.YtdjmjhlbjcgoiaaGreatDoor
namespace Go.Proofs.YtdjmjhlbjcgoiaaGreatDoor
open Go.RowKit Go.Maps
def onlyY (A : Nat → Bool) (w : World) : World := { w with heap := w.heap.mapIdx fun g o => if A g then o else .cells #[] 0 }
theorem xBY (A : Nat → Bool) (w : World) : (onlyY A w).heap.size = w.heap.size := by simp [onlyY]
theorem only_blockY {A : Nat → Bool} {w : World} {g : Nat} (h : A g = true) : (onlyY A w).heap[g]? = w.heap[g]? := by
 simp only [onlyY, Array.getElem?_mapIdx, h, if_true]
 cases w.heap[g]? <;> rfl
theorem only_notY {A : Nat → Bool} {w : World} {a : Addr} (h : ¬ A a.block = true) : (onlyY A w).cell? a = none := by
 have hf : A a.block = false := by simpa using h
 unfold World.cell?
 simp only [onlyY, Array.getElem?_mapIdx]
 cases w.heap[a.block]? with
 | none => rfl
 | some o => simp [hf]
theorem xDW {A : Nat → Bool} {w : World} {a : Addr} (h : A a.block = true) : (onlyY A w).cell? a = w.cell? a := by
 unfold World.cell?
 rw [only_blockY h]
theorem only_kp (A : Nat → Bool) (w : World) : Kp (onlyY A w) w := by
 refine ⟨by rw [xBY]; exact Nat.le_refl _, fun a v hv => ?_⟩
 by_cases h : A a.block = true
 ·rw [xDW h] at hv
  exact hv
 rw [only_notY h] at hv
 cases hv
theorem only_step {A : Nat → Bool} {w w' : World} (hs : w.heap.size ≤ w'.heap.size) (h : ∀ g, g < w.heap.size → A g = true → w'.heap[g]? = w.heap[g]?) : Kp (onlyY A w) (onlyY A w') := by
 refine ⟨by rw [xBY, xBY]; exact hs, fun a v hv => ?_⟩
 by_cases hA : A a.block = true
 ·have hlt := yJ _ _ hv
  rw [xBY] at hlt
  rw [xDW hA] at hv ⊢
  rw [World.cell?_of_block (h _ hlt hA)]
  exact hv
 rw [only_notY hA] at hv
 cases hv
theorem only_below {A : Nat → Bool} {w w' : World} (h : Below w.heap.size w w') : Kp (onlyY A w) (onlyY A w') := only_step h.size fun g hg _ => h.block g hg
theorem only_old {A : Nat → Bool} {w : World} (h : ∀ g, g < w.heap.size → A g = true) : Kp w (onlyY A w) := by
 refine ⟨by rw [xBY]; exact Nat.le_refl _, fun a v hv => ?_⟩
 rw [xDW (h _ (yJ _ _ hv))]
 exact hv
theorem only_owns {A : Nat → Bool} {w : World} {base : Nat} {e : TypeId} {s n : Nat} {v : Value} {xs : List Value} (h : w.ownsRow base e s v n xs) (hA : ∀ g, base ≤ g → A g = true) : (onlyY A w).ownsRow base e s v n xs := by
 refine ⟨h.1, ?_⟩
 rcases h.2 with h | ⟨g, cap, cur, hv, hb, hg, r⟩
 ·exact .inl h
 exact .inr ⟨g, cap, cur, hv, hb, by rw [only_blockY (hA g hb)]; exact hg, r⟩
def bigN : Nat := 4294967296 ^ 64
theorem xDG (n : Nat) : (limbs n).length ≤ 64 ↔ n < bigN := by
 refine ⟨fun h => ?_, fun h => length_limbs_le h⟩
 have h1 := val_lt (xCT n)
 rw [val_limbs] at h1
 exact Nat.lt_of_lt_of_le h1 (Nat.pow_le_pow_right (by omega) h)
def RtY (xs : List Nat) (n : Nat) : Prop := xs = limbs n ∧ n < bigN
theorem RtY.right {xs : List Nat} {n : Nat} (h : RtY xs n) : rightB xs = true := by
 rw [h.1, rightB_limbs]
 exact decide_eq_true ((xDG n).2 h.2)
theorem RtY.val {xs : List Nat} {n : Nat} (h : RtY xs n) : val xs = n := by rw [h.1, val_limbs]
theorem RtY.of {xs : List Nat} (h : Lim xs) (hr : rightB xs = true) : RtY xs (Go.Proofs.YtdjmjhlbjcgoiaaGreatDoor.val xs) :=
 ⟨(xBE h hr).symm, (xDG _).1 (by rw [xBE h hr]; exact xAV hr)⟩
theorem res_ok {n : Nat} (h : n < bigN) : resL n = limbs n ∧ resE n = 0 := by
 unfold resL resE
 rw [if_pos ((xDG n).2 h), if_pos ((xDG n).2 h)]
 exact ⟨rfl, rfl⟩
theorem res_no {n : Nat} (h : bigN ≤ n) : resL n = [] ∧ resE n = 2 := by
 have : ¬ (limbs n).length ≤ 64 := fun hh => by have := (xDG n).1 hh; omega
 unfold resL resE
 rw [if_neg this, if_neg this]
 exact ⟨rfl, rfl⟩
theorem mul_ok {xs ys : List Nat} {a b : Nat} (h : RtY xs a) (h' : RtY ys b) (hb : a * b < bigN) : mulE xs ys = 0 ∧ RtY (mulL xs ys) (a * b) := by
 unfold mulE mulL
 rw [h.right, h'.right, h.val, h'.val, (res_ok hb).1, (res_ok hb).2]
 exact ⟨rfl, rfl, hb⟩
theorem mul_no {xs ys : List Nat} {a b : Nat} (h : RtY xs a) (h' : RtY ys b) (hb : bigN ≤ a * b) : mulE xs ys = 2 ∧ mulL xs ys = [] := by
 unfold mulE mulL
 rw [h.right, h'.right, h.val, h'.val, (res_no hb).1, (res_no hb).2]
 exact ⟨rfl, rfl⟩
theorem add_ok {xs ys : List Nat} {a b : Nat} (h : RtY xs a) (h' : RtY ys b) (hb : a + b < bigN) : addE xs ys = 0 ∧ RtY (addL xs ys) (a + b) := by
 unfold addE addL
 rw [h.right, h'.right, h.val, h'.val, (res_ok hb).1, (res_ok hb).2]
 exact ⟨rfl, rfl, hb⟩
theorem add_no {xs ys : List Nat} {a b : Nat} (h : RtY xs a) (h' : RtY ys b) (hb : bigN ≤ a + b) : addE xs ys = 2 ∧ addL xs ys = [] := by
 unfold addE addL
 rw [h.right, h'.right, h.val, h'.val, (res_no hb).1, (res_no hb).2]
 exact ⟨rfl, rfl⟩
def ans (n : Nat) : List Nat × Int := if n < bigN then (limbs n, 0) else ([], 2)
theorem ans_ok {n : Nat} (h : n < bigN) : ans n = (limbs n, 0) := if_pos h
theorem ans_no {n : Nat} (h : bigN ≤ n) : ans n = ([], 2) := if_neg (by omega)
theorem powGo_spec {a : List Nat} {F n : Nat} (hF : 1 ≤ F) (ha : RtY a F) : ∀ (b : Nat) (out : List Nat), RtY out (F ^ (n / 2 ^ b)) → powGo mulL mulE [] a n b out = ans (F ^ n) := by
 intro b
 induction b with
 | zero =>
  intro out h
  rw [Nat.pow_zero, Nat.div_one] at h
  unfold powGo
  rw [ans_ok h.2, h.1]
 | succ b ih =>
  intro out h
  have hdiv : n / 2 ^ b = 2 * (n / 2 ^ (b + 1)) + n / 2 ^ b % 2 := by
   rw [Nat.pow_succ, ← Nat.div_div_eq_div_mul]
   omega
  have hle : n / 2 ^ b ≤ n := Nat.div_le_self _ _
  have hsq : F ^ (n / 2 ^ (b + 1)) * F ^ (n / 2 ^ (b + 1)) = F ^ (2 * (n / 2 ^ (b + 1))) := by rw [← Nat.pow_add]; congr 1; omega
  unfold powGo
  by_cases h1 : F ^ (2 * (n / 2 ^ (b + 1))) < bigN
  ·obtain ⟨e1, r1⟩ := mul_ok h h (by rw [hsq]; exact h1)
   rw [hsq] at r1
   rw [if_pos e1]
   by_cases h2 : n / 2 ^ b % 2 = 1
   ·rw [if_pos h2]
    have hst : F ^ (2 * (n / 2 ^ (b + 1))) * F = F ^ (n / 2 ^ b) := by rw [← Nat.pow_succ]; congr 1; omega
    by_cases h3 : F ^ (n / 2 ^ b) < bigN
    ·obtain ⟨e2, r2⟩ := mul_ok r1 ha (by rw [hst]; exact h3)
     rw [hst] at r2
     rw [if_pos e2]
     exact ih _ r2
    obtain ⟨e2, _⟩ := mul_no r1 ha (by rw [hst]; omega)
    rw [if_neg (by rw [e2]; decide), e2, ans_no (Nat.le_trans (by omega) (Nat.pow_le_pow_right hF hle))]
   rw [if_neg h2]
   refine ih _ ?_
   rw [show n / 2 ^ b = 2 * (n / 2 ^ (b + 1)) by omega]
   exact r1
  obtain ⟨e1, _⟩ := mul_no h h (by rw [hsq]; omega)
  rw [if_neg (by rw [e1]; decide), e1, ans_no (Nat.le_trans (show bigN ≤ F ^ (2 * (n / 2 ^ (b + 1))) by omega) (Nat.pow_le_pow_right hF (by omega)))]
theorem bit_top {n : Nat} (h1 : 1 ≤ n) (h2 : n ≤ 64) : n / 2 ^ (Lib.bitLen n - 1) = 1 := by
 have h : ∀ k : Fin 65, 1 ≤ k.1 → k.1 / 2 ^ (Lib.bitLen k.1 - 1) = 1 := by decide +kernel
 exact h ⟨n, by omega⟩ h1
theorem pow_spec {a : List Nat} {F n : Nat} (hF : 1 ≤ F) (ha : RtY a F) (hn : 1 ≤ n) (hn2 : n ≤ 64) : powGo mulL mulE [] a n (Lib.bitLen n - 1) a = ans (F ^ n) := by
 refine powGo_spec hF ha _ _ ?_
 rw [bit_top hn hn2, Nat.pow_one]
 exact ha
def prodW : List Int → List (List Nat) → Nat
 | [], _ => 1
 | _ :: _, [] => 1
 | n :: es, f :: fs => val f ^ n.toNat * prodW es fs
theorem val_pos {f : List Nat} (h : Lim f) (hr : rightB f = true) (h0 : ¬ f.length = 0) : 1 ≤ val f := by
 rcases Nat.eq_zero_or_pos (val f) with h1 | h1
 ·have := xBE h hr
  rw [h1, xBK] at this
  rw [← this] at h0
  exact absurd rfl h0
 exact h1
theorem xGF {n : Int} {es : List Int} {f : List Nat} {fs : List (List Nat)} : noughtB (n :: es) (f :: fs) = (decide (0 < n) && f.length == 0 || noughtB es fs) := rfl
theorem prodW_pos : ∀ {es : List Int} {fs : List (List Nat)}, (∀ f ∈ fs, Lim f ∧ rightB f = true) → (∀ n ∈ es, 0 ≤ n ∧ n ≤ 64) → noughtB es fs = false → 1 ≤ prodW es fs
 | [], _, _, _, _ => by simp [prodW]
 | _ :: _, [], _, _, _ => by simp [prodW]
 | n :: es, f :: fs, hf, hn, h => by
  rw [xGF, Bool.or_eq_false_iff] at h
  unfold prodW
  have h1 := prodW_pos (es := es) (fs := fs) (fun g hg => hf g (zT _ hg)) (fun m hm => hn m (zT _ hm)) h.2
  by_cases h0 : n = 0
  ·subst h0
   simpa using h1
  have hp : 0 < n := by have := hn n (by simp); omega
  have h2 : ¬ f.length = 0 := by
   have := h.1
   simp [hp] at this
   simpa using this
  have h3 := val_pos (hf f (by simp)).1 (hf f (by simp)).2 h2
  exact Nat.mul_pos (Nat.pow_pos h3) h1
theorem prodW_nought : ∀ {es : List Int} {fs : List (List Nat)}, noughtB es fs = true → prodW es fs = 0
 | [], _, h => by simp [noughtB] at h
 | _ :: _, [], h => by simp [noughtB] at h
 | n :: es, f :: fs, h => by
  rw [xGF, Bool.or_eq_true] at h
  unfold prodW
  rcases h with h | h
  ·simp only [Bool.and_eq_true, yY, beq_iff_eq] at h
   have : f = [] := zE h.2
   subst this
   have h2 : n.toNat ≠ 0 := by omega
   rw [show val [] = 0 from rfl, Nat.zero_pow (by omega), Nat.zero_mul]
  rw [prodW_nought h, Nat.mul_zero]
theorem xEO : ∀ {es : List Int} {fs : List (List Nat)} {c : List Nat} {C : Nat}, (∀ f ∈ fs, Lim f ∧ rightB f = true) → (∀ n ∈ es, 0 ≤ n ∧ n ≤ 64) → noughtB es fs = false → RtY c C → 1 ≤ C →
  worthGo mulL mulE es fs c = ans (C * prodW es fs)
 | [], fs, c, C, _, _, _, hc, _ => by
  unfold worthGo prodW
  rw [Nat.mul_one, ans_ok hc.2, hc.1]
 | _ :: _, [], c, C, _, _, _, hc, _ => by
  unfold worthGo prodW
  rw [Nat.mul_one, ans_ok hc.2, hc.1]
 | n :: es, f :: fs, c, C, hf, hn, h, hc, h1 => by
  have hh := h
  rw [xGF, Bool.or_eq_false_iff] at h
  have hf' : ∀ g ∈ fs, Lim g ∧ rightB g = true := fun g hg => hf g (zT _ hg)
  have hn' : ∀ m ∈ es, 0 ≤ m ∧ m ≤ 64 := fun m hm => hn m (zT _ hm)
  have hpos := prodW_pos hf' hn' h.2
  unfold worthGo prodW
  by_cases h0 : n = 0
  ·subst h0
   rw [if_pos rfl, xEO hf' hn' h.2 hc h1]
   simp
  have hp : 0 < n := by have := hn n (by simp); omega
  have h2 : ¬ f.length = 0 := by
   have := h.1
   simp [hp] at this
   simpa using this
  have hfr := hf f (by simp)
  have h3 := val_pos hfr.1 hfr.2 h2
  have hN : 1 ≤ n.toNat := by omega
  have hN2 : n.toNat ≤ 64 := by have := hn n (by simp); omega
  rw [if_neg h0, pow_spec h3 (RtY.of hfr.1 hfr.2) hN hN2]
  have hFp : 1 ≤ val f ^ n.toNat := Nat.pow_pos h3
  by_cases h4 : val f ^ n.toNat < bigN
  ·rw [ans_ok h4, if_pos rfl]
   have hR : RtY (limbs (val f ^ n.toNat)) (val f ^ n.toNat) := ⟨rfl, h4⟩
   by_cases h5 : C * val f ^ n.toNat < bigN
   ·obtain ⟨e1, r1⟩ := mul_ok hc hR h5
    rw [if_pos e1, xEO hf' hn' h.2 r1 (Nat.mul_pos h1 hFp), Nat.mul_assoc]
   obtain ⟨e1, r1⟩ := mul_no hc hR (by omega)
   rw [if_neg (by rw [e1]; decide), e1, ans_no]
   rw [← Nat.mul_assoc]
   exact Nat.le_trans (by omega) (Nat.le_mul_of_pos_right _ hpos)
  rw [ans_no (by omega), if_neg (by decide), ans_no]
  have h6 : val f ^ n.toNat ≤ C * (val f ^ n.toNat * prodW es fs) := Nat.le_trans (Nat.le_mul_of_pos_right _ hpos) (Nat.le_mul_of_pos_left _ h1)
  omega
theorem worthV_spec {es : List Int} {fs : List (List Nat)} {c : List Nat} {C : Nat} (hf : ∀ f ∈ fs, Lim f ∧ rightB f = true) (hn : ∀ n ∈ es, 0 ≤ n ∧ n ≤ 64) (hc : RtY c C) (h1 : 1 ≤ C) : worthV mulL mulE es fs c = ans (C * prodW es fs) := by
 unfold worthV
 cases h : noughtB es fs
 ·rw [if_neg (by simp)]
  exact xEO hf hn h hc h1
 rw [if_pos rfl, prodW_nought h, Nat.mul_zero, ans_ok (by unfold bigN; exact Nat.pow_pos (by omega))]
 rfl
def worthN (ats : List (List Nat)) : List Mn → Nat
 | [] => 0
 | m :: p => val m.1 * prodW m.2 ats + worthN ats p
def GoodM (m : Mn) : Prop := Lim m.1 ∧ rightB m.1 = true ∧ ¬ m.1.length = 0 ∧ ∀ n ∈ m.2, 0 ≤ n ∧ n ≤ 64
theorem valGo_spec {ats : List (List Nat)} (hf : ∀ f ∈ ats, Lim f ∧ rightB f = true) : ∀ {p : List Mn} {t : List Nat} {T : Nat}, (∀ m ∈ p, GoodM m) → RtY t T → valGo ats t p = ans (T + worthN ats p)
 | [], t, T, _, ht => by
  unfold valGo worthN
  rw [Nat.add_zero, ans_ok ht.2, ht.1]
 | m :: p, t, T, hg, ht => by
  obtain ⟨g1, g2, g3, g4⟩ := hg m (by simp)
  unfold valGo worthN
  rw [worthV_spec hf g4 (RtY.of g1 g2) (val_pos g1 g2 g3)]
  by_cases h1 : val m.1 * prodW m.2 ats < bigN
  ·rw [ans_ok h1, if_pos rfl]
   have hR : RtY (limbs (val m.1 * prodW m.2 ats)) (val m.1 * prodW m.2 ats) := ⟨rfl, h1⟩
   by_cases h2 : T + val m.1 * prodW m.2 ats < bigN
   ·obtain ⟨e1, r1⟩ := add_ok ht hR h2
    rw [if_pos e1, valGo_spec hf (fun n hn => hg n (zT _ hn)) r1, Nat.add_assoc]
   obtain ⟨e1, _⟩ := add_no ht hR (by omega)
   rw [if_neg (by rw [e1]; decide), e1, ans_no (by omega)]
  rw [ans_no (by omega), if_neg (by decide), ans_no (by omega)]
def SortedX : List Mn → Prop
 | [] => True
 | [_] => True
 | m :: n :: r => cmpX m.2 n.2 < 0 ∧ SortedX (n :: r)
theorem SortedX.tail {m : Mn} {r : List Mn} (h : SortedX (m :: r)) : SortedX r := by
 cases r with
 | nil => exact trivial
 | cons n r => exact h.2
theorem SortedX.head {m n : Mn} {r : List Mn} (h : SortedX (m :: r)) (hn : r[0]? = some n) : cmpX m.2 n.2 < 0 := by
 cases r with
 | nil => simp at hn
 | cons n' r =>
  simp at hn
  subst hn
  exact h.1
theorem sortedX_of {p : List Mn} (h : ∀ k m n, p[k]? = some m → p[k + 1]? = some n → cmpX m.2 n.2 < 0) : SortedX p := by
 induction p with
 | nil => exact trivial
 | cons m r ih =>
  cases r with
  | nil => exact trivial
  | cons n r => exact ⟨h 0 m n rfl rfl, ih fun k a b ha hb => h (k + 1) a b ha hb⟩
theorem polyB_sorted {p : List Mn} {vars : Int} (h : polyB p vars = true) : SortedX p := by
 refine sortedX_of fun k m n hm hn => ?_
 have := xBD.1 h (k + 1) (zB.1 hn).1
 unfold okAt at this
 simp only [Bool.and_eq_true, Bool.or_eq_true, beq_iff_eq, yY] at this
 have h2 := this.2.resolve_left (by omega)
 unfold expsAt at h2
 rw [Nat.add_sub_cancel, hm, hn] at h2
 exact h2
theorem polyB_good {p : List Mn} {vars : Int} (h : polyB p vars = true) {m : Mn} (hm : m ∈ p) : monB m = true ∧ (m.2.length : Int) ≤ vars := by
 obtain ⟨k, hk⟩ := zW.1 hm
 have := xBD.1 h k (zB.1 hk).1
 unfold okAt at this
 rw [hk] at this
 simp only [Bool.and_eq_true, yY] at this
 exact this.1
structure Pol (p : List Mn) : Prop where
 lim : ∀ m ∈ p, Lim m.1
 mon : ∀ m ∈ p, monB m = true
 sort : SortedX p
 small : ∀ m ∈ p, m.2.length ≤ 512 ∧ ∀ n ∈ m.2, n ≤ 64
 len : p.length ≤ 256
theorem xDJ {p : List Mn} {vars : Int} (hv : ¬ vars < 0) : checkE p vars = 0 ↔ polyB p vars = true ∧ boundsB p = true := by
 unfold checkE
 rw [if_neg hv]
 cases hp : polyB p vars <;> cases hb : boundsB p <;> simp
theorem Pol.of {p : List Mn} {vars : Int} (hl : ∀ m ∈ p, Lim m.1) (hv : ¬ vars < 0) (h : checkE p vars = 0) : Pol p := by
 obtain ⟨h1, h2⟩ := (xDJ hv).1 h
 simp only [boundsB, smallB, Bool.and_eq_true, yY, List.all_eq_true] at h2
 exact ⟨hl, fun m hm => (polyB_good h1 hm).1, polyB_sorted h1, h2.2, h2.1⟩
theorem Pol.good {p : List Mn} (h : Pol p) {m : Mn} (hm : m ∈ p) : GoodM m := by
 have h1 := h.mon m hm
 obtain ⟨c, es⟩ := m
 simp only [monB, Bool.and_eq_true, List.all_eq_true, yY, Bool.not_eq_true', zY, ne_eq] at h1
 exact ⟨h.lim _ hm, h1.1.1.2, h1.1.1.1, fun n hn => ⟨h1.1.2 n hn, (h.small _ hm).2 n hn⟩⟩
theorem okAt_vars {p : List Mn} {a b : Int} {k : Nat} (h : okAt p a k = true) (hb : ∀ m, p[k]? = some m → (m.2.length : Int) ≤ b) : okAt p b k = true := by
 unfold okAt at h ⊢
 cases hk : p[k]? with
 | none => rw [hk] at h; simp at h
 | some m =>
  rw [hk] at h
  simp only [Bool.and_eq_true, yY] at h ⊢
  exact ⟨⟨h.1.1, hb m hk⟩, h.2⟩
theorem check_vars {p : List Mn} {a b : Int} (ha : ¬ a < 0) (hb : 512 ≤ b) (h : checkE p a = 0) : checkE p b = 0 := by
 obtain ⟨h1, h2⟩ := (xDJ ha).1 h
 refine (xDJ (by omega)).2 ⟨xBD.2 fun k hk => okAt_vars (xBD.1 h1 k hk) fun m hm => ?_, h2⟩
 simp only [boundsB, smallB, Bool.and_eq_true, yY, List.all_eq_true] at h2
 have := (h2.2 m (zD hm)).1
 omega
theorem varsN_iff {p : List Mn} {B : Nat} : varsN p ≤ B ↔ ∀ m ∈ p, m.2.length ≤ B := by
 have key : ∀ (p : List Mn) (a : Nat), p.foldl (fun a m => max a m.2.length) a ≤ B ↔ a ≤ B ∧ ∀ m ∈ p, m.2.length ≤ B := by
  intro p
  induction p with
  | nil => intro a; simp
  | cons m r ih =>
   intro a
   rw [List.foldl_cons, ih, Nat.max_le]
   simp only [yB, forall_eq_or_imp, and_assoc]
 unfold varsN
 rw [key]
 simp
theorem atGo_skip {x : Mn} {r q : List Mn} (h : ∀ m, q[0]? = some m → cmpX x.2 m.2 < 0) : atGo (x :: r) q = atGo r q := by
 cases q with
 | nil => unfold atGo; rfl
 | cons m q =>
  unfold atGo
  rw [leftP, if_pos (h m rfl)]
theorem leftP_suffix {m : Mn} : ∀ {p : List Mn} {x : Mn} {r : List Mn}, leftP m p = x :: r → ∃ s, p = s ++ x :: r
 | [], _, _, h => by simp [leftP] at h
 | y :: p, x, r, h => by
  unfold leftP at h
  split at h
  ·obtain ⟨s, rfl⟩ := leftP_suffix h
   exact ⟨y :: s, rfl⟩
  exact ⟨[], h⟩
theorem worthN_append (ats : List (List Nat)) (p q : List Mn) : worthN ats (p ++ q) = worthN ats p + worthN ats q := by
 induction p with
 | nil => simp [worthN]
 | cons m p ih => simp only [yG, worthN, ih]; omega
theorem cmpV_le {xs ys : List Nat} (hx : rightB xs = true) (hy : rightB ys = true) (h : ¬ 0 < cmpV xs ys) : val xs ≤ val ys := by
 unfold cmpV at h
 rw [hx, hy] at h
 simp only [Bool.and_self, if_true] at h
 rcases Nat.lt_or_ge (val ys) (val xs) with h1 | h1
 ·rw [cmpI_gt h1] at h; omega
 exact h1
theorem atGo_cons {p q : List Mn} {m : Mn} (h : atGo p (m :: q) = true) : ∃ s x r, p = s ++ x :: r ∧ leftP m p = x :: r ∧ x.2 = m.2 ∧ ¬ 0 < cmpV m.1 x.1 ∧ atGo (x :: r) q = true := by
 unfold atGo at h
 cases hl : leftP m p with
 | nil => rw [hl] at h; simp at h
 | cons x r =>
  rw [hl] at h
  simp only at h
  split at h
  ·rename_i hx
   split at h
   ·simp at h
   rename_i hc
   obtain ⟨s, rfl⟩ := leftP_suffix hl
   exact ⟨s, x, r, rfl, rfl, hx, hc, h⟩
  simp at h
theorem xED {ats : List (List Nat)} : ∀ {q p : List Mn}, (∀ m ∈ p, rightB m.1 = true) → (∀ m ∈ q, rightB m.1 = true) → SortedX q → atGo p q = true → worthN ats q ≤ worthN ats p
 | [], p, _, _, _, _ => Nat.zero_le _
 | m :: q, p, hp, hq, hs, h => by
  obtain ⟨s, x, r, rfl, hl, hx, hc, h⟩ := atGo_cons h
  rw [atGo_skip (fun n hn => by rw [hx]; exact hs.head hn)] at h
  have h1 := xED (ats := ats) (fun n hn => hp n (by simp [hn])) (fun n hn => hq n (zT _ hn)) hs.tail h
  have h2 := cmpV_le (hq m (by simp)) (hp x (by simp)) hc
  rw [worthN_append]
  unfold worthN
  rw [hx]
  have := Nat.mul_le_mul_right (prodW m.2 ats) h2
  omega
theorem prodW_nil (ats : List (List Nat)) : prodW [] ats = 1 := rfl
theorem atGo_const {ats : List (List Nat)} {q p : List Mn} (hp : ∀ m ∈ p, rightB m.1 = true) (hq : ∀ m ∈ q, rightB m.1 = true) (hs : SortedX q) (h : atGo p q = true) : worthN ats q + val (constL p) ≤ worthN ats p + val (constL q) := by
 have h0 := xED (ats := ats) hp hq hs h
 cases p with
 | nil => simp only [constL, val]; omega
 | cons x r =>
  by_cases hx : x.2.length = 0
  ·have hx2 : x.2 = [] := zE hx
   have ex : constL (x :: r) = x.1 := by simp [constL, hx]
   rw [ex]
   have hw : worthN ats (x :: r) = val x.1 + worthN ats r := by rw [worthN, hx2, prodW_nil, Nat.mul_one]
   rw [hw]
   cases q with
   | nil => simp only [worthN]; omega
   | cons m q =>
    by_cases hm : m.2.length = 0
    ·have hm2 : m.2 = [] := zE hm
     have em : constL (m :: q) = m.1 := by simp [constL, hm]
     have hl0 : leftP m (x :: r) = x :: r := by
      rw [leftP, hx2, hm2, if_neg (by decide)]
     obtain ⟨s, x', r', _, hl, hxm, hc, h1⟩ := atGo_cons h
     rw [hl0] at hl
     simp only [List.cons.injEq] at hl
     obtain ⟨rfl, rfl⟩ := hl
     rw [atGo_skip (fun n hn => by rw [hxm]; exact hs.head hn)] at h1
     have h2 := xED (ats := ats) (fun n hn => hp n (by simp [hn])) (fun n hn => hq n (zT _ hn)) hs.tail h1
     rw [em, worthN, hm2, prodW_nil, Nat.mul_one]
     omega
    have em : constL (m :: q) = [] := by simp [constL, hm]
    have hlt : cmpX x.2 m.2 < 0 := by
     rw [hx2]
     cases hmm : m.2 with
     | nil => rw [hmm] at hm; exact absurd rfl hm
     | cons a b => unfold cmpX; decide
    rw [atGo_skip (fun n hn => by simp at hn; subst hn; exact hlt)] at h
    have h2 := xED (ats := ats) (fun n hn => hp n (by simp [hn])) hq hs h
    rw [em]
    simp only [val]
    omega
  have ex : constL (x :: r) = [] := by simp [constL, hx]
  rw [ex]
  simp only [val]
  omega
theorem cmpV_anti {xs ys : List Nat} (h : 0 < cmpV xs ys) : ¬ 0 < cmpV ys xs := by
 unfold cmpV at h ⊢
 rw [Bool.and_comm]
 split at h
 ·rename_i hr
  rw [if_pos hr]
  rcases Nat.lt_trichotomy (val xs) (val ys) with h1 | h1 | h1
  ·rw [cmpI_lt h1] at h; omega
  ·rw [h1, cmpI_eq] at h; omega
  rw [cmpI_lt h1]; omega
 omega
theorem cmpV_pos {xs ys : List Nat} (h : 0 < cmpV xs ys) : val ys < val xs := by
 unfold cmpV at h
 split at h
 ·rcases Nat.lt_trichotomy (val xs) (val ys) with h1 | h1 | h1
  ·rw [cmpI_lt h1] at h; omega
  ·rw [h1, cmpI_eq] at h; omega
  exact h1
 omega
theorem checkAll2_iff {p q : List Mn} : checkAllE [p, q] = 0 ↔ checkE p 9223372036854775807 = 0 ∧ checkE q 9223372036854775807 = 0 := by
 simp only [checkAllE]
 by_cases h1 : checkE p 9223372036854775807 = 0
 ·rw [if_pos h1]
  by_cases h2 : checkE q 9223372036854775807 = 0
  ·simp [h1, h2]
  simp [h1, h2]
 simp [h1]
theorem xCY {p : List Mn} : checkAllE [p] = 0 ↔ checkE p 9223372036854775807 = 0 := by
 simp only [checkAllE]
 by_cases h1 : checkE p 9223372036854775807 = 0 <;> simp [h1]
theorem rt_nil : RtY [] 0 := ⟨rfl, Nat.pow_pos (by omega)⟩
theorem val_iff {p : List Mn} {ats : List (List Nat)} (hl : ∀ m ∈ p, Lim m.1) (hf : ∀ f ∈ ats, Lim f) :
  valE p ats = 0 ↔ checkE p 9223372036854775807 = 0 ∧ varsN p ≤ ats.length ∧ ats.all rightB = true ∧ worthN ats p < bigN := by
 unfold valE
 by_cases h1 : checkE p 9223372036854775807 = 0
 ·rw [if_pos (xCY.2 h1)]
  by_cases h2 : varsN p ≤ ats.length
  ·rw [if_pos h2]
   by_cases h3 : ats.all rightB = true
   ·rw [if_pos h3, valGo_spec (fun f hh => ⟨hf f hh, List.all_eq_true.1 h3 f hh⟩) (fun m hm => (Pol.of hl (by omega) h1).good hm) rt_nil, Nat.zero_add]
    by_cases h4 : worthN ats p < bigN
    ·rw [ans_ok h4]; simp [h1, h2, h3, h4]
    rw [ans_no (by omega)]; simp [h4]
   rw [if_neg h3]; simp [h3]
  rw [if_neg h2]; simp [h2]
 rw [if_neg (fun h => h1 (xCY.1 h))]
 constructor
 ·intro h; exact absurd (xCY.1 h) h1
 intro h; exact absurd h.1 h1
theorem xDS {p : List Mn} {ats : List (List Nat)} (hl : ∀ m ∈ p, Lim m.1) (hf : ∀ f ∈ ats, Lim f) (h : valE p ats = 0) : RtY (valL p ats) (worthN ats p) := by
 unfold valL
 rw [if_pos h]
 obtain ⟨h1, h2, h3, h4⟩ := (val_iff hl hf).1 h
 rw [valGo_spec (fun f hh => ⟨hf f hh, List.all_eq_true.1 h3 f hh⟩) (fun m hm => (Pol.of hl (by omega) h1).good hm) rt_nil, Nat.zero_add, ans_ok h4]
 exact ⟨rfl, h4⟩
def prodK : List Nat → List (List Nat) → Nat
 | [], _ => 1
 | _ :: _, [] => 1
 | k :: ks, f :: fs => val f ^ k * prodK ks fs
def worthK (ats : List (List Nat)) : LkY → Nat
 | [] => 0
 | p :: L => val p.2 * prodK p.1 ats + worthK ats L
theorem prodK_zeros : ∀ (n : Nat) (fs : List (List Nat)), prodK (List.replicate n 0) fs = 1
 | 0, _ => rfl
 | n + 1, [] => rfl
 | n + 1, f :: fs => by rw [List.replicate_succ, prodK, prodK_zeros n fs]; simp
theorem prodK_pad (n : Nat) : ∀ (ks : List Nat) (fs : List (List Nat)), prodK (ks ++ List.replicate n 0) fs = prodK ks fs
 | [], fs => prodK_zeros n fs
 | k :: ks, [] => rfl
 | k :: ks, f :: fs => by rw [yG, prodK, prodK, prodK_pad n ks fs]
theorem prodW_map : ∀ (es : List Int) (fs : List (List Nat)), prodW es fs = prodK (es.map Int.toNat) fs
 | [], _ => rfl
 | _ :: _, [] => rfl
 | e :: es, f :: fs => by rw [prodW, yW, prodK, prodW_map es fs]
theorem prodW_key (es : List Int) (fs : List (List Nat)) : prodW es fs = prodK (keyX es) fs := by
 unfold keyX
 rw [prodK_pad, prodW_map]
theorem top_split (ks : List Nat) : ∃ n, ks = ks.take (topK ks) ++ List.replicate n 0 := by
 have h1 : ks = (ks.reverse.dropWhile (· == 0)).reverse ++ (ks.reverse.takeWhile (· == 0)).reverse := by
  rw [← List.reverse_append, List.takeWhile_append_dropWhile, List.reverse_reverse]
 have h2 : ks.take (topK ks) = (ks.reverse.dropWhile (· == 0)).reverse := by
  unfold topK
  have := congrArg (List.take (ks.reverse.dropWhile (· == 0)).length) h1
  rw [this, List.take_left' (by simp)]
 refine ⟨(ks.reverse.takeWhile (· == 0)).length, ?_⟩
 rw [h2]
 have h3 : (ks.reverse.takeWhile (· == 0)).reverse = List.replicate (ks.reverse.takeWhile (· == 0)).length 0 := by
  rw [List.eq_replicate_iff]
  refine ⟨by simp, fun b hb => ?_⟩
  have := yZ.1 hb
  have hall : ∀ (l : List Nat) (x : Nat), x ∈ l.takeWhile (· == 0) → x = 0 := by
   intro l
   induction l with
   | nil => intro x hx; simp at hx
   | cons a l ih =>
    intro x hx
    rw [List.takeWhile_cons] at hx
    split at hx
    ·rename_i ha
     rcases yB.1 hx with rfl | hx
     ·simpa using ha
     exact ih x hx
    simp at hx
  exact hall _ b this
 rw [← h3]
 exact h1
theorem map_ofNat (l : List Nat) : (l.map Int.ofNat).map Int.toNat = l := by
 rw [List.map_map]
 conv => rhs; rw [← List.map_id l]
 exact List.map_congr_left fun x _ => rfl
theorem prodW_unX (ks : List Nat) (fs : List (List Nat)) : prodW (unX ks) fs = prodK ks fs := by
 unfold unX
 obtain ⟨n, hn⟩ := top_split ks
 rw [prodW_map, map_ofNat]
 conv => rhs; rw [hn]
 rw [prodK_pad]
theorem prodK_add : ∀ (a b : List Nat) (fs : List (List Nat)), a.length = b.length → prodK (addK a b) fs = prodK a fs * prodK b fs
 | [], [], _, _ => rfl
 | [], _ :: _, _, h => by simp at h
 | _ :: _, [], _, h => by simp at h
 | x :: a, y :: b, [], h => rfl
 | x :: a, y :: b, f :: fs, h => by
  have ih := prodK_add a b fs (by simpa using h)
  unfold addK at ih ⊢
  rw [List.zipWith_cons_cons, prodK, ih, prodK, prodK, Nat.pow_add]
  ac_rfl
theorem coefK_head {p : List Nat × List Nat} {r : LkY} : coefK (p :: r) p.1 = p.2 := by simp [coefK]
theorem coefK_tail {p : List Nat × List Nat} {r : LkY} {k : List Nat} (h : ¬ k = p.1) : coefK (p :: r) k = coefK r k := by
 have hb : (p.1 == k) = false := by rw [zY]; exact fun e => h e.symm
 unfold coefK
 rw [List.find?_cons, hb]
theorem worthK_ins (ats : List (List Nat)) {k c : List Nat} : ∀ {L : LkY}, Rising L → worthK ats (insK L k c) + val (coefK L k) * prodK k ats = worthK ats L + val c * prodK k ats
 | [], _ => by simp [insK, worthK, coefK, val]
 | p :: r, hL => by
  have hL' := hL
  unfold Rising at hL
  rw [List.pairwise_cons] at hL
  unfold insK
  by_cases h1 : k = p.1
  ·rw [if_pos h1]
   subst h1
   rw [coefK_head]
   simp only [worthK]
   omega
  rw [if_neg h1]
  by_cases h2 : ltK k p.1
  ·rw [if_pos h2]
   have hn : hasK (p :: r) k = false := by
    rw [Bool.eq_false_iff]
    intro h
    rw [xBI] at h
    obtain ⟨c', h⟩ := h
    rcases yB.1 h with h | h
    ·exact h1 (by rw [← h])
    exact xAS _ (xBT h2 (hL.1 _ h))
   rw [xBZ hn]
   simp only [worthK, val]
   omega
  rw [if_neg h2, coefK_tail h1]
  have ih := worthK_ins ats (k := k) (c := c) hL.2
  simp only [worthK]
  omega
theorem addE_zero {xs ys : List Nat} (h : addE xs ys = 0) : val (addL xs ys) = val xs + val ys := by
 unfold addE at h
 unfold addL
 split at h
 ·rename_i hr
  rw [if_pos hr]
  unfold resE at h
  unfold resL
  split at h
  ·rename_i hl
   rw [if_pos hl, val_limbs]
  simp at h
 simp at h
theorem mulE_zero {xs ys : List Nat} (h : mulE xs ys = 0) : val (mulL xs ys) = val xs * val ys := by
 unfold mulE at h
 unfold mulL
 split at h
 ·rename_i hr
  rw [if_pos hr]
  unfold resE at h
  unfold resL
  split at h
  ·rename_i hl
   rw [if_pos hl, val_limbs]
  simp at h
 simp at h
theorem putE_add {L : LkY} {k c : List Nat} (h : putE L k c = 0) : addE (coefK L k) c = 0 := by
 unfold putE at h
 split at h
 ·assumption
 rename_i h1; exact absurd h h1
theorem worthK_put (ats : List (List Nat)) {L : LkY} {k c : List Nat} (hL : Rising L) (h : putE L k c = 0) : worthK ats (putL L k c) = worthK ats L + val c * prodK k ats := by
 have h1 := putE_add h
 unfold putL
 rw [if_pos h1]
 have h2 := worthK_ins ats (k := k) (c := addL (coefK L k) c) hL
 rw [addE_zero h1, Nat.add_mul] at h2
 omega
theorem rising_putL {L : LkY} {k c : List Nat} (hL : Rising L) : Rising (putL L k c) := by
 unfold putL
 split
 ·exact xDE hL
 exact hL
theorem worthK_puts (ats : List (List Nat)) : ∀ {p : List Mn} {L : LkY}, Rising L → (puts L p).2 = 0 → Rising (puts L p).1 ∧ worthK ats (puts L p).1 = worthK ats L + worthN ats p
 | [], L, hL, _ => ⟨hL, rfl⟩
 | m :: p, L, hL, h => by
  unfold puts at h ⊢
  split at h
  ·rename_i h0
   rw [if_pos h0]
   obtain ⟨h1, h2⟩ := worthK_puts ats (rising_putL hL) h
   refine ⟨h1, ?_⟩
   rw [h2, worthK_put ats hL h0, worthN, prodW_key]
   omega
  rename_i h0
  exact absurd h h0
theorem worthN_row (ats : List (List Nat)) : ∀ L : LkY, worthN ats (rowLY L) = worthK ats L
 | [] => rfl
 | p :: L => by
  have ih := worthN_row ats L
  unfold rowLY at ih ⊢
  rw [yW, worthN, worthK, ih, prodW_unX]
theorem rising_nil : Rising [] := List.Pairwise.nil
theorem worthK_prodIn (ats : List (List Nat)) {m : Mn} (hm : Small m.2) : ∀ {q : List Mn} {L : LkY}, DomM q → Rising L → (prodIn m L q).2 = 0 →
  Rising (prodIn m L q).1 ∧ worthK ats (prodIn m L q).1 = worthK ats L + val m.1 * prodW m.2 ats * worthN ats q
 | [], L, _, hL, _ => ⟨hL, by simp [prodIn, worthN]⟩
 | n :: q, L, hq, hL, h => by
  have hn : Small n.2 := hq 0 n rfl
  have hq' : DomM q := fun k x hx => hq (k + 1) x hx
  unfold prodIn at h ⊢
  split at h
  ·rename_i h0
   rw [if_pos h0]
   split at h
   ·rename_i h1
    rw [if_pos h1]
    split at h
    ·rename_i h2
     rw [if_pos h2]
     obtain ⟨r1, w1⟩ := worthK_prodIn ats hm hq' (rising_putL hL) h
     refine ⟨r1, ?_⟩
     have ek : raisedK (keyX m.2) n.2 = addK (keyX m.2) (keyX n.2) := by
      unfold raisedE at h0
      unfold raisedK
      split at h0
      ·rename_i hh; rw [if_pos hh]
      simp at h0
     have el : (keyX m.2).length = (keyX n.2).length := by rw [xBB hm.1, xBB hn.1]
     rw [w1, worthK_put ats hL h2, mulE_zero h1, ek, prodK_add _ _ _ el, ← prodW_key, ← prodW_key, worthN, Nat.mul_add]
     have : val m.1 * val n.1 * (prodW m.2 ats * prodW n.2 ats) = val m.1 * prodW m.2 ats * (val n.1 * prodW n.2 ats) := by ac_rfl
     omega
    rename_i h2; exact absurd h h2
   rename_i h1; exact absurd h h1
  rename_i h0; exact absurd h h0
theorem worthK_prods (ats : List (List Nat)) {q : List Mn} (hq : DomM q) : ∀ {p : List Mn} {L : LkY}, DomM p → Rising L → (prods q L p).2 = 0 → worthK ats (prods q L p).1 = worthK ats L + worthN ats p * worthN ats q
 | [], L, _, hL, _ => by simp [prods, worthN]
 | m :: p, L, hp, hL, h => by
  unfold prods at h ⊢
  split at h
  ·rename_i h0
   rw [if_pos h0]
   obtain ⟨r1, w1⟩ := worthK_prodIn ats (hp 0 m rfl) hq hL h0
   rw [worthK_prods ats hq (fun k x hx => hp (k + 1) x hx) r1 h, w1, worthN, Nat.add_mul]
   omega
  rename_i h0; exact absurd h h0
theorem worthN_prod (ats : List (List Nat)) {p q : List Mn} (hp : DomM p) (hq : DomM q) (h : prodE p q = 0) : worthN ats (prodL p q) = worthN ats p * worthN ats q := by
 unfold prodL
 rw [if_pos h, worthN_row, worthK_prods ats hq hp rising_nil h]
 simp [worthK]
end Go.Proofs.YtdjmjhlbjcgoiaaGreatDoor
