/- Texts of the proof, one behind the other. -/
import Derived.Test.YtdjmjhlbjcgoiaaGreatDoorOwn1
import Derived.Laws.RangeString
import Derived.Laws.RangeAny
import Derived.Ground.NamesProg
import Derived.Ground.SlgfProg
import Derived.Shelf.SlGeneric
import Derived.Shelf.Strings.Prefix
import Derived.Shelf.Unicode.ValidAny
import Derived.Shelf.SlicesQ.IndexFunc
set_option maxRecDepth 1000000
set_option maxHeartbeats 6400000
namespace Go.Proofs.YtdjmjhlbjcgoiaaGreatDoor
open Go.RowKit
def cmpZ (a b : Int) : Int := if a < b then -1 else if b < a then 1 else 0
theorem cmpInt_any (a b : Int) (w : World) : Calls Tryz.prog 78 #[.int .i64 a, .int .i64 b] w fun e w' => e = .returned (.int .i64 (cmpZ a b)) ∧ w' = w := by
 by_cases h1 : a < b
 ·go_enter Tryz.func78, Tryz.ntmps78
  go_wp2
  go_ret
  exact ⟨ret1i (by simp [cmpZ, h1]), rfl⟩
 by_cases h2 : b < a
 ·go_enter Tryz.func78, Tryz.ntmps78
  go_wp2
  go_ret
  exact ⟨ret1i (by simp [cmpZ, h1, h2]), rfl⟩
 go_enter Tryz.func78, Tryz.ntmps78
 go_wp2
 go_ret
 exact ⟨ret1i (by rw [cmpZ, if_neg (by omega), if_neg (by omega)]), rfl⟩
theorem cmpX_at {es fs : List Int} {k : Nat} {a b : Int} (ht : es.take k = fs.take k) (ha : es[k]? = some a) (hb : fs[k]? = some b) : (¬ a = b → cmpX es fs = cmpZ a b) ∧ (a = b → es.take (k + 1) = fs.take (k + 1)) := by
 have h1 := (zB.1 ha).1
 have h2 := (zB.1 hb).1
 refine ⟨fun hne => ?_, fun h => ?_⟩
 ·rw [cmpX_drop k ht (by omega) (by omega), xAK ha, xAK hb]
  unfold cmpX cmpZ
  by_cases h3 : a < b
  ·rw [if_pos h3, if_pos h3]
  have h4 : b < a := by omega
  rw [if_neg h3, if_pos h4, if_neg h3, if_pos h4]
 subst h
 rw [xAY ha, xAY hb, ht]
theorem cmpX_end1 {es fs : List Int} (ht : es.take fs.length = fs.take fs.length) (h : fs.length < es.length) : cmpX es fs = 1 := by
 rw [cmpX_drop fs.length ht (by omega) (by omega), zP (Nat.le_refl fs.length)]
 match hes : es.drop fs.length with
 | [] => have := congrArg List.length hes; simp at this; omega
 | _ :: _ => rfl
theorem cmpX_end2 {es fs : List Int} (ht : es.take es.length = fs.take es.length) (h : es.length ≤ fs.length) : cmpX es fs = if es.length < fs.length then -1 else 0 := by
 rw [cmpX_drop es.length ht (by omega) (by omega), zP (Nat.le_refl es.length)]
 match hbs : fs.drop es.length with
 | [] => have := congrArg List.length hbs; simp at this; rw [if_neg (by omega)]; rfl
 | _ :: _ => have := congrArg List.length hbs; simp at this; rw [if_pos (by omega)]; rfl
theorem cmpZ_ne {a b : Int} (h : ¬ a = b) : ¬ cmpZ a b = 0 := by unfold cmpZ; split; omega; split; omega; omega
theorem cmpZ_eq (a : Int) : cmpZ a a = 0 := by simp [cmpZ]
theorem slicesCompare_any (v u : Value) (es fs : List Int) (w : World) (h : Is w v es) (h' : Is w u fs) :
  Calls Tryz.prog 154 #[v, u] w fun e w' => e = .returned (.int .i64 (cmpX es fs)) ∧ w' = w := by
 obtain ⟨ao, cap, rfl, hao, hca, hcl⟩ := h.flat
 obtain ⟨bo, cap', rfl, hbo, hcb, hcl'⟩ := h'.flat
 unfold maxLen at hca hcb
 clear h h'
 go_enter Tryz.func154, Tryz.ntmps154
 go_wp2
 go_loopw [11] (fun i wr => ∃ k : Nat, k ≤ es.length ∧ k ≤ fs.length ∧ i = .int .i64 k ∧ es.take k = fs.take k ∧ wr = w) (fun i _ => es.length - (intOf i).toNat)
 case atStart => exact ⟨0, by omega, by omega, rfl, rfl, rfl⟩
 case round =>
  obtain ⟨k, hk, hk', rfl, ht, hw⟩ := hrel
  subst hw
  have HT : Hid (es.take k = fs.take k) := ht
  clear ht
  by_cases hlt : k < es.length
  ·obtain ⟨g, off, x, rfl, hx1, hx2, hx3, hx4⟩ := hcl k hlt
   have HX : Hid (es[k]? = some x) := hx1
   rw [Nat.mul_one] at hx4
   clear hx1 hcl
   by_cases hlt' : k < fs.length
   ·obtain ⟨g', off', y, rfl, hy1, hy2, hy3, hy4⟩ := hcl' k hlt'
    have HY : Hid (fs[k]? = some y) := hy1
    rw [Nat.mul_one] at hy4
    clear hy1 hcl'
    by_cases hxy : x = y
    ·subst hxy
     go_wp2_with (go_at_call 78; refine (cmpInt_any x x _).mono ?_; rw [cmpZ_eq]; rintro e w' ⟨rfl, rfl⟩)
     go_roundw
     case rel => exact ⟨k + 1, by omega, by omega, by go_num, (cmpX_at HT.out HX.out HY.out).2 rfl, trivial⟩
     case measure => simp [intOf]; omega
    have hne := cmpZ_ne hxy
    have HR : Hid (cmpX es fs = cmpZ x y) := (cmpX_at HT.out HX.out HY.out).1 hxy
    obtain ⟨c, hc⟩ : ∃ c, c = cmpZ x y := ⟨_, rfl⟩
    rw [← hc] at hne
    have HC : Hid (c = cmpZ x y) := hc
    have hcb0 : (c != 0) = true := by rw [bne_iff_ne]; exact hne
    clear hc
    go_wp2_with (go_at_call 78; refine (cmpInt_any x y _).mono ?_; rw [← HC.out]; rintro e w' ⟨rfl, rfl⟩)
    go_ret
    exact ⟨ret1i (by rw [HR.out, HC.out]), rfl⟩
   have hkb : k = fs.length := by omega
   subst hkb
   clear hcl'
   go_wp2
   go_ret
   exact ⟨ret1i (cmpX_end1 HT.out (by omega)).symm, rfl⟩
  have hka : k = es.length := by omega
  subst hka
  have HR := cmpX_end2 HT.out (by omega)
  clear hcl hcl'
  by_cases h2 : es.length < fs.length
  ·rw [if_pos h2] at HR
   have HR : Hid (cmpX es fs = -1) := HR
   go_wp2
   go_ret
   exact ⟨ret1i HR.out.symm, rfl⟩
  rw [if_neg h2] at HR
  have HR : Hid (cmpX es fs = 0) := HR
  go_wp2
  go_ret
  exact ⟨ret1i HR.out.symm, rfl⟩
theorem xCO (v u : Value) (es fs : List Int) (w : World) (h : Is w v es) (h' : Is w u fs) :
  Calls Tryz.prog 105 #[v, u] w fun e w' => e = .returned (.bool (decide (cmpX es fs < 0))) ∧ w' = w := by
 go_enter Tryz.func105, Tryz.ntmps105
 go_wp2_with (go_at_call 154; refine (slicesCompare_any v u es fs _ h h').mono ?_; rintro e w' ⟨rfl, rfl⟩)
 go_ret
 exact ⟨rfl, rfl⟩
theorem xDD (v u : Value) (es fs : List Int) (w : World) (h : Is w v es) (h' : Is w u fs) :
  Calls Tryz.prog 106 #[v, u] w fun e w' => e = .returned (.bool (decide (es = fs))) ∧ ∃ n, w' = w.drewN n := by
 obtain ⟨ao, cap, rfl, hao, hca, hcl⟩ := h.flat
 obtain ⟨bo, cap', rfl, hbo, hcb, hcl'⟩ := h'.flat
 unfold maxLen at hca hcb
 clear h h'
 by_cases hl : es.length = fs.length
 ·go_enter Tryz.func106, Tryz.ntmps106
  go_wp2
  go_loopw [13] (fun i wr => ∃ k : Nat, k ≤ es.length ∧ i = .int .i64 k ∧ es.take k = fs.take k ∧ ∃ n, wr = w.drewN n) (fun i _ => es.length - (intOf i).toNat)
  case atStart => exact ⟨0, by omega, rfl, rfl, 0, rfl⟩
  case round =>
   obtain ⟨k, hk, rfl, ht, n, rfl⟩ := hrel
   have HT : Hid (es.take k = fs.take k) := ht
   clear ht
   by_cases hlt : k < es.length
   ·have hlt' : k < fs.length := by omega
    obtain ⟨g, off, x, rfl, hx1, hx2, hx3, hx4⟩ := hcl k hlt
    have HX : Hid (es[k]? = some x) := hx1
    rw [Nat.mul_one] at hx4
    obtain ⟨g', off', y, rfl, hy1, hy2, hy3, hy4⟩ := hcl' k hlt'
    have HY : Hid (fs[k]? = some y) := hy1
    rw [Nat.mul_one] at hy4
    clear hx1 hy1 hcl hcl'
    by_cases hxy : x = y
    ·subst hxy
     have hb0 : (x != x) = false := by simp
     go_wp2
     go_quiet (fail)
     go_wp2
     go_roundw
     case rel => exact ⟨k + 1, by omega, by go_num, (cmpX_at HT.out HX.out HY.out).2 rfl, _, rfl⟩
     case measure => simp [intOf]; omega
    have hb0 : (x != y) = true := by rw [bne_iff_ne]; exact hxy
    have HNE : Hid (¬ es = fs) := fun h => hxy (by have h1 := HX.out; rw [h, HY.out] at h1; exact (Option.some.inj h1).symm)
    go_wp2
    go_quiet (fail)
    go_wp2
    go_ret
    exact ⟨ret1b (by rw [decide_eq_false HNE.out]), _, World.drewN_drewN _ _ _⟩
   have hka : k = es.length := by omega
   subst hka
   have HR : Hid (es = fs) := by
    have := HT.out
    rwa [zO (Nat.le_refl _), zO (by omega)] at this
   clear hcl hcl'
   go_wp2
   go_ret
   exact ⟨ret1b (by rw [decide_eq_true HR.out]), n, rfl⟩
 have hb : ((es.length : Int) != (fs.length : Int)) = true := by rw [bne_iff_ne]; omega
 clear hcl hcl'
 go_enter Tryz.func106, Tryz.ntmps106
 go_wp2
 go_ret
 exact ⟨ret1b (by simp; intro h; exact hl (by rw [h])), 0, rfl⟩
theorem rightB_pos {xs : List Nat} {x : Nat} (h64 : xs.length ≤ 64) (h0 : ¬ xs.length = 0) (hl : xs[xs.length - 1]? = some x) : rightB xs = !((x : Int) == 0) := by
 unfold rightB
 rw [getLast_some hl]
 have : (xs.length == 0) = false := by simpa using h0
 rw [this]
 simp only [h64, decide_true, Bool.true_and, Bool.false_or]
 congr 1
 rw [Bool.eq_iff_iff]; simp
theorem xCB (v : Value) (xs : List Nat) (w : World) (h : Sl w v xs) :
  Calls Tryz.prog 68 #[v] w fun e w' => e = .returned (.bool (rightB xs)) ∧ w' = w := by
 obtain ⟨ao, cap, rfl, hc, hm, hx⟩ := h.flat
 unfold maxLen at hm
 clear h
 by_cases h64 : xs.length ≤ 64
 ·by_cases h0 : xs.length = 0
  ·clear hx
   go_enter Tryz.func68, Tryz.ntmps68
   go_wp2
   go_ret
   exact ⟨by simp [rightB, h0], rfl⟩
  obtain ⟨g, off, x, rfl, hxl, hx32, hcell⟩ := hx (xs.length - 1) (by omega)
  have hpos : 0 < xs.length := by omega
  have hb0 : ((xs.length : Int) == 0) = false := by rw [zY]; omega
  have HE : Hid (rightB xs = !((x : Int) == 0)) := rightB_pos h64 h0 hxl
  clear hxl hx
  go_enter Tryz.func68, Tryz.ntmps68
  go_wp2
  go_ret
  exact ⟨by rw [HE.out]; rfl, rfl⟩
 clear hx
 go_enter Tryz.func68, Tryz.ntmps68
 go_wp2
 go_ret
 exact ⟨by simp [rightB, h64], rfl⟩
theorem refRight_anyY (v : Value) (xs : List Nat) (w : World) (h : Sl w v xs) :
  Calls Tryz.prog 147 #[v] w fun e w' => e = .returned (.bool (rightB xs)) ∧ w' = w := by
 obtain ⟨ao, cap, rfl, hc, hm, hx⟩ := h.flat
 unfold maxLen at hm
 clear h
 by_cases h64 : xs.length ≤ 64
 ·by_cases h0 : xs.length = 0
  ·clear hx
   go_enter Tryz.func147, Tryz.ntmps147
   go_wp2
   go_ret
   exact ⟨by simp [rightB, h0], rfl⟩
  obtain ⟨g, off, x, rfl, hxl, hx32, hcell⟩ := hx (xs.length - 1) (by omega)
  have hpos : 0 < xs.length := by omega
  have hb0 : ((xs.length : Int) == 0) = false := by rw [zY]; omega
  have HE : Hid (rightB xs = !((x : Int) == 0)) := rightB_pos h64 h0 hxl
  clear hxl hx
  go_enter Tryz.func147, Tryz.ntmps147
  go_wp2
  go_ret
  exact ⟨by rw [HE.out]; rfl, rfl⟩
 clear hx
 go_enter Tryz.func147, Tryz.ntmps147
 go_wp2
 go_ret
 exact ⟨by simp [rightB, h64], rfl⟩
theorem trimmed_any (v : Value) (xs : List Nat) (w : World) (base : Nat) (h : Ow w base v xs) :
  Calls Tryz.prog 159 #[v] w fun e w' => ∃ v', e = .returned v' ∧ Ow w base v' (limbs (val xs)) ∧ v'.ownBlock = v.ownBlock ∧ w' = w := by
 rcases h.shape with ⟨rfl, rfl⟩ | ⟨g, cap, rfl, hb, hg, hc, hm, hx, _⟩
 ·go_enter Tryz.func159, Tryz.ntmps159
  go_wp2
  refine wp_loop_rounds 1 ?_
  rw [rounds_succ]
  go_wp2
  go_ret
  exact ⟨_, rfl, by rw [show limbs (val []) = [] from xBK]; exact Ow.nil _ _, rfl, rfl⟩
 unfold maxLen at hm
 have HO : Hid (Ow w base (.slice (some ⟨g, 0, none⟩) xs.length cap) xs) := h
 have HX : Hid (∀ (k x : Nat), xs[k]? = some x → w.cell? ⟨g, k, none⟩ = some (.int .u32 (x : Int))) := hx
 clear h hx
 go_enter Tryz.func159, Tryz.ntmps159
 go_wp2
 go_loop [3] (fun n => ∃ k : Nat, k ≤ xs.length ∧ n = .int .i64 k ∧ val (xs.take k) = val xs) (fun n => (intOf n).toNat)
 case atStart => exact ⟨xs.length, Nat.le_refl _, rfl, by rw [List.take_length]⟩
 case round =>
  obtain ⟨k, hk, rfl, hv⟩ := hrel
  have HV : Hid (val (xs.take k) = val xs) := hv
  clear hv
  by_cases h0 : 0 < k
  ·obtain ⟨x, hxk⟩ := xBL (xs := xs) (k := k - 1) (by omega)
   have hcell := HX.out _ _ hxk
   have HK : Hid (xs[k - 1]? = some x) := hxk
   clear hxk
   by_cases hx0 : x = 0
   ·subst hx0
    go_wp2
    go_round
    case rel => exact ⟨k - 1, by omega, by go_num, by rw [trim_step h0 hk HK.out]; exact HV.out⟩
    case measure => simp [intOf]; omega
   have hne : ((x : Int) == 0) = false := by rw [zY]; omega
   go_wp2
   go_ret
   exact ⟨_, rfl, by rw [trim_done HO.out.1 HV.out hk (.inr ⟨x, HK.out, hx0⟩)]; exact HO.out.cut hk, rfl, rfl⟩
  have hk0 : k = 0 := by omega
  subst hk0
  go_wp2
  go_ret
  exact ⟨_, rfl, by rw [trim_done HO.out.1 HV.out hk (.inl rfl)]; exact HO.out.cut hk, rfl, rfl⟩
theorem inBounds_any (v : Value) (xs : List Nat) (w : World) (base : Nat) (h : Ow w base v xs) :
  Calls Tryz.prog 123 #[v] w fun e w' => ∃ v', e = .returned (.tuple #[v', .int .i64 (resE (val xs))]) ∧ Ow w base v' (resL (val xs)) ∧ w' = w := by
 go_enter Tryz.func123, Tryz.ntmps123
 go_wp2_with fail
 refine (trimmed_any v xs _ base h).mono ?_
 rintro e w' ⟨v', rfl, ho, _, rfl⟩
 rcases ho.shape with ⟨rfl, hn⟩ | ⟨g, cap, rfl, hb, hg, hc, hm, hx, _⟩
 ·have HN : Hid (limbs (val xs) = []) := hn
  clear hn
  go_wp2
  go_ret2
  exact ⟨_, ret2i (by simp [resE, HN.out]), by simp [resL, HN.out]; exact Ow.nil _ _, rfl⟩
 unfold maxLen at hm
 clear hx
 have HO : Hid (Ow w' base (.slice (some ⟨g, 0, none⟩) (limbs (val xs)).length cap) (limbs (val xs))) := ho
 clear ho
 by_cases h64 : (limbs (val xs)).length ≤ 64
 ·go_wp2
  go_ret2
  exact ⟨_, ret2i (by simp [resE, h64]), by rw [resL, if_pos h64]; exact HO.out, rfl⟩
 go_wp2
 go_ret2
 exact ⟨_, ret2i (by simp [resE, h64]), by rw [resL, if_neg h64]; exact Ow.nil _ _, rfl⟩
theorem monB_no0 {c : List Nat} {es : List Int} (h : c.length = 0) : monB (c, es) = false := by simp [monB, h]
theorem monB_noR {c : List Nat} {es : List Int} (h : rightB c = false) : monB (c, es) = false := by simp [monB, h]
theorem monB_neg {c : List Nat} {es : List Int} {k : Nat} {x : Int} (h : es[k]? = some x) (hx : x < 0) : monB (c, es) = false := by
 have : es.all (fun n => decide (0 ≤ n)) = false := by
  rw [List.all_eq_false]
  exact ⟨x, zD h, by simp; omega⟩
 simp [monB, this]
theorem monB_yes {c : List Nat} {es : List Int} (h0 : ¬ c.length = 0) (hr : rightB c = true) (ha : ∀ (k : Nat) (x : Int), es[k]? = some x → 0 ≤ x) : monB (c, es) = (es.length == 0 || !(es[es.length - 1]? == some 0)) := by
 have : es.all (fun n => decide (0 ≤ n)) = true := by
  rw [List.all_eq_true]
  intro x hx
  obtain ⟨k, hk⟩ := zW.1 hx
  simpa using ha k x hk
 have h1 : (c.length == 0) = false := by simpa using h0
 simp only [monB, this, hr, h1, Bool.not_false, Bool.true_and]
theorem isMonomial_any (cv ev : Value) (m : Mn) (w : World) (h : Mo w cv ev m) :
  Calls Tryz.prog 143 #[.agg #[cv, ev]] w fun e w' => e = .returned (.bool (monB m)) ∧ Below w.heap.size w w' := by
 obtain ⟨c, es⟩ := m
 obtain ⟨hs, hi⟩ := h
 simp only at hs hi
 have hB := zA (w := w) (.cells #[cv, ev] 37)
 have HB : Hid (Below w.heap.size w (w.alloc (.cells #[cv, ev] 37))) := hB
 have HS : Hid (Sl (w.alloc (.cells #[cv, ev] 37)) cv c) := hs.kp (zK hB)
 have hi2 := hi.kp (zK hB)
 obtain ⟨ao, cap, rfl, hao, hca, q0⟩ := hs.flat
 obtain ⟨bo, cap', rfl, hbo, hcb, hcl⟩ := hi2.flat
 unfold maxLen at hca hcb
 clear q0 hs hi hi2 hB
 by_cases h0 : c.length = 0
 ·clear hcl
  obtain rfl : c = [] := zE h0
  rw [List.length_nil] at HB
  rw [List.length_nil]
  clear h0 HS
  go_enter Tryz.func143, Tryz.ntmps143
  go_wp2
  go_ret
  exact ⟨ret1b (monB_no0 rfl).symm, HB.out⟩
 have hb0 : ((c.length : Int) == 0) = false := by rw [zY]; omega
 go_enter Tryz.func143, Tryz.ntmps143
 go_wp2_with fail
 refine (xCB _ _ _ HS.out).mono ?_
 rintro e w' ⟨rfl, rfl⟩
 cases hr : rightB c
 ·have HR : Hid (rightB c = false) := hr
  clear hr hcl
  go_wp2
  go_ret
  exact ⟨ret1b (monB_noR HR.out).symm, HB.out⟩
 have HR : Hid (rightB c = true) := hr
 clear hr
 go_wp2
 obtain ⟨wb, hwb⟩ : ∃ wb, wb = w.alloc (.cells #[.slice ao c.length cap, .slice bo es.length cap'] 37) := ⟨_, rfl⟩
 have hc0 : wb.cell? ⟨w.heap.size, 0, none⟩ = some (.slice ao c.length cap) := by rw [hwb]; simp
 have hc1 : wb.cell? ⟨w.heap.size, 1, none⟩ = some (.slice bo es.length cap') := by rw [hwb]; simp
 rw [← hwb] at HB HS hcl ⊢
 clear hwb
 go_loopw [18] (fun i wr => ∃ k : Nat, k ≤ es.length ∧ i = .int .i64 k ∧ (∀ (j : Nat) (x : Int), j < k → es[j]? = some x → 0 ≤ x) ∧ wr = wb) (fun i _ => es.length - (intOf i).toNat)
 case atStart => exact ⟨0, by omega, rfl, fun j x hj => absurd hj (by omega), rfl⟩
 case round =>
  obtain ⟨k, hk, rfl, hp, hw⟩ := hrel
  subst hw
  have HP : Hid (∀ (j : Nat) (x : Int), j < k → es[j]? = some x → 0 ≤ x) := hp
  clear hp
  by_cases hlt : k < es.length
  ·obtain ⟨g, off, x, rfl, hx1, hx2, hx3, hx4⟩ := hcl k hlt
   have HX : Hid (es[k]? = some x) := hx1
   rw [Nat.mul_one] at hx4
   clear hx1 hcl
   by_cases hx : x < 0
   ·go_wp2
    go_ret
    exact ⟨ret1b (monB_neg HX.out hx).symm, HB.out⟩
   go_wp2
   go_roundw
   case rel =>
    refine ⟨k + 1, by omega, by go_num, fun j y hj hy => ?_, trivial⟩
    by_cases hjk : j = k
    ·subst hjk; rw [HX.out] at hy; cases hy; omega
    exact HP.out j y (by omega) hy
   case measure => simp [intOf]; omega
  have hke : k = es.length := by omega
  subst hke
  have HY : Hid (monB (c, es) = (es.length == 0 || !(es[es.length - 1]? == some 0))) := monB_yes h0 HR.out (fun j x hx => HP.out j x (zB.1 hx).1 hx)
  by_cases hz : es.length = 0
  ·have hb1 : ((es.length : Int) == 0) = true := by rw [beq_iff_eq]; omega
   clear hcl
   go_wp2
   go_ret
   exact ⟨ret1b (by rw [HY.out, hz]; rfl), HB.out⟩
  have hb1 : ((es.length : Int) == 0) = false := by rw [zY]; omega
  obtain ⟨g, off, x, rfl, hx1, hx2, hx3, hx4⟩ := hcl (es.length - 1) (by omega)
  rw [Nat.mul_one] at hx4
  have HX : Hid (es[es.length - 1]? = some x) := hx1
  have hpos : 0 < es.length := by omega
  clear hx1 hcl
  go_wp2
  go_ret
  refine ⟨ret1b ?_, HB.out⟩
  have hz' : (es.length == 0) = false := by simpa using hz
  rw [HY.out, HX.out, hz', Bool.false_or, bne, Option.some_beq_some]
theorem polyB_no {p : List Mn} {vars : Int} {k : Nat} (hk : k < p.length) (h : okAt p vars k = false) : polyB p vars = false := by
 rw [Bool.eq_false_iff]
 intro hp
 rw [xBD.1 hp k hk] at h
 cases h
theorem okAt_no {p : List Mn} {vars : Int} {k : Nat} {m : Mn} (hk : p[k]? = some m) (h : (monB m && decide ((m.2.length : Int) ≤ vars)) = false) : okAt p vars k = false := by
 simp [okAt, hk, h]
theorem okAt_0 {p : List Mn} {vars : Int} {m : Mn} (hk : p[0]? = some m) (h : (monB m && decide ((m.2.length : Int) ≤ vars)) = true) : okAt p vars 0 = true := by
 simp only [okAt, hk, h]; rfl
theorem okAt_s {p : List Mn} {vars : Int} {j : Nat} {m m' : Mn} (hk : p[j + 1]? = some m) (hj : p[j]? = some m') (h : (monB m && decide ((m.2.length : Int) ≤ vars)) = true) : okAt p vars (j + 1) = decide (cmpX m'.2 m.2 < 0) := by
 simp only [okAt, hk, h, Bool.true_and, expsAt, Nat.add_sub_cancel, hj, Option.map_some, Option.getD_some]
 rw [show (j + 1 == 0) = false from rfl, Bool.false_or]
theorem isPolynomial_any (v : Value) (p : List Mn) (vars : Int) (w : World) (h : Ms w v p) (_hv1 : 0 ≤ vars) (_hv2 : vars ≤ 9223372036854775807) :
  Calls Tryz.prog 86 #[v, .int .i64 vars] w fun e w' => e = .returned (.bool (polyB p vars)) ∧ Below w.heap.size w w' := by
 obtain ⟨ao, cap, rfl, hao, hca, q0⟩ := h.flat
 unfold maxLen at hca
 have HM : Hid (Ms w (.slice ao p.length cap) p) := h
 clear h q0
 go_enter Tryz.func86, Tryz.ntmps86
 go_wp2
 go_loopw [9] (fun i wr => ∃ k : Nat, k ≤ p.length ∧ i = .int .i64 k ∧ (∀ j : Nat, j < k → okAt p vars j = true) ∧ Below w.heap.size w wr) (fun i _ => p.length - (intOf i).toNat)
 case atStart => exact ⟨0, by omega, rfl, fun j hj => absurd hj (by omega), Below.refl _ _⟩
 case round =>
  obtain ⟨k, hk, rfl, hp, hbl⟩ := hrel
  have HP : Hid (∀ j : Nat, j < k → okAt p vars j = true) := hp
  clear hp
  by_cases hlt : k < p.length
  ·have HMr : Hid (Ms wr (.slice ao p.length cap) p) := HM.out.kp (zK hbl)
   obtain ⟨g, off, c, es, a1, c1, a2, c2, rfl, hm1, hc0, hc1, hmo, hl1, hl2, hl3, hl4⟩ := HMr.out.at hlt
   have HX : Hid (p[k]? = some (c, es)) := hm1
   have HMo : Hid (Mo wr (.slice a1 c.length c1) (.slice a2 es.length c2) (c, es)) := hmo
   clear hm1 hmo
   go_wp2_with fail
   refine (isMonomial_any _ _ (c, es) _ (HMo.out.kp (zK (zA _)))).mono ?_
   rintro e w1 ⟨rfl, hb1⟩
   obtain ⟨hd0, hd1, hbl1⟩ := box2Y hb1
   have HB1 : Hid (Below wr.heap.size wr w1) := hbl1
   have HB : Hid (Below w.heap.size w w1) := zS hbl hbl1
   have HI : Hid (Is w1 (.slice a2 es.length c2) es) := HMo.out.2.kp (zK hbl1)
   clear hb1 hbl1 hbl hc0 hc1
   cases hmb : monB (c, es)
   ·have HF : Hid (polyB p vars = false) := polyB_no hlt (okAt_no HX.out (by rw [hmb]; rfl))
    clear hmb
    go_wp2
    go_ret
    exact ⟨ret1b HF.out.symm, HB.out⟩
   by_cases hv : (es.length : Int) ≤ vars
   ·have ht : (monB (c, es) && decide (((c, es).2.length : Int) ≤ vars)) = true := by rw [hmb]; simpa using hv
    have HT : Hid ((monB (c, es) && decide (((c, es).2.length : Int) ≤ vars)) = true) := ht
    clear ht
    clear hmb
    by_cases hk0 : k = 0
    ·subst hk0
     have HO : Hid (okAt p vars 0 = true) := okAt_0 HX.out HT.out
     go_wp2
     go_quiet (fail)
     go_wp2
     go_roundw
     case rel => exact ⟨1, by omega, by go_num, fun j hj => by obtain rfl : j = 0 := Nat.lt_one_iff.1 hj; exact HO.out, below_drewN HB.out _⟩
     case measure => simp [intOf]; omega
    obtain ⟨j, rfl⟩ : ∃ j, k = j + 1 := ⟨k - 1, by omega⟩
    clear hk0
    obtain ⟨g', off', d, fs, b1, d1, b2, d2, hq, hm2, he0, he1, hmo2, hk1, hk2, hk3, hk4⟩ := HMr.out.at (k := j) (by omega)
    obtain ⟨rfl, rfl⟩ : g = g' ∧ off = off' := by simpa using hq
    have HX2 : Hid (p[j]? = some (d, fs)) := hm2
    have HI2 : Hid (Is w1 (.slice b2 fs.length d2) fs) := hmo2.2.kp (zK HB1.out)
    have he1' := (zK HB1.out).cell _ _ he1
    have HO : Hid (okAt p vars (j + 1) = decide (cmpX fs es < 0)) := okAt_s HX.out HX2.out HT.out
    clear hm2 hmo2 he0 he1 hq
    have hg0 : (0 : Int) < (j : Int) + 1 := by omega
    have hjl : j < p.length := by omega
    cases hcf : decide (cmpX fs es < 0)
    ·have HF : Hid (polyB p vars = false) := polyB_no hlt (HO.out.trans hcf)
     have HC : Hid (decide (cmpX fs es < 0) = false) := hcf
     clear hcf
     go_wp2
     go_quiet ((go_at_call 105; exact Calls.quiet_of_same (HC.out ▸ xCO _ _ fs es _ (HI2.out.kp (Kp.drewN _ _)) (HI.out.kp (Kp.drewN _ _)))))
     go_wp2
     go_ret
     exact ⟨ret1b HF.out.symm, below_drewN HB.out _⟩
    have HC : Hid (decide (cmpX fs es < 0) = true) := hcf
    clear hcf
    go_wp2
    go_quiet ((go_at_call 105; exact Calls.quiet_of_same (HC.out ▸ xCO _ _ fs es _ (HI2.out.kp (Kp.drewN _ _)) (HI.out.kp (Kp.drewN _ _)))))
    go_wp2
    go_roundw
    case rel =>
     refine ⟨j + 1 + 1, by omega, by go_num, fun i hi => ?_, below_drewN HB.out _⟩
     by_cases hij : i = j + 1
     ·subst hij; exact HO.out.trans HC.out
     exact HP.out i (by omega)
    case measure => simp [intOf]; omega
   have HF : Hid (polyB p vars = false) := polyB_no hlt (okAt_no HX.out (by rw [hmb]; simpa using hv))
   clear hmb
   go_wp2
   go_ret
   exact ⟨ret1b HF.out.symm, HB.out⟩
  have hke : k = p.length := by omega
  subst hke
  have HF : Hid (polyB p vars = true) := xBD.2 HP.out
  go_wp2
  go_ret
  exact ⟨ret1b HF.out.symm, hbl⟩
theorem boundsB_no {p : List Mn} {k : Nat} {m : Mn} (hk : p[k]? = some m) (h : smallB m = false) : boundsB p = false := by
 have : p.all smallB = false := by rw [List.all_eq_false]; exact ⟨m, zD hk, by simp [h]⟩
 simp [boundsB, this]
theorem smallB_no {c : List Nat} {es : List Int} {k : Nat} {x : Int} (hk : es[k]? = some x) (h : 64 < x) : smallB (c, es) = false := by
 have : es.all (fun n => decide (n ≤ 64)) = false := by rw [List.all_eq_false]; exact ⟨x, zD hk, by simp; omega⟩
 simp [smallB, this]
theorem smallB_yes {c : List Nat} {es : List Int} (h0 : es.length ≤ 512) (h : ∀ (k : Nat) (x : Int), es[k]? = some x → x ≤ 64) : smallB (c, es) = true := by
 have : es.all (fun n => decide (n ≤ 64)) = true := by
  rw [List.all_eq_true]
  intro x hx
  obtain ⟨k, hk⟩ := zW.1 hx
  simpa using h k x hk
 simp [smallB, this, h0]
theorem boundsB_yes {p : List Mn} (h0 : p.length ≤ 256) (h : ∀ (k : Nat) (m : Mn), p[k]? = some m → smallB m = true) : boundsB p = true := by
 have : p.all smallB = true := by
  rw [List.all_eq_true]
  intro x hx
  obtain ⟨k, hk⟩ := zW.1 hx
  exact h k x hk
 simp [boundsB, this, h0]
theorem inBounds2_any (v : Value) (p : List Mn) (w : World) (h : Ms w v p) :
  Calls Tryz.prog 87 #[v] w fun e w' => e = .returned (.bool (boundsB p)) ∧ Below w.heap.size w w' := by
 obtain ⟨ao, cap, rfl, hao, hca, q0⟩ := h.flat
 unfold maxLen at hca
 have HM : Hid (Ms w (.slice ao p.length cap) p) := h
 clear h q0
 by_cases h256 : p.length ≤ 256
 ·go_enter Tryz.func87, Tryz.ntmps87
  go_wp2
  go_loopw [12] (fun i wr => ∃ k : Nat, k ≤ p.length ∧ i = .int .i64 k ∧ (∀ (j : Nat) (m : Mn), j < k → p[j]? = some m → smallB m = true) ∧ Below w.heap.size w wr) (fun i _ => p.length - (intOf i).toNat)
  case atStart => exact ⟨0, by omega, rfl, fun j m hj => absurd hj (by omega), Below.refl _ _⟩
  case round =>
   obtain ⟨k, hk, rfl, hp, hbl⟩ := hrel
   have HP : Hid (∀ (j : Nat) (m : Mn), j < k → p[j]? = some m → smallB m = true) := hp
   clear hp
   by_cases hlt : k < p.length
   ·have HMr : Hid (Ms wr (.slice ao p.length cap) p) := HM.out.kp (zK hbl)
    obtain ⟨g, off, c, es, a1, c1, a2, c2, rfl, hm1, hc0, hc1, hmo, hl1, hl2, hl3, hl4⟩ := HMr.out.at hlt
    have HX : Hid (p[k]? = some (c, es)) := hm1
    have hB := zA (w := wr) (.cells #[.slice a1 c.length c1, .slice a2 es.length c2] 37)
    have HB : Hid (Below w.heap.size w (wr.alloc (.cells #[.slice a1 c.length c1, .slice a2 es.length c2] 37))) := zS hbl hB
    have hi := hmo.2.kp (zK hB)
    clear hm1 hmo hB hbl
    by_cases h512 : es.length ≤ 512
    ·go_wp2
     obtain ⟨wb, hwb⟩ : ∃ wb, wb = wr.alloc (.cells #[.slice a1 c.length c1, .slice a2 es.length c2] 37) := ⟨_, rfl⟩
     rw [← hwb] at HB hi ⊢
     obtain ⟨_, _, hq, _, _, hcl⟩ := Row.flat hi
     simp only [zZ, true_and] at hq
     obtain ⟨rfl, rfl⟩ := hq
     clear hwb hi hc0 hc1
     go_loopw [23] (fun i ws => ∃ l : Nat, l ≤ es.length ∧ i = .int .i64 l ∧ (∀ (j : Nat) (x : Int), j < l → es[j]? = some x → x ≤ 64) ∧ ws = wb) (fun i _ => es.length - (intOf i).toNat)
     case atStart => exact ⟨0, by omega, rfl, fun j x hj => absurd hj (by omega), rfl⟩
     case round =>
      obtain ⟨l, hl, rfl, hq, hw⟩ := hrel
      subst hw
      have HQ : Hid (∀ (j : Nat) (x : Int), j < l → es[j]? = some x → x ≤ 64) := hq
      clear hq
      by_cases hll : l < es.length
      ·obtain ⟨g', off', x, rfl, hx1, hx2, hx3, hx4⟩ := hcl l hll
       have HXX : Hid (es[l]? = some x) := hx1
       rw [Nat.mul_one] at hx4
       clear hx1 hcl
       by_cases hx : x ≤ 64
       ·go_wp2
        go_roundw
        case rel =>
         refine ⟨l + 1, by omega, by go_num, fun j y hj hy => ?_, trivial⟩
         by_cases hjk : j = l
         ·subst hjk; rw [HXX.out] at hy; cases hy; exact hx
         exact HQ.out j y (by omega) hy
        case measure => simp [intOf]; omega
       have HF : Hid (boundsB p = false) := boundsB_no HX.out (smallB_no HXX.out (by omega))
       go_wp2
       go_ret
       exact ⟨ret1b HF.out.symm, HB.out⟩
      have hle : l = es.length := by omega
      subst hle
      have HS : Hid (smallB (c, es) = true) := smallB_yes h512 (fun j x hx => HQ.out j x (zB.1 hx).1 hx)
      clear hcl
      go_wp2
      go_roundw
      case rel =>
       refine ⟨k + 1, by omega, by go_num, fun j m hj hm => ?_, HB.out⟩
       by_cases hjk : j = k
       ·subst hjk; rw [HX.out] at hm; cases hm; exact HS.out
       exact HP.out j m (by omega) hm
      case measure => simp [intOf]; omega
    have HF : Hid (boundsB p = false) := boundsB_no HX.out (by simp [smallB, h512])
    go_wp2
    go_ret
    exact ⟨ret1b HF.out.symm, HB.out⟩
   have hke : k = p.length := by omega
   subst hke
   have HF : Hid (boundsB p = true) := boundsB_yes h256 (fun j m hm => HP.out j m (zB.1 hm).1 hm)
   go_wp2
   go_ret
   exact ⟨ret1b HF.out.symm, hbl⟩
 go_enter Tryz.func87, Tryz.ntmps87
 go_wp2
 go_ret
 exact ⟨ret1b (by simp [boundsB, h256]), Below.refl _ _⟩
theorem check_anyY (v : Value) (p : List Mn) (vars : Int) (w : World) (h : Ms w v p) (hv1 : -9223372036854775808 ≤ vars) (hv2 : vars ≤ 9223372036854775807) :
  Calls Tryz.prog 39 #[v, .int .i64 vars] w fun e w' => e = .returned (.int .i64 (checkE p vars)) ∧ Below w.heap.size w w' := by
 by_cases h0 : vars < 0
 ·go_enter Tryz.func39, Tryz.ntmps39
  go_wp2
  go_ret
  exact ⟨ret1i (by simp [checkE, h0]), Below.refl _ _⟩
 have h0' : 0 ≤ vars := by omega
 go_enter Tryz.func39, Tryz.ntmps39
 go_wp2_with fail
 refine (isPolynomial_any v p vars _ h h0' hv2).mono ?_
 rintro e w1 ⟨rfl, hb1⟩
 cases hp : polyB p vars
 ·have HP : Hid (polyB p vars = false) := hp
  clear hp
  go_wp2
  go_ret
  exact ⟨ret1i (by simp [checkE, h0, HP.out]), hb1⟩
 have HP : Hid (polyB p vars = true) := hp
 have H1 : Hid (Below w.heap.size w w1) := hb1
 have h1 := h.kp (zK hb1)
 clear hp hb1 h
 go_wp2_with fail
 refine (inBounds2_any v p _ h1).mono ?_
 rintro e w2 ⟨rfl, hb2⟩
 have H2 : Hid (Below w.heap.size w w2) := zS H1.out hb2
 clear hb2
 cases hq : boundsB p
 ·have HQ : Hid (boundsB p = false) := hq
  clear hq
  go_wp2
  go_ret
  exact ⟨ret1i (by simp [checkE, h0, HP.out, HQ.out]), H2.out⟩
 have HQ : Hid (boundsB p = true) := hq
 clear hq
 go_wp2
 go_ret
 exact ⟨ret1i (by simp [checkE, h0, HP.out, HQ.out]), H2.out⟩
theorem xFX {ps : List (List Mn)} : ∀ k, (∀ (j : Nat) (p : List Mn), j < k → ps[j]? = some p → checkE p 9223372036854775807 = 0) → checkAllE ps = checkAllE (ps.drop k) := by
 induction ps with
 | nil => intro k _; simp
 | cons q r ih =>
  intro k h
  cases k with
  | zero => rfl
  | succ k =>
   rw [List.drop_succ_cons, checkAllE, if_pos (h 0 q (by omega) rfl)]
   exact ih k (fun j p hj hp => h (j + 1) p (by omega) hp)
theorem xDR (v : Value) (ps : List (List Mn)) (w : World) (h : Ps w v ps) :
  Calls Tryz.prog 62 #[v] w fun e w' => e = .returned (.int .i64 (checkAllE ps)) ∧ Below w.heap.size w w' := by
 obtain ⟨ao, cap, rfl, hao, hca, q0⟩ := Row.flat h
 unfold maxLen at hca
 have HM : Hid (Ps w (.slice ao ps.length cap) ps) := h
 clear h q0
 go_enter Tryz.func62, Tryz.ntmps62
 go_wp2
 go_loopw [8] (fun i wr => ∃ k : Nat, k ≤ ps.length ∧ i = .int .i64 k ∧ (∀ (j : Nat) (p : List Mn), j < k → ps[j]? = some p → checkE p 9223372036854775807 = 0) ∧ Below w.heap.size w wr) (fun i _ => ps.length - (intOf i).toNat)
 case atStart => exact ⟨0, by omega, rfl, fun j p hj => absurd hj (by omega), Below.refl _ _⟩
 case round =>
  obtain ⟨k, hk, rfl, hp, hbl⟩ := hrel
  have HP : Hid (∀ (j : Nat) (p : List Mn), j < k → ps[j]? = some p → checkE p 9223372036854775807 = 0) := hp
  clear hp
  by_cases hlt : k < ps.length
  ·obtain ⟨g, off, p, a1, c1, rfl, hm1, hc0, hmo, hl1, hl2⟩ := (HM.out.kp (zK hbl)).at hlt
   have HX : Hid (ps[k]? = some p) := hm1
   clear hm1
   go_wp2_with fail
   refine (check_anyY _ p 9223372036854775807 _ hmo (by omega) (by omega)).mono ?_
   rintro e w1 ⟨rfl, hb1⟩
   have HB : Hid (Below w.heap.size w w1) := zS hbl hb1
   clear hb1 hbl hmo hc0
   obtain ⟨E, hE⟩ : ∃ E, E = checkE p 9223372036854775807 := ⟨_, rfl⟩
   have HE : Hid (E = checkE p 9223372036854775807) := hE
   rw [← hE]
   clear hE
   by_cases h0 : E = 0
   ·subst h0
    go_wp2
    go_roundw
    case rel =>
     refine ⟨k + 1, by omega, by go_num, fun j q hj hq => ?_, HB.out⟩
     by_cases hjk : j = k
     ·subst hjk; rw [HX.out] at hq; cases hq; exact HE.out.symm
     exact HP.out j q (by omega) hq
    case measure => simp [intOf]; omega
   have hb0 : (E != 0) = true := by rw [bne_iff_ne]; exact h0
   have HF : Hid (checkAllE ps = E) := by
    show checkAllE ps = E
    rw [xFX k HP.out, xAK HX.out, checkAllE, ← HE.out, if_neg h0]
   go_wp2
   go_ret
   exact ⟨ret1i HF.out.symm, HB.out⟩
  have hke : k = ps.length := by omega
  subst hke
  have HF : Hid (checkAllE ps = 0) := by
   show checkAllE ps = 0
   rw [xFX ps.length HP.out, zP (Nat.le_refl _)]; rfl
  go_wp2
  go_ret
  exact ⟨ret1i HF.out.symm, hbl⟩
end Go.Proofs.YtdjmjhlbjcgoiaaGreatDoor
namespace Go.Proofs.YtdjmjhlbjcgoiaaGreatDoor
open Go.RowKit Go.Maps
abbrev Sy := ByteArray × Int
def ES (w : World) (g o : Nat) (s : Sy) : Prop := -9223372036854775808 ≤ s.2 ∧ s.2 ≤ 9223372036854775807 ∧ s.1.size ≤ maxLen ∧ w.cell? ⟨g, o, none⟩ = some (.string s.1) ∧ w.cell? ⟨g, o + 1, none⟩ = some (.int .i64 s.2)
theorem ES.kp {w w' : World} (hk : Kp w w') (g o : Nat) (s : Sy) (h : ES w g o s) : ES w' g o s := ⟨h.1, h.2.1, h.2.2.1, hk.cell _ _ h.2.2.2.1, hk.cell _ _ h.2.2.2.2⟩
def Sg (w : World) (v : Value) (sig : List Sy) : Prop := Row ES 2 w v sig
theorem Sg.kp {w w' : World} {v : Value} {sig : List Sy} (h : Sg w v sig) (hk : Kp w w') : Sg w' v sig := Row.imp h hk.size (ES.kp hk)
theorem Sg.at {w : World} {ao : Option Addr} {n cap : Nat} {sig : List Sy} (h : Sg w (.slice ao n cap) sig) {k : Nat} (hk : k < sig.length) :
  ∃ g off s a, ao = some ⟨g, off, none⟩ ∧ sig[k]? = some (s, a) ∧ w.cell? ⟨g, off + k * 2, none⟩ = some (.string s) ∧ w.cell? ⟨g, off + k * 2 + 1, none⟩ = some (.int .i64 a) ∧ -9223372036854775808 ≤ a ∧ a ≤ 9223372036854775807 ∧ s.size ≤ 9223372036854775807 := by
 obtain ⟨ao', cap', hv, _, _, hx⟩ := Row.flat h
 simp only [zZ] at hv
 obtain ⟨rfl, rfl, rfl⟩ := hv
 obtain ⟨g, off, ⟨s, a⟩, rfl, hm, h1, h2, h3, h4, h5⟩ := hx k hk
 unfold maxLen at h3
 exact ⟨g, off, s, a, rfl, hm, h4, h5, h1, h2, by simp only at h3; omega⟩
def ArOk (sig : List Sy) : Prop := ∀ s ∈ sig, 0 ≤ s.2 ∧ s.2 ≤ 1000
def codeD (sig : List Sy) (c : Int) : Option Int := if c < -1048576 then none else if c < 0 then some (-1) else match sig[c.toNat]? with | none => none | some s => some (s.2 - 1)
def firstT (sig : List Sy) : Int → Nat → List Int → Int × Int
 | _, _, [] => (0, 31)
 | m, i, c :: r => match codeD sig c with | none => (0, 30) | some e => if m + e = 0 then ((i : Int) + 1, 0) else firstT sig (m + e) (i + 1) r
theorem xEC {sig : List Sy} {c : Int} (h : (sig.length : Int) ≤ c ∨ c < -1048576) : codeD sig c = none := by
 unfold codeD
 rcases h with h | h
 ·rw [if_neg (by omega), if_neg (by omega), yO (by omega)]
 rw [if_pos h]
theorem codeD_var {sig : List Sy} {c : Int} (h1 : -1048576 ≤ c) (h2 : c < 0) : codeD sig c = some (-1) := by
 unfold codeD
 rw [if_neg (by omega), if_pos h2]
theorem codeD_sym {sig : List Sy} {c : Nat} {s : Sy} (h : sig[c]? = some s) : codeD sig (c : Int) = some (s.2 - 1) := by
 unfold codeD
 rw [if_neg (by omega), if_neg (by omega), Int.toNat_natCast, h]
theorem firstTerm_any (sv v : Value) (sig : List Sy) (t : List Int) (w : World) (hs : Sg w sv sig) (h : Is w v t) (ha : ArOk sig) (hb : t.length * 8 ≤ 140737488351232) :
  Calls Tryz.prog 109 #[sv, v] w fun e w' => e = .returned (.tuple #[.int .i64 (firstT sig 1 0 t).1, .int .i64 (firstT sig 1 0 t).2]) ∧ w' = w := by
 obtain ⟨so, sc, rfl, hso, hsc, _⟩ := Row.flat hs
 obtain ⟨ao, cap, rfl, hao, hca, q0⟩ := Row.flat h
 unfold maxLen at hca hsc
 have HS : Hid (Sg w (.slice so sig.length sc) sig) := hs
 have HT : Hid (Is w (.slice ao t.length cap) t) := h
 have HA : Hid (ArOk sig) := ha
 clear hs h q0 ha
 go_enter Tryz.func109, Tryz.ntmps109
 go_wp2
 go_loopw [6, 11] (fun x i wr => ∃ (k : Nat) (m : Int), k ≤ t.length ∧ x = .int .i64 m ∧ i = .int .i64 k ∧ firstT sig 1 0 t = firstT sig m k (t.drop k) ∧ -(k : Int) ≤ m ∧ m ≤ 1 + 1000 * (k : Int) ∧ wr = w) (fun _ i _ => t.length - (intOf i).toNat)
 case atStart => exact ⟨0, 1, Nat.zero_le _, rfl, rfl, rfl, by omega, by omega, rfl⟩
 case round =>
  obtain ⟨k, m, hk, rfl, rfl, hft, hm1, hm2, hw⟩ := hrel
  have hw8 := hw.symm
  subst hw8
  have HF : Hid (firstT sig 1 0 t = firstT sig m k (t.drop k)) := hft
  clear hft hw
  by_cases hlt : k < t.length
  ·obtain ⟨g, off, c, rfl, hx1, hx2, hx3, hx4⟩ := HT.out.at hlt
   have HD : Hid (t.drop k = c :: t.drop (k + 1)) := xAR hx1
   clear hx1
   by_cases hbad : (sig.length : Int) ≤ c ∨ c < -1048576
   ·have HR : Hid (firstT sig 1 0 t = (0, 30)) := by show _ = _; rw [HF.out, HD.out, firstT, xEC hbad]
    rcases hbad with hbad | hbad
    ·go_wp2
     go_ret2
     exact ⟨by rw [HR.out]; rfl, rfl⟩
    by_cases hbad2 : (sig.length : Int) ≤ c
    ·omega
    go_wp2
    go_ret2
    exact ⟨by rw [HR.out]; rfl, rfl⟩
   have hb1 : ¬ (sig.length : Int) ≤ c := fun h => hbad (.inl h)
   have hb2 : ¬ c < -1048576 := fun h => hbad (.inr h)
   clear hbad
   by_cases hc0 : c < 0
   ·have hcd : codeD sig c = some (-1) := codeD_var (by omega) hc0
    have hwm : IntKind.i64.wrap (m - 1) = m - 1 := yA _ ⟨by omega, by omega⟩
    by_cases hz : m - 1 = 0
    ·have HR : Hid (firstT sig 1 0 t = ((k : Int) + 1, 0)) := by show _ = _; rw [HF.out, HD.out, firstT, hcd]; simp only; rw [if_pos (by omega)]
     have hzb : (m - 1 == 0) = true := by rw [beq_iff_eq]; exact hz
     clear hcd
     go_wp2
     go_ret2
     exact ⟨by rw [HR.out]; rfl, rfl⟩
    have HN : Hid (firstT sig 1 0 t = firstT sig (m - 1) (k + 1) (t.drop (k + 1))) := by show _ = _; rw [HF.out, HD.out, firstT, hcd]; simp only; rw [if_neg (by omega)]; rfl
    have hzb : (m - 1 == 0) = false := by rw [zY]; exact hz
    clear hcd
    go_wp2
    go_roundw
    case rel => exact ⟨k + 1, m - 1, by omega, rfl, by go_num, HN.out, by omega, by omega, trivial⟩
    case measure => simp [intOf]; omega
   obtain ⟨cn, rfl⟩ : ∃ cn : Nat, c = cn := ⟨c.toNat, by omega⟩
   obtain ⟨g2, off2, nm, ar, rfl, hs1, hs2, hs3, hs4, hs5, hs6⟩ := HS.out.at (k := cn) (by omega)
   have har := HA.out _ (zD hs1)
   simp only at har
   have hcd : codeD sig (cn : Int) = some (ar - 1) := codeD_sym hs1
   have hwa : IntKind.i64.wrap (ar - 1) = ar - 1 := yA _ ⟨by omega, by omega⟩
   have hwm : IntKind.i64.wrap (m + (ar - 1)) = m + (ar - 1) := yA _ ⟨by omega, by omega⟩
   have hcl : cn < sig.length := by omega
   clear hs1
   by_cases hz : m + (ar - 1) = 0
   ·have HR : Hid (firstT sig 1 0 t = ((k : Int) + 1, 0)) := by show _ = _; rw [HF.out, HD.out, firstT, hcd]; simp only; rw [if_pos (by omega)]
    have hzb : (m + (ar - 1) == 0) = true := by rw [beq_iff_eq]; exact hz
    clear hcd
    go_wp2
    go_ret2
    exact ⟨by rw [HR.out]; rfl, rfl⟩
   have HN : Hid (firstT sig 1 0 t = firstT sig (m + (ar - 1)) (k + 1) (t.drop (k + 1))) := by show _ = _; rw [HF.out, HD.out, firstT, hcd]; simp only; rw [if_neg (by omega)]
   have hzb : (m + (ar - 1) == 0) = false := by rw [zY]; exact hz
   clear hcd
   go_wp2
   go_roundw
   case rel => exact ⟨k + 1, m + (ar - 1), by omega, rfl, by go_num, HN.out, by omega, by omega, trivial⟩
   case measure => simp [intOf]; omega
  have HR : Hid (firstT sig 1 0 t = (0, 31)) := by show _ = _; rw [HF.out, zP (by omega)]; rfl
  go_wp2
  go_ret2
  exact ⟨by rw [HR.out]; rfl, rfl⟩
def rowE (sig : List Sy) (t : List Int) : Int := if (firstT sig 1 0 t).2 = 0 ∧ (firstT sig 1 0 t).1 < (t.length : Int) then 32 else (firstT sig 1 0 t).2
theorem checkRow_any (sv v : Value) (sig : List Sy) (t : List Int) (w : World) (hs : Sg w sv sig) (h : Is w v t) (ha : ArOk sig) (hb : t.length * 8 ≤ 140737488351232) :
  Calls Tryz.prog 98 #[sv, v] w fun e w' => e = .returned (.int .i64 (rowE sig t)) ∧ w' = w := by
 obtain ⟨ao, cap, rfl, hao, hca, q0⟩ := Row.flat h
 unfold maxLen at hca
 have HS : Hid (Sg w sv sig) := hs
 have HT : Hid (Is w (.slice ao t.length cap) t) := h
 clear hs h q0
 go_enter Tryz.func98, Tryz.ntmps98
 go_wp2_with fail
 refine (firstTerm_any sv _ sig t _ HS.out HT.out ha hb).mono ?_
 rintro e w1 ⟨rfl, hw⟩
 have hw8 := hw.symm
 subst hw8
 obtain ⟨N, hN⟩ : ∃ N, N = (firstT sig 1 0 t).1 := ⟨_, rfl⟩
 obtain ⟨E, hE⟩ : ∃ E, E = (firstT sig 1 0 t).2 := ⟨_, rfl⟩
 have HR : Hid (rowE sig t = if E = 0 ∧ N < (t.length : Int) then 32 else E) := by show _ = _; unfold rowE; rw [← hN, ← hE]
 rw [← hN, ← hE]
 clear hN hE hw
 by_cases h0 : E = 0
 ·subst h0
  by_cases h1 : N < (t.length : Int)
  ·have HF : Hid (rowE sig t = 32) := by show _ = _; rw [HR.out, if_pos ⟨rfl, h1⟩]
   go_wp2
   go_ret
   exact ⟨ret1i HF.out.symm, rfl⟩
  have HF : Hid (rowE sig t = 0) := by show _ = _; rw [HR.out, if_neg (fun hh => h1 hh.2)]
  go_wp2
  go_ret
  exact ⟨ret1i HF.out.symm, rfl⟩
 have hb0 : (E == 0) = false := by rw [zY]; exact h0
 have HF : Hid (rowE sig t = E) := by show _ = _; rw [HR.out, if_neg (fun hh => h0 hh.1)]
 go_wp2
 go_ret
 exact ⟨ret1i HF.out.symm, rfl⟩
def letB (r : Int) : Bool := (decide (97 ≤ r) && decide (r ≤ 122)) || (decide (65 ≤ r) && decide (r ≤ 90)) || decide (128 ≤ r)
def folB (r : Int) : Bool := (decide (48 ≤ r) && decide (r ≤ 57)) || decide (r = 95) || decide (r = 39)
theorem isLetter_any (r : Int) (w : World) : Calls Tryz.prog 173 #[.int .i32 r] w fun e w' => e = .returned (.bool (letB r)) ∧ w' = w := by
 obtain ⟨B, hB⟩ : ∃ B, B = letB r := ⟨_, rfl⟩
 rw [← hB]
 have HB : Hid (B = letB r) := hB
 clear hB
 go_enter Tryz.func173, Tryz.ntmps173
 by_cases h1 : 97 ≤ r
 ·by_cases h2 : r ≤ 122
  ·have HF : Hid (B = true) := by show _ = _; rw [HB.out]; unfold letB; simp [h1, h2]
   clear HB
   go_wp2
   go_ret
   exact ⟨ret1b HF.out.symm, rfl⟩
  have HF : Hid (B = decide (128 ≤ r)) := by show _ = _; rw [HB.out]; unfold letB; rw [decide_eq_false h2, decide_eq_false (show ¬ r ≤ 90 by omega)]; simp
  clear HB
  have h3 : 65 ≤ r := by omega
  have h4 : ¬ r ≤ 90 := by omega
  go_wp2
  go_ret
  exact ⟨ret1b HF.out.symm, rfl⟩
 by_cases h3 : 65 ≤ r
 ·by_cases h4 : r ≤ 90
  ·have HF : Hid (B = true) := by show _ = _; rw [HB.out]; unfold letB; simp [h3, h4]
   clear HB
   go_wp2
   go_ret
   exact ⟨ret1b HF.out.symm, rfl⟩
  have HF : Hid (B = decide (128 ≤ r)) := by show _ = _; rw [HB.out]; unfold letB; rw [decide_eq_false h1, decide_eq_false h4]; simp
  clear HB
  go_wp2
  go_ret
  exact ⟨ret1b HF.out.symm, rfl⟩
 have HF : Hid (B = decide (128 ≤ r)) := by show _ = _; rw [HB.out]; unfold letB; rw [decide_eq_false h1, decide_eq_false h3]; simp
 clear HB
 go_wp2
 go_ret
 exact ⟨ret1b HF.out.symm, rfl⟩
theorem followsLetter_any (r : Int) (w : World) : Calls Tryz.prog 174 #[.int .i32 r] w fun e w' => e = .returned (.bool (folB r)) ∧ w' = w := by
 obtain ⟨B, hB⟩ : ∃ B, B = folB r := ⟨_, rfl⟩
 rw [← hB]
 have HB : Hid (B = folB r) := hB
 clear hB
 go_enter Tryz.func174, Tryz.ntmps174
 by_cases h1 : 48 ≤ r
 ·by_cases h2 : r ≤ 57
  ·have HF : Hid (B = true) := by show _ = _; rw [HB.out]; unfold folB; simp [h1, h2]
   clear HB
   go_wp2
   go_ret
   exact ⟨ret1b HF.out.symm, rfl⟩
  by_cases h3 : r = 95
  ·have HF : Hid (B = true) := by show _ = _; rw [HB.out]; unfold folB; simp [h3]
   have h3b : (r == 95) = true := by rw [beq_iff_eq]; exact h3
   clear HB
   go_wp2
   go_ret
   exact ⟨ret1b HF.out.symm, rfl⟩
  have HF : Hid (B = decide (r = 39)) := by show _ = _; rw [HB.out]; unfold folB; rw [decide_eq_false h2, decide_eq_false h3]; simp
  have h3b : (r == 95) = false := by rw [zY]; exact h3
  clear HB
  go_wp2
  go_ret
  exact ⟨ret1b (by rw [HF.out]; rfl), rfl⟩
 by_cases h3 : r = 95
 ·omega
 have HF : Hid (B = decide (r = 39)) := by show _ = _; rw [HB.out]; unfold folB; rw [decide_eq_false h1, decide_eq_false h3]; simp
 have h3b : (r == 95) = false := by rw [zY]; exact h3
 clear HB
 go_wp2
 go_ret
 exact ⟨ret1b (by rw [HF.out]; rfl), rfl⟩
theorem width_pos (s : ByteArray) (pos : Nat) (h : pos < s.size) : 1 ≤ (Utf8.decode s pos).2 := by
 by_cases ha : (s[pos]'h).toNat < 128
 ·rw [decode_ascii s pos h ha]
  exact Nat.le_refl _
 exact (decode_high s pos h (by omega)).2
def nmGo (s : ByteArray) : Nat → Nat → Bool
 | 0, _ => true
 | b + 1, pos => if pos < s.size then (letB (Utf8.decode s pos).1 || (!decide (pos = 0) && folB (Utf8.decode s pos).1)) && nmGo s b (pos + (Utf8.decode s pos).2) else true
theorem nmGo_end (s : ByteArray) (b pos : Nat) (h : ¬ pos < s.size) : nmGo s b pos = true := by
 cases b with
 | zero => rfl
 | succ b => simp [nmGo, h]
def nameB (B : Bool) (s : ByteArray) : Bool := !decide (s.size = 0) && (!decide (32 < s.size) && (B && nmGo s s.size 0))
theorem xCM (w : World) (s : ByteArray) (pos : Nat) : Below w.heap.size w (w.iter s pos) := zA _
theorem isName_any (B : Bool) (s : ByteArray) (w : World) (hs : s.size ≤ 9223372036854775807) (hV : Calls Tryz.prog 172 #[.string s] w fun e w' => e = .returned (.bool B) ∧ Below w.heap.size w w') :
  Calls Tryz.prog 139 #[.string s] w fun e w' => e = .returned (.bool (nameB B s)) ∧ Below w.heap.size w w' := by
 have HV : Hid (Calls Tryz.prog 172 #[.string s] w fun e w' => e = .returned (.bool B) ∧ Below w.heap.size w w') := hV
 clear hV
 go_enter Tryz.func139, Tryz.ntmps139
 by_cases h0 : s.size = 0
 ·have he : s.toList.isEmpty = true := by
   have hl : s.toList.length = 0 := by rw [← h0]; simp [ByteArray.toList_eq]
   rw [List.length_eq_zero_iff.mp hl]; rfl
  have HF : Hid (nameB B s = false) := by show _ = _; unfold nameB; rw [decide_eq_true h0]; rfl
  go_wp2
  go_ret
  exact ⟨ret1b HF.out.symm, Below.refl _ _⟩
 have he : s.toList.isEmpty = false := by
  cases hl : s.toList with
  | nil => exact absurd (by have := congrArg List.length hl; simpa [ByteArray.toList_eq] using this) h0
  | cons a l => rfl
 by_cases h32 : 32 < s.size
 ·have HF : Hid (nameB B s = false) := by show _ = _; unfold nameB; rw [decide_eq_true h32]; simp
  go_wp2
  go_ret
  exact ⟨ret1b HF.out.symm, Below.refl _ _⟩
 go_wp2_with fail
 refine HV.out.mono ?_
 rintro e w1 ⟨rfl, hb1⟩
 have HB1 : Hid (Below w.heap.size w w1) := hb1
 clear hb1
 cases B
 ·have HF : Hid (nameB false s = false) := by show _ = _; unfold nameB; simp
  go_wp2
  go_ret
  exact ⟨ret1b HF.out.symm, HB1.out⟩
 have HF : Hid (nameB true s = nmGo s s.size 0) := by show _ = _; unfold nameB; rw [decide_eq_false h0, decide_eq_false h32]; rfl
 go_wp2
 go_loopw [] (fun w' => ∃ (pos b : Nat), w' = w1.iter s pos ∧ nmGo s s.size 0 = nmGo s b pos ∧ s.size ≤ pos + b) (fun w' => s.size - w'.iterPos w1.heap.size)
 case atStart => exact ⟨0, s.size, rfl, rfl, by omega⟩
 case round =>
  obtain ⟨pos, b, rfl, hc, hb⟩ := hrel
  have HC : Hid (nmGo s s.size 0 = nmGo s b pos) := hc
  clear hc
  by_cases hp : pos < s.size
  ·have hnx : ∀ ty, (Instr.next (.pointer (some ⟨w1.heap.size, 0, none⟩)) true ty).run Tryz.prog (w1.iter s pos) = _ := fun ty => run_next_any w1 s pos ty hp
   have hwd := width_pos s pos hp
   obtain ⟨b', rfl⟩ : ∃ b', b = b' + 1 := ⟨b - 1, by omega⟩
   obtain ⟨r, hr⟩ : ∃ r : Nat, r = (Utf8.decode s pos).1 := ⟨_, rfl⟩
   obtain ⟨wd, hwd2⟩ : ∃ wd : Nat, wd = (Utf8.decode s pos).2 := ⟨_, rfl⟩
   have HS : Hid (nmGo s s.size 0 = ((letB (r : Int) || (!decide (pos = 0) && folB (r : Int))) && nmGo s b' (pos + wd))) := by
    show _ = _
    rw [HC.out, nmGo, if_pos hp, ← hr, ← hwd2]
   rw [← hwd2] at hwd
   have HFi : Hid (s.size ≤ pos + wd + b') := by show _ ≤ _; omega
   rw [← hr, ← hwd2] at hnx
   clear hr hwd2 HC
   go_wp2_with fail
   refine (isLetter_any (r : Int) _).mono ?_
   rintro e w9 ⟨rfl, hw9⟩
   have hw8 := hw9.symm
   subst hw8
   clear hw9 hnx
   cases hL : letB (r : Int)
   ·by_cases hp0 : pos = 0
    ·have HFF : Hid (nameB true s = false) := by show _ = _; rw [HF.out, HS.out, hL, decide_eq_true hp0]; rfl
     subst hp0
     go_wp2
     go_ret
     exact ⟨ret1b HFF.out.symm, zS HB1.out (xCM _ _ _)⟩
    have hp0b : ((pos : Int) == 0) = false := by rw [zY]; omega
    go_wp2_with fail
    refine (followsLetter_any (r : Int) _).mono ?_
    rintro e w9 ⟨rfl, hw9⟩
    have hw8 := hw9.symm
    subst hw8
    clear hw9
    cases hFo : folB (r : Int)
    ·have HFF : Hid (nameB true s = false) := by show _ = _; rw [HF.out, HS.out, hL, hFo]; simp
     go_wp2
     go_ret
     exact ⟨ret1b HFF.out.symm, zS HB1.out (xCM _ _ _)⟩
    have HN : Hid (nmGo s s.size 0 = nmGo s b' (pos + wd)) := by show _ = _; rw [HS.out, hL, hFo, decide_eq_false hp0]; rfl
    go_wp2
    go_roundw
    case rel => exact ⟨pos + wd, b', rfl, HN.out, HFi.out⟩
    case measure => simp; omega
   have HN : Hid (nmGo s s.size 0 = nmGo s b' (pos + wd)) := by show _ = _; rw [HS.out, hL]; rfl
   go_wp2
   go_roundw
   case rel => exact ⟨pos + wd, b', rfl, HN.out, HFi.out⟩
   case measure => simp; omega
  have HFF : Hid (nameB true s = true) := by show _ = _; rw [HF.out, HC.out, nmGo_end s b pos hp]
  have hnx : ∀ ty, (Instr.next (.pointer (some ⟨w1.heap.size, 0, none⟩)) true ty).run Tryz.prog (w1.iter s pos) = _ := fun ty => run_next_end w1 s pos ty hp
  go_wp2
  go_ret
  exact ⟨ret1b HFF.out.symm, zS HB1.out (xCM _ _ _)⟩
end Go.Proofs.YtdjmjhlbjcgoiaaGreatDoor
namespace Go.Proofs
open Go.Shelf Go.RowKit Go.Lib
def Tryz.trimLay_ren : Go.Shelf.Ren := ⟨fun | 102 => 140 | 209 => 175 | 207 => 195 | n => n, fun | 9 => 9 | 4 => 4 | 3 => 3 | n => n, fun | n => n⟩
theorem Tryz.trimLay : Go.Proofs.Lays.n102 Tryz.prog Tryz.trimLay_ren := {
  mixed := by kernel_rfl
  f102 := Tryz.func140.trans (congrArg some (by kernel_rfl))
  f207 := Tryz.func195.trans (congrArg some (by kernel_rfl))
  f209 := Tryz.func175.trans (congrArg some (by kernel_rfl))
  t3 := Tryz.underlying3
  a3 := Tryz.isAgg3
  z3 := Tryz.sizeOf3
  v3 := Tryz.zeroValue3
  t4 := Tryz.underlying4
  a4 := Tryz.isAgg4
  z4 := Tryz.sizeOf4
  v4 := Tryz.zeroValue4
  t9 := Tryz.underlying9
  a9 := Tryz.isAgg9
  z9 := Tryz.sizeOf9
  v9 := Tryz.zeroValue9 }
def Tryz.validLay_ren : Go.Shelf.Ren := ⟨fun | 196 => 172 | 259 => 194 | n => n, fun | 9 => 9 | 4 => 4 | 3 => 3 | 5 => 5 | 12 => 12 | 119 => 251 | 0 => 0 | 46 => 204 | 139 => 254 | 138 => 253 | 53 => 207 | n => n, fun | 3 => 1 | 4 => 2 | n => n⟩
theorem Tryz.validLay : Go.Proofs.Lays.n196 Tryz.prog Tryz.validLay_ren := {
  mixed := by kernel_rfl
  f196 := Tryz.func172.trans (congrArg some (by kernel_rfl))
  f259 := Tryz.func194.trans (congrArg some (by kernel_rfl))
  t0 := Tryz.underlying0
  a0 := Tryz.isAgg0
  z0 := Tryz.sizeOf0
  v0 := Tryz.zeroValue0
  t3 := Tryz.underlying3
  a3 := Tryz.isAgg3
  z3 := Tryz.sizeOf3
  v3 := Tryz.zeroValue3
  t4 := Tryz.underlying4
  a4 := Tryz.isAgg4
  z4 := Tryz.sizeOf4
  v4 := Tryz.zeroValue4
  t5 := Tryz.underlying5
  a5 := Tryz.isAgg5
  z5 := Tryz.sizeOf5
  v5 := Tryz.zeroValue5
  t9 := Tryz.underlying9
  a9 := Tryz.isAgg9
  z9 := Tryz.sizeOf9
  v9 := Tryz.zeroValue9
  t12 := Tryz.underlying12
  a12 := Tryz.isAgg12
  z12 := Tryz.sizeOf12
  v12 := Tryz.zeroValue12
  t46 := Tryz.underlying204
  a46 := Tryz.isAgg204
  z46 := Tryz.sizeOf204
  v46 := Tryz.zeroValue204
  t53 := Tryz.underlying207
  a53 := Tryz.isAgg207
  z53 := Tryz.sizeOf207
  v53 := Tryz.zeroValue207
  t119 := Tryz.underlying251
  a119 := Tryz.isAgg251
  z119 := Tryz.sizeOf251
  t138 := Tryz.underlying253
  a138 := Tryz.isAgg253
  z138 := Tryz.sizeOf253
  v138 := Tryz.zeroValue253
  t139 := Tryz.underlying254
  a139 := Tryz.isAgg254
  z139 := Tryz.sizeOf254
  v139 := Tryz.zeroValue254
  g3 := by kernel_rfl
  g4 := by kernel_rfl }
def Tryz.hasLay_ren : Go.Shelf.Ren := ⟨fun | 8 => 141 | 6 => 176 | n => n, fun | 22 => 22 | 23 => 79 | 25 => 196 | 4 => 4 | 3 => 3 | 0 => 0 | n => n, fun | n => n⟩
theorem Tryz.hasLay : Go.Proofs.SlLaysH0.n8 Tryz.prog Tryz.hasLay_ren := {
  mixed := by kernel_rfl
  f6 := ⟨Tryz.f176.name, by decide, Tryz.func176.trans (congrArg some (by kernel_rfl))⟩
  f8 := ⟨Tryz.f141.name, by decide, Tryz.func141.trans (congrArg some (by kernel_rfl))⟩
  t0 := Tryz.underlying0
  a0 := Tryz.isAgg0
  z0 := Tryz.sizeOf0
  v0 := Tryz.zeroValue0
  t3 := Tryz.underlying3
  a3 := Tryz.isAgg3
  z3 := Tryz.sizeOf3
  v3 := Tryz.zeroValue3
  t4 := Tryz.underlying4
  a4 := Tryz.isAgg4
  z4 := Tryz.sizeOf4
  v4 := Tryz.zeroValue4
  t22 := Tryz.underlying22
  a22 := Tryz.isAgg22
  z22 := Tryz.sizeOf22
  v22 := Tryz.zeroValue22
  t25 := Tryz.underlying196
  a25 := Tryz.isAgg196
  z25 := Tryz.sizeOf196
  v25 := Tryz.zeroValue196 }
end Go.Proofs
namespace Go.Proofs.YtdjmjhlbjcgoiaaGreatDoor
open Go.RowKit Go.Maps
def Tabs (w : World) : Prop := Lib.Utf8Tabs (Tryz.validLay_ren.g 3) (Tryz.validLay_ren.g 4) w
theorem valid_any (s : ByteArray) (w : World) (hs : s.size ≤ 9223372036854775807) (hT : Tabs w) :
  Calls Tryz.prog 172 #[.string s] w fun e w' => e = .returned (.bool (Lib.validD s.data.toList)) ∧ Below w.heap.size w w' := Any.utf8_ValidString Tryz.validLay s w hs hT
def bare (s : ByteArray) : ByteArray := ⟨(Lib.trimSuffix s.data.toList "#".toUTF8.data.toList).toArray⟩
def symB (s : ByteArray) : Bool := nameB (Lib.validD (bare s).data.toList) (bare s)
theorem bare_size (s : ByteArray) : (bare s).size ≤ s.size := by
 show (Lib.trimSuffix s.data.toList _).toArray.size ≤ s.data.size
 unfold Lib.trimSuffix
 split
 ·simp only [List.size_toArray, zH, Array.length_toList]; omega
 simp
theorem isSymbolName_any (s : ByteArray) (w : World) (hs : s.size ≤ 9223372036854775807) (hT : Tabs w) :
  Calls Tryz.prog 84 #[.string s] w fun e w' => e = .returned (.bool (symB s)) ∧ Below w.heap.size w w' := by
 have cT : Calls Tryz.prog 140 #[.string s, .string "#".toUTF8] w fun e w' => e = .returned (.string (bare s)) ∧ w' = w := Any.strings_TrimSuffix Tryz.trimLay s "#".toUTF8 w hs
 have hb := bare_size s
 have cN := isName_any (Lib.validD (bare s).data.toList) (bare s) w (by omega) (valid_any _ w (by omega) hT)
 have HT : Hid (Calls Tryz.prog 140 #[.string s, .string "#".toUTF8] w fun e w' => e = .returned (.string (bare s)) ∧ w' = w) := cT
 have HN : Hid (Calls Tryz.prog 139 #[.string (bare s)] w fun e w' => e = .returned (.bool (symB s)) ∧ Below w.heap.size w w') := cN
 clear cT cN hb
 generalize bare s = b at HT HN
 generalize symB s = B at HN ⊢
 go_enter Tryz.func84, Tryz.ntmps84
 go_wp2_with fail
 refine HT.out.mono ?_
 rintro e w9 ⟨rfl, hw9⟩
 have hw8 := hw9.symm
 subst hw8
 clear hw9
 go_wp2_with fail
 refine HN.out.mono ?_
 rintro e w9 ⟨rfl, hb9⟩
 go_wp2
 go_ret
 exact ⟨rfl, hb9⟩
end Go.Proofs.YtdjmjhlbjcgoiaaGreatDoor
