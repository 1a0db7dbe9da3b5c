/- The document's examples at the head of all statements: they come out true. -/
import Derived.Test.YtaekpijpkblkgaaOf
import Derived.Test.YtaekpijpkblkgaaOrder
import Derived.Test.YtaekpijpkblkgaaProd
import Derived.Test.YtaekpijpkblkgaaParse
import Derived.Test.YtaekpijpkblkgaaSpoil
import Derived.Test.YtaekpijpkblkgaaDec
namespace Go.Proofs.Ytaekpijpkblkgaa
open Go.RowKit

theorem bnext {w w1 w2 : World} (h : Below w.heap.size w w1) (h' : Below w1.heap.size w1 w2) : Below w.heap.size w w2 := h.trans (h'.mono h.size)
theorem balloc {w w1 : World} (h : Below w.heap.size w w1) (o : Obj) : Below w.heap.size w (w1.alloc o) := h.alloc h.size o

theorem sl_one (w : World) (x b : Nat) (V : Int) (hV : V = (x : Int)) (hx : x < 4294967296) (hb : b = w.heap.size) : Sl (w.alloc (.cells #[.int .u32 V] 42)) (.slice (some ⟨b, 0, none⟩) 1 1) [x] := by
  subst hV; subst hb
  exact (Ow.lit (base := 0) (Lim.cons hx Lim.nil) (Nat.zero_le _) (by simp [U]) (by simp [maxLen])).sl

theorem sl_two (w : World) (x y b : Nat) (V V' : Int) (hV : V = (x : Int)) (hV' : V' = (y : Int)) (hx : x < 4294967296) (hy : y < 4294967296) (hb : b = w.heap.size) :
    Sl (w.alloc (.cells #[.int .u32 V, .int .u32 V'] 42)) (.slice (some ⟨b, 0, none⟩) 2 2) [x, y] := by
  subst hV; subst hV'; subst hb
  exact (Ow.lit (base := 0) (Lim.cons hx (Lim.cons hy Lim.nil)) (Nat.zero_le _) (by simp [U]) (by simp [maxLen])).sl

theorem Sl.alloc {w : World} {v : Value} {xs : List Nat} (h : Sl w v xs) (o : Obj) : Sl (w.alloc o) v xs := h.later ((Below.refl _ _).alloc (Nat.le_refl _) o)

theorem limbs_eq {xs : List Nat} {n : Nat} (h : Lim xs) (hr : rightB xs = true) (hv : val xs = n) : limbs n = xs := by rw [← hv]; exact limbs_val_of_right h hr

theorem lim1 : Lim [4294967295] := Lim.cons (by omega) Lim.nil
theorem lim01 : Lim [0, 1] := Lim.cons (by omega) (Lim.cons (by omega) Lim.nil)
theorem lim1e : Lim [1, 4294967294] := Lim.cons (by omega) (Lim.cons (by omega) Lim.nil)

theorem ex_of : limbs 4294967296 = [0, 1] := limbs_eq lim01 (by decide) (by simp [val])
theorem ex_add : addL [4294967295] [1] = [0, 1] ∧ addE [4294967295] [1] = 0 := by
  have e : limbs (val [4294967295] + val [1]) = [0, 1] := limbs_eq lim01 (by decide) (by simp [val])
  have hr : (rightB [4294967295] && rightB [1]) = true := by decide
  unfold addL addE resL resE
  rw [hr, e]
  simp
theorem ex_mul : mulL [4294967295] [4294967295] = [1, 4294967294] ∧ mulE [4294967295] [4294967295] = 0 := by
  have e : limbs (val [4294967295] * val [4294967295]) = [1, 4294967294] := limbs_eq lim1e (by decide) (by simp [val])
  have hr : (rightB [4294967295] && rightB [4294967295]) = true := by decide
  unfold mulL mulE resL resE
  rw [hr, e]
  simp
theorem ex_cmp : cmpV [0, 1] [4294967295] = 1 ∧ cmpE [0, 1] [4294967295] = 0 := by
  have hr : (rightB [0, 1] && rightB [4294967295]) = true := by decide
  unfold cmpV cmpE
  rw [hr, cmpI_gt (by simp [val])]
  simp
theorem ex_num : numB [52, 50, 57, 52, 57, 54, 55, 50, 57, 54] = true ∧ numV [52, 50, 57, 52, 57, 54, 55, 50, 57, 54] = 4294967296 := by
  exact ⟨by decide, by simp [numV]⟩
theorem ex_text : textS [0, 1] = [52, 50, 57, 52, 57, 54, 55, 50, 57, 54] ∧ textE [0, 1] = 0 := by
  have hr : rightB [0, 1] = true := by decide
  have hv : val [0, 1] = numV [52, 50, 57, 52, 57, 54, 55, 50, 57, 54] := by rw [ex_num.2]; simp [val]
  unfold textS textE
  rw [hr, hv, dec_numV ex_num.1]
  simp
theorem ex_parse : parseL [52, 50, 57, 52, 57, 54, 55, 50, 57, 54] = [0, 1] ∧ parseE [52, 50, 57, 52, 57, 54, 55, 50, 57, 54] = 0 := by
  unfold parseL parseE resL resE
  rw [ex_num.1, ex_num.2, ex_of]
  simp

set_option maxHeartbeats 1600000 in
theorem shown_any (w : World) : Calls Try.prog 9 #[] w fun e w' => e = .returned (.bool true) ∧ Below w.heap.size w w' := by
  go_enter Try.func9, Try.ntmps9
  go_wp2_with fail
  refine (of_any 4294967296 _ (by omega)).mono ?_
  rintro e w1 ⟨va, rfl, ha, hb1⟩
  rw [ex_of] at ha
  have sa := ha.sl
  clear ha
  go_wp2_with fail
  refine (add_any _ _ [4294967295] [1] _ ((sl_one w1 4294967295 _ _ rfl (by omega) rfl).alloc _) (sl_one _ 1 _ _ rfl (by omega) (by simp))).mono ?_
  rintro e w2 ⟨vb, rfl, ob, hb⟩
  rw [ex_add.1] at ob
  rw [ex_add.2]
  have sb := ob.sl
  have sa2 := ((sa.alloc _).alloc _).later hb
  have hb2 := bnext (balloc (balloc hb1 _) _) hb
  clear ob sa hb1 hb
  go_wp2_with fail
  refine (mul_any _ _ [4294967295] [4294967295] _ ((sl_one w2 4294967295 _ _ rfl (by omega) rfl).alloc _) (sl_one _ 4294967295 _ _ rfl (by omega) (by simp))).mono ?_
  rintro e w3 ⟨vc, rfl, oc, hb⟩
  rw [ex_mul.1] at oc
  rw [ex_mul.2]
  have sc := oc.sl
  have sa3 := ((sa2.alloc _).alloc _).later hb
  have sb3 := ((sb.alloc _).alloc _).later hb
  have hb3 := bnext (balloc (balloc hb2 _) _) hb
  clear oc sa2 sb hb2 hb
  go_wp2_with fail
  refine (text_any _ [0, 1] _ sa3).mono ?_
  rintro e w4 ⟨rfl, hb⟩
  rw [ex_text.1, ex_text.2]
  have sa4 := sa3.later hb
  have sb4 := sb3.later hb
  have sc4 := sc.later hb
  have hb4 := bnext hb3 hb
  clear sa3 sb3 sc hb3 hb
  go_wp2_with fail
  refine (parse_any _ _ (by simp [maxLen, ByteArray.size])).mono ?_
  rintro e w5 ⟨vx, rfl, ox, hb⟩
  have hpl : parseL (ByteArray.mk #[52, 50, 57, 52, 57, 54, 55, 50, 57, 54]).data.toList = [0, 1] := ex_parse.1
  have hpe : parseE (ByteArray.mk #[52, 50, 57, 52, 57, 54, 55, 50, 57, 54]).data.toList = 0 := ex_parse.2
  rw [hpl] at ox
  rw [hpe]
  have sx5 := ox.sl
  have sa5 := sa4.later hb
  have sb5 := sb4.later hb
  have sc5 := sc4.later hb
  have hb5 := bnext hb4 hb
  clear sa4 sb4 sc4 hb4 hb ox hpl hpe
  go_wp2_with fail
  refine (cmp_any _ _ [0, 1] [4294967295] _ (sa5.alloc _) (sl_one _ 4294967295 _ _ rfl (by omega) rfl)).mono ?_
  rintro e w6 ⟨rfl, n, hw⟩
  rw [ex_cmp.1, ex_cmp.2]
  have hb : Below w5.heap.size w5 w6 := by rw [hw]; exact below_drewN (balloc (Below.refl _ _) _) n
  have sx6 := sx5.later hb
  have sa6 := sa5.later hb
  have sb6 := sb5.later hb
  have sc6 := sc5.later hb
  have hb6 := bnext hb5 hb
  clear sa5 sb5 sc5 sx5 hb5 hb hw
  go_wp2_with fail
  refine (same_any _ _ [0, 1] [0, 1] _ (sa6.alloc _) (sl_two _ 0 1 _ _ _ rfl rfl (by omega) (by omega) rfl)).mono ?_
  rintro e w7 ⟨rfl, n, hw⟩
  have hd : decide (([0, 1] : List Nat) = [0, 1]) = true := by decide
  rw [hd]
  have hb : Below w6.heap.size w6 w7 := by rw [hw]; exact below_drewN (balloc (Below.refl _ _) _) n
  have sa7 := sa6.later hb
  have sb7 := sb6.later hb
  have sc7 := sc6.later hb
  have sx7 := sx6.later hb
  have hb7 := bnext hb6 hb
  clear hw hb hd hb6 sa6 sb6 sc6 sx6
  go_wp2_with fail
  refine (same_any _ _ [0, 1] [0, 1] _ sb7 sa7).mono ?_
  rintro e w8 ⟨rfl, n, hw⟩
  have hd : decide (([0, 1] : List Nat) = [0, 1]) = true := by decide
  rw [hd]
  have hb : Below w7.heap.size w7 w8 := by rw [hw]; exact below_drewN (Below.refl _ _) n
  have sa8 := sa7.later hb
  have sb8 := sb7.later hb
  have sc8 := sc7.later hb
  have sx8 := sx7.later hb
  have hb8 := bnext hb7 hb
  clear hw hb hd hb7 sa7 sb7 sc7 sx7
  go_wp2_with fail
  refine (same_any _ _ [1, 4294967294] [1, 4294967294] _ (sc8.alloc _) (sl_two _ 1 4294967294 _ _ _ rfl rfl (by omega) (by omega) rfl)).mono ?_
  rintro e w9 ⟨rfl, n, hw⟩
  have hd : decide (([1, 4294967294] : List Nat) = [1, 4294967294]) = true := by decide
  rw [hd]
  have hb : Below w8.heap.size w8 w9 := by rw [hw]; exact below_drewN (balloc (Below.refl _ _) _) n
  have sa9 := sa8.later hb
  have sb9 := sb8.later hb
  have sc9 := sc8.later hb
  have sx9 := sx8.later hb
  have hb9 := bnext hb8 hb
  clear hw hb hd hb8 sa8 sb8 sc8 sx8
  go_wp2_with fail
  refine (same_any _ _ [0, 1] [0, 1] _ sx9 sa9).mono ?_
  rintro e w10 ⟨rfl, n, hw⟩
  have hd : decide (([0, 1] : List Nat) = [0, 1]) = true := by decide
  rw [hd]
  have hb : Below w9.heap.size w9 w10 := by rw [hw]; exact below_drewN (Below.refl _ _) n
  have sa10 := sa9.later hb
  have sb10 := sb9.later hb
  have sc10 := sc9.later hb
  have sx10 := sx9.later hb
  have hb10 := bnext hb9 hb
  clear hw hb hd hb9 sa9 sb9 sc9 sx9
  go_wp2_with fail
  refine (right_any _ [0, 1] _ sa10).mono ?_
  rintro e w11 ⟨rfl, rfl⟩
  have hr : rightB [0, 1] = true := by decide
  rw [hr]
  go_wp2_with fail
  refine (right_any _ [0] _ (sl_one _ 0 _ _ rfl (by omega) rfl)).mono ?_
  rintro e w12 ⟨rfl, rfl⟩
  have hr0 : rightB [0] = false := by decide
  rw [hr0]
  go_wp2
  go_ret
  exact ⟨rfl, balloc hb10 _⟩

end Go.Proofs.Ytaekpijpkblkgaa
