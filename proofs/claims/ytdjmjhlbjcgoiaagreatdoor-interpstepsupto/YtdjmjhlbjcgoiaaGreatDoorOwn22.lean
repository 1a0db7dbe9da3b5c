/- Texts of the proof, one behind the other. -/
import Derived.Test.YtdjmjhlbjcgoiaaGreatDoorOwn21
set_option maxRecDepth 1000000
set_option maxHeartbeats 6400000
namespace Go.Proofs.YtdjmjhlbjcgoiaaGreatDoor
open Go.RowKit Go.Maps Go.BigFrame
theorem swp_back {X Y : List Rx} {x y : Rx} {n : Nat} (h : n = X.length) : swp (X ++ y :: x :: Y) (n + 1) n x y = X ++ x :: y :: Y := by
 subst h
 unfold swp
 rw [List.set_append_right _ _ (by omega), show X.length + 1 - X.length = 1 by omega, List.set_append_right _ _ (Nat.le_refl _), Nat.sub_self]
 rfl
theorem symRight_any (g cap base a m b L : Nat) (X U Y : List Rx) (v : Rx) (w : World) (hX : X.length = a) (hU : a + U.length = m) (hm : m + 1 = b) (hL : b + Y.length = L) (hU0 : 1 < U.length) (hup : UpS U) (h : OX w base (.slice (some ⟨g, 0, none⟩) L cap) (X ++ U ++ v :: Y)) (_hc : L ≤ cap) (_hc2 : cap ≤ 9223372036854775807) (hc3 : L ≤ 1152921504606846976) :
  Calls Tryz.prog 163 #[.slice (some ⟨g, 0, none⟩) L cap, .int .i64 (a : Int), .int .i64 (m : Int), .int .i64 (b : Int), cmpF] w fun e w' => ∃ M, e = .returned (.tuple #[]) ∧ Mg U [v] M ∧ OX w' base (.slice (some ⟨g, 0, none⟩) L cap) (X ++ M ++ Y) ∧ w.grownBy w' (some g) := by
 have HO := hid h
 have HUp := hid hup
 have hu : IntKind.i64.wrap ((m : Int) - (a : Int)) = ((U.length : Nat) : Int) := by rw [yA _ ⟨by omega, by omega⟩]; omega
 have h10 : (((U.length : Nat) : Int) == 1) = false := by rw [zY]; omega
 have hv : IntKind.i64.wrap ((b : Int) - (m : Int)) = 1 := by rw [yA _ ⟨by omega, by omega⟩]; omega
 have h11 : ((1 : Int) == 1) = true := rfl
 obtain ⟨D, hD⟩ : ∃ D, D = X ++ U ++ v :: Y := ⟨_, rfl⟩
 have hgv : D[m]? = some v := by rw [hD, zM (by simp; omega), show m - (X ++ U).length = 0 by simp; omega]; rfl
 have hgu : ∀ k, a ≤ k → k < m → D[k]? = U[k - a]? := fun k h1 h2 => by
  rw [hD, zR, zM (by omega), zN (by omega), hX]
 have HGu := hid hgu
 have HGv := hid hgv
 rw [← hD] at HO
 have HE := hid (show (X.length = a ∧ a + U.length = m ∧ m + 1 = b ∧ b + Y.length = L) ∧ D = X ++ U ++ v :: Y from ⟨⟨hX, hU, hm, hL⟩, hD⟩)
 have hmL : m < L := by omega
 have hab : a < m := by omega
 clear h hX hm hU hL hD hgu hgv hup hU0
 go_enter Tryz.func163, Tryz.ntmps163
 go_wp2
 go_loopw [14, 15] (fun iv jv wr => ∃ (i j : Nat), iv = .int .i64 i ∧ jv = .int .i64 j ∧ a ≤ i ∧ i ≤ j ∧ j ≤ m ∧ (∀ z, a < i → D[i - 1]? = some z → z.1 ≤ v.1) ∧ (∀ z, j < m → D[j]? = some z → v.1 < z.1) ∧ Below w.heap.size w wr) (fun iv jv _ => (intOf jv).toNat - (intOf iv).toNat)
 case atStart => exact ⟨a, m, rfl, rfl, Nat.le_refl _, by omega, Nat.le_refl _, fun z h => by omega, fun z h => by omega, Below.refl _ _⟩
 case round =>
  obtain ⟨i, j, rfl, rfl, hi, hij, hj, hlo, hhi, hbl⟩ := hrel
  have HLo := hid hlo
  have HHi := hid hhi
  have HBl := hid hbl
  clear hlo hhi hbl hu hv
  by_cases hlt : i < j
  ·have hd : decide ((i : Int) < (j : Int)) = true := by simpa using hlt
   obtain ⟨H, hH, hH1, hH2⟩ : ∃ H : Nat, ((i : Int) + (j : Int)) / 2 = (H : Int) ∧ i ≤ H ∧ H < j := ⟨(i + j) / 2, by omega, by omega, by omega⟩
   have HH := hid hH
   obtain ⟨z, hz⟩ : ∃ z, D[H]? = some z := ⟨_, zC (by have := HO.out.len; omega)⟩
   have HZ := hid hz
   obtain ⟨i1, i2, _, _⟩ := (HO.out.later HBl.out).at2 hz
   obtain ⟨j1, j2, _, _⟩ := (HO.out.later HBl.out).at2 HGv.out
   have hHL : H < L := by omega
   clear hH hz
   go_wp2
   rw [HH.out]
   refine xBR (by kernel_rfl) (by kernel_rfl) ?_
   (go_big_quiet_want; go_big_quiet_op; go_big_quiet_on)
   (go_big_quiet_want; go_big_quiet_op; go_big_quiet_on)
   (go_big_quiet_want; go_big_quiet_op; go_big_quiet_on)
   go_big_quiet_want
   refine ⟨.pointer (some ⟨g, m * 2, none⟩), fun w' hw' => ?_, ?_⟩
   ·unfold Oper.quietAt; go_simp
   simp only [Act.put, sA, sB, sC]
   go_big_quiet_on
   go_big_quiet_want
   refine ⟨.agg #[.int .i64 v.1, .int .i64 v.2], fun w' hw' => ?_, ?_⟩
   ·have hh0 := (zK hw').cell _ _ j1; have hh1 := (zK hw').cell _ _ j2; unfold Oper.quietAt; go_simp
   simp only [Act.put, sA, sB, sC]
   go_big_quiet_on
   (go_big_quiet_want; go_big_quiet_op; go_big_quiet_on)
   (go_big_quiet_want; go_big_quiet_op; go_big_quiet_on)
   go_big_quiet_want
   refine ⟨.pointer (some ⟨g, H * 2, none⟩), fun w' hw' => ?_, ?_⟩
   ·unfold Oper.quietAt; go_simp
   simp only [Act.put, sA, sB, sC]
   go_big_quiet_on
   go_big_quiet_want
   refine ⟨.agg #[.int .i64 z.1, .int .i64 z.2], fun w' hw' => ?_, ?_⟩
   ·have hh0 := (zK hw').cell _ _ i1; have hh1 := (zK hw').cell _ _ i2; unfold Oper.quietAt; go_simp
   simp only [Act.put, sA, sB, sC]
   go_big_quiet_on
   go_big_quiet_want
   refine ⟨.int .i64 (cmpZ8 v.1 z.1), fun w' hw' => ?_, ?_⟩
   ·unfold Oper.quietAt; go_simp; exact (xCP v z w').mono (fun e w2 ⟨he, hb⟩ => ⟨he, zS hw' hb⟩)
   simp only [Act.put, sA, sB, sC]
   go_big_quiet_on
   go_big_quiet_want
   refine ⟨.bool (decide (cmpZ8 v.1 z.1 < 0)), fun w' hw' => ?_, ?_⟩
   ·unfold Oper.quietAt; go_simp
   simp only [Act.put, sA, sB, sC]
   go_big_quiet_on
   go_big_quiet_want
   refine ⟨.bool (!decide (cmpZ8 v.1 z.1 < 0)), fun w' hw' => ?_, ?_⟩
   ·unfold Oper.quietAt; go_simp
   simp only [Act.put, sA, sB, sC]
   go_big_quiet_on
   refine wpQuiet_nil ?_
   intro w5 hb5
   have HB5 := hid (zS HBl.out hb5)
   clear hb5 i1 i2 j1 j2
   rw [cmpZ8_lt]
   by_cases hzu : v.1 < z.1
   ·rw [decide_eq_true hzu]
    have HN : Hid (∀ y, H < m → D[H]? = some y → v.1 < y.1) := fun y _ hy => by
     rw [HZ.out] at hy
     cases hy
     exact hzu
    clear hzu
    go_wp2
    go_roundw
    case rel => exact ⟨i, H, rfl, rfl, hi, by omega, by omega, HLo.out, HN.out, HB5.out⟩
    case measure => simp only [intOf]; omega
   rw [decide_eq_false hzu]
   have HN : Hid (∀ y, a < H + 1 → D[H + 1 - 1]? = some y → y.1 ≤ v.1) := fun y _ hy => by
    rw [Nat.add_sub_cancel, HZ.out] at hy
    cases hy
    omega
   clear hzu
   go_wp2
   go_roundw
   case rel => exact ⟨H + 1, j, by go_num, rfl, by omega, by omega, hj, HN.out, HHi.out, HB5.out⟩
   case measure => simp only [intOf]; omega
  obtain rfl : i = j := by omega
  have HMg : Hid (Mg U [v] (U.take (i - a) ++ v :: U.drop (i - a))) := by
   obtain ⟨⟨hX, hU, hm, hL⟩, hD⟩ := HE.out
   refine mg_one_right HUp.out (fun x hx => ?_) (fun y hy => ?_)
   ·by_cases h0 : i = a
    ·rw [h0, Nat.sub_self] at hx; simp at hx
    obtain ⟨z, hz⟩ : ∃ z, U[i - 1 - a]? = some z := ⟨_, zC (by omega)⟩
    have h1 := HLo.out z (by omega) (by rw [HGu.out (i - 1) (by omega) (by omega)]; exact hz)
    have h2 := up_last HUp.out (x := x) hz (by rw [show i - 1 - a + 1 = i - a by omega]; exact hx)
    omega
   by_cases h0 : i = m
   ·rw [zP (by omega)] at hy; simp at hy
   obtain ⟨z, hz⟩ : ∃ z, U[i - a]? = some z := ⟨_, zC (by omega)⟩
   have h1 := HHi.out z (by omega) (by rw [HGu.out i (by omega) (by omega)]; exact hz)
   have h2 := up_first HUp.out (y := y) hz hy
   omega
  have hd : decide ((i : Int) < (i : Int)) = false := by simp
  have HO2 : Hid (OX wr base (.slice (some ⟨g, 0, none⟩) L cap) (X ++ U.take (m - a) ++ v :: U.drop (m - a) ++ Y)) := by
   obtain ⟨⟨hX, hU, hm, hL⟩, hD⟩ := HE.out
   have h9 := HO.out.later HBl.out
   rw [hD] at h9
   show OX _ _ _ _
   rw [zO (by omega), zP (by omega)]
   simpa using h9
  have HG2 := hid (xAA HBl.out (some g))
  clear HLo HHi
  go_wp2
  go_loopw [17] (fun kv wr => ∃ k : Nat, kv = .int .i64 k ∧ i ≤ k ∧ k ≤ m ∧ OX wr base (.slice (some ⟨g, 0, none⟩) L cap) (X ++ U.take (k - a) ++ v :: U.drop (k - a) ++ Y) ∧ w.grownBy wr (some g)) (fun kv _ => (intOf kv).toNat - i)
  case atStart => exact ⟨m, rfl, hj, Nat.le_refl _, HO2.out, HG2.out⟩
  case round =>
   obtain ⟨k, rfl, hk1, hk2, how, hgr⟩ := hrel
   have HW := hid how
   have HG := hid hgr
   clear how hgr HO2 HG2
   by_cases hlt : i < k
   ·have hdk : decide ((k : Int) > (i : Int)) = true := by simpa using hlt
    obtain ⟨⟨hX, hU, hm, hL⟩, hD⟩ := HE.out
    obtain ⟨J, rfl⟩ : ∃ J, k = J + 1 := ⟨k - 1, by omega⟩
    obtain ⟨x, hx⟩ : ∃ x, U[J - a]? = some x := ⟨_, zC (by omega)⟩
    have hw := HW.out
    rw [show J + 1 - a = J - a + 1 by omega, xAM hx] at hw
    have e1 : X ++ (U.take (J - a) ++ [x]) ++ v :: U.drop (J - a + 1) ++ Y = (X ++ U.take (J - a)) ++ x :: v :: (U.drop (J - a + 1) ++ Y) := by simp
    rw [e1] at hw
    have g1 : ((X ++ U.take (J - a)) ++ x :: v :: (U.drop (J - a + 1) ++ Y))[J + 1]? = some v := by
     rw [zM (by simp [hX]; omega)]
     have : J + 1 - (X ++ U.take (J - a)).length = 1 := by simp [hX]; omega
     rw [this]
     rfl
    have g2 : ((X ++ U.take (J - a)) ++ x :: v :: (U.drop (J - a + 1) ++ Y))[J]? = some x := by
     rw [zM (by simp [hX]; omega)]
     have : J - (X ++ U.take (J - a)).length = 0 := by simp [hX]; omega
     rw [this]
     rfl
    obtain ⟨i1, i2, i3, i4⟩ := hw.at2 g1
    obtain ⟨j1, j2, j3, j4⟩ := hw.at2 g2
    have HSw := hid (hw.swap2 g1 g2 (d' := X ++ U.take (J - a) ++ v :: U.drop (J - a) ++ Y) (by
     rw [xAR hx]
     have h9 := swp_back (X := X ++ U.take (J - a)) (Y := U.drop (J - a + 1) ++ Y) (x := v) (y := x) (n := J) (by simp [hX]; omega)
     simp only [zR, yG] at h9 ⊢
     exact h9))
    obtain ⟨K, hK⟩ : ∃ K, K = J + 1 := ⟨_, rfl⟩
    have hk3 : IntKind.i64.wrap ((K : Int) - 1) = (J : Int) := by rw [yA _ ⟨by omega, by omega⟩]; omega
    have hkL : K < L := by omega
    have hkL2 : J < L := by omega
    have hcast : ((J + 1 : Nat) : Int) = (K : Int) := by rw [hK]
    rw [hcast] at hdk ⊢
    rw [← hK] at i1 i2 i3 i4 HSw
    have hn0 : ¬ K = J := by omega
    have hn1 : ¬ J = K := by omega
    have hn2 : ¬ K * 2 = J * 2 := by omega
    have hn3 : ¬ J * 2 = K * 2 := by omega
    have HK := hid hK
    have hlt2 : i < K := by omega
    have hiJ : i ≤ J := by omega
    have hJm : J ≤ m := by omega
    clear hX hm hU hL hD hx hw g1 g2 hK hcast e1
    go_wp2
    go_region
    generalize hZ : World.drew _ = Z
    obtain ⟨o9, g9⟩ := HSw.out _ hZ
    have O9 := hid o9
    have G9 := hid (HG.out.trans g9)
    clear hZ o9 g9 HSw i1 i2 i3 i4 j1 j2 j3 j4
    go_wp2
    go_roundw
    case rel => exact ⟨J, by have := HK.out; go_num, hiJ, hJm, O9.out, G9.out⟩
    case measure => have := HK.out; simp only [intOf]; omega
   have hdk : decide ((k : Int) > (i : Int)) = false := by simpa using (show ¬ ((k : Int) > (i : Int)) by omega)
   obtain rfl : k = i := by omega
   go_wp2
   (try simp only [Exit.inBlock, Exit.then])
   refine bodyPost_ret (results_none rfl _ _ _) rfl ?_
   exact ⟨_, rfl, HMg.out, by simpa using HW.out, HG.out⟩
def SymOk (g cap base L n : Nat) : Prop := ∀ (X U V Y : List Rx) (a m b : Nat) (w : World), X.length = a → a + U.length = m → m + V.length = b → b + Y.length = L → 0 < U.length → 0 < V.length → U.length + V.length ≤ n → UpS U → UpS V → OX w base (.slice (some ⟨g, 0, none⟩) L cap) (X ++ U ++ V ++ Y) →
 Calls Tryz.prog 163 #[.slice (some ⟨g, 0, none⟩) L cap, .int .i64 (a : Int), .int .i64 (m : Int), .int .i64 (b : Int), cmpF] w fun e w' => ∃ M, e = .returned (.tuple #[]) ∧ Mg U V M ∧ OX w' base (.slice (some ⟨g, 0, none⟩) L cap) (X ++ M ++ Y) ∧ w.grownBy w' (some g)
theorem sym_start {a m b mid : Nat} (h1 : a + 2 ≤ m) (h2 : m + 2 ≤ b) (hmid : mid = (a + b) / 2) : ∃ S R : Nat, ((mid < m ∧ S + b = mid + m ∧ R = mid) ∨ (m ≤ mid ∧ S = a ∧ R = m)) ∧ a ≤ S ∧ S ≤ R ∧ R ≤ m ∧ R ≤ mid ∧ mid + m ≤ S + b ∧ a < mid ∧ mid < b := by
 by_cases h : mid < m
 ·exact ⟨mid + m - b, mid, .inl ⟨h, by omega, rfl⟩, by omega, by omega, by omega, by omega, by omega, by omega, by omega⟩
 exact ⟨a, m, .inr ⟨by omega, rfl, rfl⟩, by omega, by omega, by omega, by omega, by omega, by omega, by omega⟩
theorem sym_found {D U V : List Rx} {a m b mid S R s e : Nat} (hU : a + U.length = m) (hV : m + V.length = b) (hgu : ∀ k, a ≤ k → k < m → D[k]? = U[k - a]?) (hgv : ∀ k, m ≤ k → k < b → D[k]? = V[k - m]?) (hup : UpS U) (hvp : UpS V)
  (hSR : (mid < m ∧ S + b = mid + m ∧ R = mid) ∨ (m ≤ mid ∧ S = a ∧ R = m)) (haS : a ≤ S) (hRm : R ≤ m) (hRd : R ≤ mid) (hSb : mid + m ≤ S + b) (h1 : S ≤ s) (h2 : s ≤ R) (he : e + s = mid + m)
  (hlo : ∀ x y, S < s → D[mid + m - 1 - (s - 1)]? = some x → D[s - 1]? = some y → y.1 ≤ x.1) (hhi : ∀ x y, s < R → D[mid + m - 1 - s]? = some x → D[s]? = some y → x.1 < y.1) :
  (∀ x ∈ V.take (e - m), ∀ y ∈ U.drop (s - a), x.1 < y.1) ∧ ∀ x ∈ U.take (s - a), ∀ y ∈ V.drop (e - m), x.1 ≤ y.1 := by
 refine ⟨fun x hx y hy => ?_, fun x hx y hy => ?_⟩
 ·by_cases c1 : e = m
  ·rw [c1, Nat.sub_self] at hx; simp at hx
  by_cases c2 : s = m
  ·rw [zP (by omega)] at hy; simp at hy
  have hsR : s < R := by omega
  obtain ⟨p, hp⟩ : ∃ p, V[e - 1 - m]? = some p := ⟨_, zC (by omega)⟩
  obtain ⟨q, hq⟩ : ∃ q, U[s - a]? = some q := ⟨_, zC (by omega)⟩
  have g1 := hhi p q hsR (by rw [show mid + m - 1 - s = e - 1 by omega, hgv (e - 1) (by omega) (by omega)]; exact hp) (by rw [hgu s (by omega) (by omega)]; exact hq)
  have g2 := up_last hvp (x := x) hp (by rw [show e - 1 - m + 1 = e - m by omega]; exact hx)
  have g3 := up_first hup (y := y) hq hy
  omega
 by_cases c1 : s = a
 ·rw [c1, Nat.sub_self] at hx; simp at hx
 by_cases c2 : e = b
 ·rw [zP (by omega)] at hy; simp at hy
 have hsR : S < s := by omega
 obtain ⟨p, hp⟩ : ∃ p, V[e - m]? = some p := ⟨_, zC (by omega)⟩
 obtain ⟨q, hq⟩ : ∃ q, U[s - 1 - a]? = some q := ⟨_, zC (by omega)⟩
 have g1 := hlo p q hsR (by rw [show mid + m - 1 - (s - 1) = e by omega, hgv e (by omega) (by omega)]; exact hp) (by rw [hgu (s - 1) (by omega) (by omega)]; exact hq)
 have g2 := up_last hup (x := x) hq (by rw [show s - 1 - a + 1 = s - a by omega]; exact hx)
 have g3 := up_first hvp (y := y) hp hy
 omega
theorem symGen_any (g cap base a m b L n : Nat) (X U V Y : List Rx) (w : World) (IH : SymOk g cap base L n) (hX : X.length = a) (hU : a + U.length = m) (hV : m + V.length = b) (hL : b + Y.length = L) (hU0 : 2 ≤ U.length) (hV0 : 2 ≤ V.length) (hn : U.length + V.length ≤ n + 1) (hup : UpS U) (hvp : UpS V) (h : OX w base (.slice (some ⟨g, 0, none⟩) L cap) (X ++ U ++ V ++ Y)) (hc : L ≤ cap) (hc2 : cap ≤ 9223372036854775807) (hc3 : L ≤ 1152921504606846976) :
  Calls Tryz.prog 163 #[.slice (some ⟨g, 0, none⟩) L cap, .int .i64 (a : Int), .int .i64 (m : Int), .int .i64 (b : Int), cmpF] w fun e w' => ∃ M, e = .returned (.tuple #[]) ∧ Mg U V M ∧ OX w' base (.slice (some ⟨g, 0, none⟩) L cap) (X ++ M ++ Y) ∧ w.grownBy w' (some g) := by
 have HO := hid h
 have HUp := hid hup
 have HVp := hid hvp
 have HIH := hid IH
 have hu : IntKind.i64.wrap ((m : Int) - (a : Int)) = ((U.length : Nat) : Int) := by rw [yA _ ⟨by omega, by omega⟩]; omega
 have h10 : (((U.length : Nat) : Int) == 1) = false := by rw [zY]; omega
 have hv : IntKind.i64.wrap ((b : Int) - (m : Int)) = ((V.length : Nat) : Int) := by rw [yA _ ⟨by omega, by omega⟩]; omega
 have h11 : (((V.length : Nat) : Int) == 1) = false := by rw [zY]; omega
 obtain ⟨D, hD⟩ : ∃ D, D = X ++ U ++ V ++ Y := ⟨_, rfl⟩
 have hgu : ∀ k, a ≤ k → k < m → D[k]? = U[k - a]? := fun k h1 h2 => by
  rw [hD]
  simp only [zR]
  rw [zM (by omega), zN (by omega), hX]
 have hgv : ∀ k, m ≤ k → k < b → D[k]? = V[k - m]? := fun k h1 h2 => by
  rw [hD]
  simp only [zR]
  rw [zM (by omega), zM (by omega), zN (by omega)]
  congr 1
  omega
 have HGu := hid hgu
 have HGv := hid hgv
 rw [← hD] at HO
 obtain ⟨mid, hmid⟩ : ∃ mid, mid = (a + b) / 2 := ⟨_, rfl⟩
 obtain ⟨S, R, hSR, haS, hSR2, hRm, hRd, hSb, ham, hmb⟩ := sym_start (a := a) (m := m) (b := b) (by omega) (by omega) hmid
 have HMid : Hid (((a : Int) + (b : Int)) / 2 = (mid : Int)) := by show _ = _; omega
 have HSR := hid hSR
 have HE := hid (show (X.length = a ∧ a + U.length = m ∧ m + V.length = b ∧ b + Y.length = L) ∧ D = X ++ U ++ V ++ Y ∧ U.length + V.length ≤ n + 1 ∧ 2 ≤ U.length ∧ 2 ≤ V.length from ⟨⟨hX, hU, hV, hL⟩, hD, hn, hU0, hV0⟩)
 have hNN : IntKind.i64.wrap ((mid : Int) + (m : Int)) = ((mid + m : Nat) : Int) := by rw [yA _ ⟨by omega, by omega⟩]; omega
 obtain ⟨NN, hN⟩ : ∃ NN, NN = mid + m := ⟨_, rfl⟩
 rw [← hN] at hNN
 have hNb : IntKind.i64.wrap ((NN : Int) - (b : Int)) = ((NN - b : Nat) : Int) ∨ NN < b := by
  by_cases c : NN < b
  ·exact .inr c
  exact .inl (by rw [yA _ ⟨by omega, by omega⟩]; omega)
 have hN1 : IntKind.i64.wrap ((NN : Int) - 1) = ((NN - 1 : Nat) : Int) := by rw [yA _ ⟨by omega, by omega⟩]; omega
 obtain ⟨PP, hP⟩ : ∃ PP, PP = NN - 1 := ⟨_, rfl⟩
 rw [← hP] at hN1
 have HN := hid hN
 have HP := hid hP
 have hmL : m < L := by omega
 have hbL : b ≤ L := by omega
 have hNL : NN ≤ 9223372036854775806 := by omega
 clear h hX hU hV hL hD hgu hgv hup hvp hU0 hV0 hn hN hP hmid hSR IH
 go_enter Tryz.func163, Tryz.ntmps163
 go_upto_region 25 with fail
 rw [HMid.out]
 go_upto_if 140 with fail
 go_cut [20, 21] from 141 to 146 (fun s r wx => s = .int .i64 (S : Int) ∧ r = .int .i64 (R : Int) ∧ wx = w)
 case first =>
  rcases HSR.out with ⟨c1, c2, c3⟩ | ⟨c1, c2, c3⟩
  ·have hd : decide ((m : Int) > (mid : Int)) = true := by simpa using c1
   have hNb2 : IntKind.i64.wrap ((NN : Int) - (b : Int)) = (S : Int) := by have := HN.out; rw [yA _ ⟨by omega, by omega⟩]; omega
   subst c3
   clear hNb HSR
   go_wp2
   go_meet
   case rel => exact ⟨rfl, rfl, rfl⟩
  have hd : decide ((m : Int) > (mid : Int)) = false := by simpa using (show ¬ ((m : Int) > (mid : Int)) by omega)
  have hnm : ¬ mid < m := by omega
  subst c2
  subst c3
  clear hNb HSR
  go_wp2
  go_meet
  case rel => exact ⟨rfl, rfl, rfl⟩
 obtain ⟨rfl, rfl, hw⟩ := hcut
 have hw8 := hw.symm
 subst hw8
 clear hNb hu hv hw
 go_wp2
 go_loopw [20, 21] (fun sv rv wr => ∃ (s r : Nat), sv = .int .i64 s ∧ rv = .int .i64 r ∧ S ≤ s ∧ s ≤ r ∧ r ≤ R ∧ (∀ x y, S < s → D[PP - (s - 1)]? = some x → D[s - 1]? = some y → y.1 ≤ x.1) ∧ (∀ x y, r < R → D[PP - r]? = some x → D[r]? = some y → x.1 < y.1) ∧ Below w.heap.size w wr) (fun sv rv _ => (intOf rv).toNat - (intOf sv).toNat)
 case atStart => exact ⟨S, R, rfl, rfl, Nat.le_refl _, hSR2, Nat.le_refl _, fun x y h => by omega, fun x y h => by omega, Below.refl _ _⟩
 case round =>
  obtain ⟨s, r, rfl, rfl, hs1, hs2, hs3, hlo, hhi, hbl⟩ := hrel
  have HLo := hid hlo
  have HHi := hid hhi
  have HBl := hid hbl
  clear hlo hhi hbl
  by_cases hlt : s < r
  ·have hd : decide ((s : Int) < (r : Int)) = true := by simpa using hlt
   obtain ⟨H, hH, hH1, hH2⟩ : ∃ H : Nat, ((s : Int) + (r : Int)) / 2 = (H : Int) ∧ s ≤ H ∧ H < r := ⟨(s + r) / 2, by omega, by omega, by omega⟩
   have HH := hid hH
   obtain ⟨G, hG⟩ : ∃ G, G = PP - H := ⟨_, rfl⟩
   have hGL : G < L := by have := HN.out; have := HP.out; omega
   have hGw : IntKind.i64.wrap ((PP : Int) - (H : Int)) = (G : Int) := by have := HN.out; have := HP.out; rw [yA _ ⟨by omega, by omega⟩]; omega
   have HG := hid hG
   obtain ⟨x, hx⟩ : ∃ x, D[G]? = some x := ⟨_, zC (by have := HO.out.len; omega)⟩
   obtain ⟨y, hy⟩ : ∃ y, D[H]? = some y := ⟨_, zC (by have := HO.out.len; omega)⟩
   have HX := hid hx
   have HY := hid hy
   obtain ⟨i1, i2, _, _⟩ := (HO.out.later HBl.out).at2 hx
   obtain ⟨j1, j2, _, _⟩ := (HO.out.later HBl.out).at2 hy
   have hHL : H < L := by omega
   clear hH hx hy hG
   go_wp2
   rw [HH.out]
   refine xBR (by kernel_rfl) (by kernel_rfl) ?_
   (go_big_quiet_want; go_big_quiet_op; go_big_quiet_on)
   (go_big_quiet_want; go_big_quiet_op; go_big_quiet_on)
   (go_big_quiet_want; go_big_quiet_op; go_big_quiet_on)
   (go_big_quiet_want; go_big_quiet_op; go_big_quiet_on)
   go_big_quiet_want
   refine ⟨.int .i64 (G : Int), fun w' hw' => ?_, ?_⟩
   ·unfold Oper.quietAt; go_simp
   simp only [Act.put, sA, sB, sC]
   go_big_quiet_on
   go_big_quiet_want
   refine ⟨.pointer (some ⟨g, G * 2, none⟩), fun w' hw' => ?_, ?_⟩
   ·unfold Oper.quietAt; go_simp
   simp only [Act.put, sA, sB, sC]
   go_big_quiet_on
   go_big_quiet_want
   refine ⟨.agg #[.int .i64 x.1, .int .i64 x.2], fun w' hw' => ?_, ?_⟩
   ·have hh0 := (zK hw').cell _ _ i1; have hh1 := (zK hw').cell _ _ i2; unfold Oper.quietAt; go_simp
   simp only [Act.put, sA, sB, sC]
   go_big_quiet_on
   (go_big_quiet_want; go_big_quiet_op; go_big_quiet_on)
   (go_big_quiet_want; go_big_quiet_op; go_big_quiet_on)
   go_big_quiet_want
   refine ⟨.pointer (some ⟨g, H * 2, none⟩), fun w' hw' => ?_, ?_⟩
   ·unfold Oper.quietAt; go_simp
   simp only [Act.put, sA, sB, sC]
   go_big_quiet_on
   go_big_quiet_want
   refine ⟨.agg #[.int .i64 y.1, .int .i64 y.2], fun w' hw' => ?_, ?_⟩
   ·have hh0 := (zK hw').cell _ _ j1; have hh1 := (zK hw').cell _ _ j2; unfold Oper.quietAt; go_simp
   simp only [Act.put, sA, sB, sC]
   go_big_quiet_on
   go_big_quiet_want
   refine ⟨.int .i64 (cmpZ8 x.1 y.1), fun w' hw' => ?_, ?_⟩
   ·unfold Oper.quietAt; go_simp; exact (xCP x y w').mono (fun e w2 ⟨he, hb⟩ => ⟨he, zS hw' hb⟩)
   simp only [Act.put, sA, sB, sC]
   go_big_quiet_on
   go_big_quiet_want
   refine ⟨.bool (decide (cmpZ8 x.1 y.1 < 0)), fun w' hw' => ?_, ?_⟩
   ·unfold Oper.quietAt; go_simp
   simp only [Act.put, sA, sB, sC]
   go_big_quiet_on
   go_big_quiet_want
   refine ⟨.bool (!decide (cmpZ8 x.1 y.1 < 0)), fun w' hw' => ?_, ?_⟩
   ·unfold Oper.quietAt; go_simp
   simp only [Act.put, sA, sB, sC]
   go_big_quiet_on
   refine wpQuiet_nil ?_
   intro w5 hb5
   have HB5 := hid (zS HBl.out hb5)
   clear hb5 i1 i2 j1 j2
   rw [cmpZ8_lt]
   by_cases hxy : x.1 < y.1
   ·rw [decide_eq_true hxy]
    have HNx : Hid (∀ p q, H < R → D[PP - H]? = some p → D[H]? = some q → p.1 < q.1) := fun p q _ hp hq => by
     rw [← HG.out, HX.out] at hp
     rw [HY.out] at hq
     cases hp
     cases hq
     exact hxy
    clear hxy
    go_wp2
    go_roundw
    case rel => exact ⟨s, H, rfl, rfl, hs1, hH1, by omega, HLo.out, HNx.out, HB5.out⟩
    case measure => simp only [intOf]; omega
   rw [decide_eq_false hxy]
   have HNx : Hid (∀ p q, S < H + 1 → D[PP - (H + 1 - 1)]? = some p → D[H + 1 - 1]? = some q → q.1 ≤ p.1) := fun p q _ hp hq => by
    rw [Nat.add_sub_cancel] at hp hq
    rw [← HG.out, HX.out] at hp
    rw [HY.out] at hq
    cases hp
    cases hq
    omega
   clear hxy
   go_wp2
   go_roundw
   case rel => exact ⟨H + 1, r, by go_num, rfl, by omega, by omega, hs3, HNx.out, HHi.out, HB5.out⟩
   case measure => simp only [intOf]; omega
  obtain rfl : s = r := by omega
  have hd : decide ((s : Int) < (s : Int)) = false := by simp
  obtain ⟨e, he⟩ : ∃ e, e = NN - s := ⟨_, rfl⟩
  have hes : e + s = mid + m := by have := HN.out; omega
  have hew : IntKind.i64.wrap ((NN : Int) - (s : Int)) = (e : Int) := by have := HN.out; rw [yA _ ⟨by omega, by omega⟩]; omega
  have HF : Hid ((∀ x ∈ V.take (e - m), ∀ y ∈ U.drop (s - a), x.1 < y.1) ∧ ∀ x ∈ U.take (s - a), ∀ y ∈ V.drop (e - m), x.1 ≤ y.1) := by
   obtain ⟨⟨hX, hU, hV, hL⟩, hD, _⟩ := HE.out
   have e1 : PP = mid + m - 1 := by rw [HP.out, HN.out]
   exact sym_found hU hV HGu.out HGv.out HUp.out HVp.out HSR.out haS hRm hRd hSb hs1 hs3 hes (by rw [← e1]; exact HLo.out) (by rw [← e1]; exact HHi.out)
  have hme : m ≤ e := by omega
  have heb : e ≤ b := by omega
  have hasx : a ≤ s := by omega
  have hsm : s ≤ m := by omega
  have HEs := hid hes
  obtain ⟨U1, hU1⟩ : ∃ U1, U1 = U.take (s - a) := ⟨_, rfl⟩
  obtain ⟨U2, hU2⟩ : ∃ U2, U2 = U.drop (s - a) := ⟨_, rfl⟩
  obtain ⟨V1, hV1⟩ : ∃ V1, V1 = V.take (e - m) := ⟨_, rfl⟩
  obtain ⟨V2, hV2⟩ : ∃ V2, V2 = V.drop (e - m) := ⟨_, rfl⟩
  have HL4 : Hid ((a + U1.length = s ∧ s + U2.length = m ∧ m + V1.length = e ∧ e + V2.length = b) ∧ U = U1 ++ U2 ∧ V = V1 ++ V2) := by
   obtain ⟨⟨hX, hU, hV, hL⟩, hD, _⟩ := HE.out
   rw [hU1, hU2, hV1, hV2]
   refine ⟨⟨by rw [zH]; omega, by rw [zI]; omega, by rw [zH]; omega, by rw [zI]; omega⟩, (zQ _ _).symm, (zQ _ _).symm⟩
  rw [← hU1, ← hU2, ← hV1, ← hV2] at HF
  have HD : Hid (OX wr base (.slice (some ⟨g, 0, none⟩) L cap) (X ++ U1 ++ U2 ++ V1 ++ (V2 ++ Y))) := by
   obtain ⟨_, hD, _⟩ := HE.out
   have h9 := HO.out.later HBl.out
   rw [hD, HL4.out.2.1, HL4.out.2.2] at h9
   show OX _ _ _ _
   simpa using h9
  have HG0 := hid (xAA HBl.out (some g))
  clear hU1 hU2 hV1 hV2 he hes HLo HHi HGu HGv HSR
  obtain ⟨B1, hB1⟩ : ∃ B, B = (decide (s < m) && decide (m < e)) := ⟨_, rfl⟩
  have HB1 := hid hB1
  clear hB1
  go_upto_region 39 with fail
  go_cut [185] from 178 to 185 (fun c wx => c = .bool B1 ∧ wx = wr)
  case first =>
   by_cases c1 : s < m
   ·have d1 : decide ((s : Int) < (m : Int)) = true := by simpa using c1
    by_cases c2 : m < e
    ·have d2 : decide ((m : Int) < (e : Int)) = true := by simpa using c2
     go_wp2
     go_meet
     case rel => exact ⟨by rw [HB1.out, decide_eq_true c1, decide_eq_true c2]; rfl, rfl⟩
    have d2 : decide ((m : Int) < (e : Int)) = false := by simpa using (show ¬ (m : Int) < (e : Int) by omega)
    go_wp2
    go_meet
    case rel => exact ⟨by rw [HB1.out, decide_eq_true c1, decide_eq_false c2]; rfl, rfl⟩
   have d1 : decide ((s : Int) < (m : Int)) = false := by simpa using (show ¬ (s : Int) < (m : Int) by omega)
   go_wp2
   go_meet
   case rel => exact ⟨by rw [HB1.out, decide_eq_false c1]; rfl, rfl⟩
  obtain ⟨rfl, hw⟩ := hcut
  have hw8 := hw.symm
  subst hw8
  clear hw
  go_upto_if 185 with fail
  go_cut [] from 186 to 191 (fun wx => OX wx base (.slice (some ⟨g, 0, none⟩) L cap) (X ++ U1 ++ V1 ++ (U2 ++ V2 ++ Y)) ∧ w.grownBy wx (some g))
  case first =>
   cases B1 with
   | false =>
    have HXe : Hid (X ++ U1 ++ U2 ++ V1 ++ (V2 ++ Y) = X ++ U1 ++ V1 ++ (U2 ++ V2 ++ Y)) := by
     obtain ⟨⟨l1, l2, l3, l4⟩, _⟩ := HL4.out
     have h9 := HB1.out
     by_cases c1 : s < m
     ·have c2 : ¬ m < e := fun c2 => by rw [decide_eq_true c1, decide_eq_true c2] at h9; cases h9
      obtain rfl : V1 = [] := zE (by omega)
      show _ = _
      simp
     obtain rfl : U2 = [] := zE (by omega)
     show _ = _
     simp
    go_wp2
    go_meet
    case rel => exact ⟨by rw [← HXe.out]; exact HD.out, HG0.out⟩
   | true =>
    have hb := HB1.out.symm
    rw [Bool.and_eq_true, yY, yY] at hb
    have HR := hid (rotate_any g cap base s m e L (X ++ U1) U2 V1 (V2 ++ Y) wr cmpF (by have := HE.out.1; have := HL4.out.1; simp; omega) HL4.out.1.2.1 HL4.out.1.2.2.1 (by have := HE.out.1; have := HL4.out.1; simp; omega) (by have := HL4.out.1; omega) (by have := HL4.out.1; omega) (by have h9 := HD.out; simpa using h9) hc (by omega))
    clear hb
    go_wp2_with fail
    refine HR.out.mono ?_
    rintro e9 w6 ⟨rfl, o6, g6⟩
    have O6 := hid o6
    have G6 := hid (HG0.out.trans g6)
    clear o6 g6
    go_wp2
    go_meet
    case rel => exact ⟨by simpa using O6.out, G6.out⟩
  obtain ⟨hcd, hcg⟩ := hcut
  have HD1 := hid hcd
  have HG1 := hid hcg
  clear hcd hcg HD HG0 HB1
  obtain ⟨B2, hB2⟩ : ∃ B, B = (decide (a < s) && decide (s < mid)) := ⟨_, rfl⟩
  have HB2 := hid hB2
  clear hB2
  go_upto_region 41 with fail
  obtain ⟨w7, hw7⟩ : ∃ W, W = wc := ⟨_, rfl⟩
  rw [← hw7] at HD1 HG1 ⊢
  clear hw7
  go_cut [199] from 192 to 199 (fun c wx => c = .bool B2 ∧ wx = w7)
  case first =>
   by_cases c1 : a < s
   ·have d1 : decide ((a : Int) < (s : Int)) = true := by simpa using (show (a : Int) < (s : Int) by omega)
    by_cases c2 : s < mid
    ·have d2 : decide ((s : Int) < (mid : Int)) = true := by simpa using (show (s : Int) < (mid : Int) by omega)
     go_wp2
     go_meet
     case rel => exact ⟨by rw [HB2.out, decide_eq_true c1, decide_eq_true c2]; rfl, rfl⟩
    have d2 : decide ((s : Int) < (mid : Int)) = false := by simpa using (show ¬ (s : Int) < (mid : Int) by omega)
    go_wp2
    go_meet
    case rel => exact ⟨by rw [HB2.out, decide_eq_true c1, decide_eq_false c2]; rfl, rfl⟩
   have d1 : decide ((a : Int) < (s : Int)) = false := by simpa using (show ¬ (a : Int) < (s : Int) by omega)
   go_wp2
   go_meet
   case rel => exact ⟨by rw [HB2.out, decide_eq_false c1]; rfl, rfl⟩
  obtain ⟨rfl, hw⟩ := hcut
  have hw8 := hw.symm
  subst hw8
  clear hw
  go_upto_if 199 with fail
  go_cut [] from 200 to 205 (fun wx => ∃ M1, Mg U1 V1 M1 ∧ OX wx base (.slice (some ⟨g, 0, none⟩) L cap) (X ++ M1 ++ (U2 ++ V2 ++ Y)) ∧ w.grownBy wx (some g))
  case first =>
   have HU1 : Hid (UpS U1 ∧ UpS V1) := by
    obtain ⟨_, q1, q2⟩ := HL4.out
    have u1 := HUp.out
    have u2 := HVp.out
    rw [q1] at u1
    rw [q2] at u2
    exact ⟨u1.left, u2.left⟩
   cases B2 with
   | false =>
    have HXe : Hid (Mg U1 V1 (U1 ++ V1)) := by
     obtain ⟨⟨l1, l2, l3, l4⟩, _⟩ := HL4.out
     have h9 := HB2.out
     have := HEs.out
     by_cases c1 : a < s
     ·have c2 : ¬ s < mid := fun c2 => by rw [decide_eq_true c1, decide_eq_true c2] at h9; cases h9
      obtain rfl : V1 = [] := zE (by omega)
      rw [zV]
      exact xDO HU1.out.1
     obtain rfl : U1 = [] := zE (by omega)
     exact mg_nil_left HU1.out.2
    go_wp2
    go_meet
    case rel => exact ⟨_, HXe.out, by have h9 := HD1.out; simpa using h9, HG1.out⟩
   | true =>
    have hb := HB2.out.symm
    rw [Bool.and_eq_true, yY, yY] at hb
    have HR := hid (HIH.out X U1 V1 (U2 ++ V2 ++ Y) a s mid w7 HE.out.1.1 HL4.out.1.1 (by have := HL4.out.1; have := HEs.out; omega) (by have := HE.out.1; have := HL4.out.1; have := HEs.out; simp; omega) (by have := HL4.out.1; omega) (by have := HL4.out.1; have := HEs.out; omega) (by have := HL4.out.1; have := HEs.out; have := HE.out; omega) HU1.out.1 HU1.out.2 (by have h9 := HD1.out; simpa using h9))
    clear hb
    go_wp2_with fail
    refine HR.out.mono ?_
    rintro e9 w6 ⟨M, rfl, m6, o6, g6⟩
    have O6 := hid o6
    have M6 := hid m6
    have G6 := hid (HG1.out.trans g6)
    clear o6 g6 m6
    go_wp2
    go_meet
    case rel => exact ⟨M, M6.out, O6.out, G6.out⟩
  obtain ⟨M1, hm1, hcd, hcg⟩ := hcut
  have HM1 := hid hm1
  have HD2 := hid hcd
  have HG2 := hid hcg
  clear hcd hcg HD1 HG1 HB2 hm1
  obtain ⟨B3, hB3⟩ : ∃ B, B = (decide (mid < e) && decide (e < b)) := ⟨_, rfl⟩
  have HB3 := hid hB3
  clear hB3
  go_upto_region 43 with fail
  obtain ⟨w8, hw8⟩ : ∃ W, W = wc := ⟨_, rfl⟩
  rw [← hw8] at HD2 HG2 ⊢
  clear hw8
  go_cut [213] from 206 to 213 (fun c wx => c = .bool B3 ∧ wx = w8)
  case first =>
   by_cases c1 : mid < e
   ·have d1 : decide ((mid : Int) < (e : Int)) = true := by simpa using (show (mid : Int) < (e : Int) by omega)
    by_cases c2 : e < b
    ·have d2 : decide ((e : Int) < (b : Int)) = true := by simpa using (show (e : Int) < (b : Int) by omega)
     go_wp2
     go_meet
     case rel => exact ⟨by rw [HB3.out, decide_eq_true c1, decide_eq_true c2]; rfl, rfl⟩
    have d2 : decide ((e : Int) < (b : Int)) = false := by simpa using (show ¬ (e : Int) < (b : Int) by omega)
    go_wp2
    go_meet
    case rel => exact ⟨by rw [HB3.out, decide_eq_true c1, decide_eq_false c2]; rfl, rfl⟩
   have d1 : decide ((mid : Int) < (e : Int)) = false := by simpa using (show ¬ (mid : Int) < (e : Int) by omega)
   go_wp2
   go_meet
   case rel => exact ⟨by rw [HB3.out, decide_eq_false c1]; rfl, rfl⟩
  obtain ⟨rfl, hw⟩ := hcut
  have hw8 := hw.symm
  subst hw8
  clear hw
  go_upto_if 213 with fail
  have HU2 : Hid (UpS U2 ∧ UpS V2) := by
   obtain ⟨_, q1, q2⟩ := HL4.out
   have u1 := HUp.out
   have u2 := HVp.out
   rw [q1] at u1
   rw [q2] at u2
   exact ⟨u1.right, u2.right⟩
  cases B3 with
  | false =>
   have HXe : Hid (Mg U2 V2 (U2 ++ V2)) := by
    obtain ⟨⟨l1, l2, l3, l4⟩, _⟩ := HL4.out
    have h9 := HB3.out
    have := HEs.out
    by_cases c1 : mid < e
    ·have c2 : ¬ e < b := fun c2 => by rw [decide_eq_true c1, decide_eq_true c2] at h9; cases h9
     obtain rfl : V2 = [] := zE (by omega)
     rw [zV]
     exact xDO HU2.out.1
    obtain rfl : U2 = [] := zE (by omega)
    exact mg_nil_left HU2.out.2
   go_wp2
   go_end0
   refine ⟨M1 ++ (U2 ++ V2), rfl, ?_, by have h9 := HD2.out; simpa using h9, HG2.out⟩
   obtain ⟨_, q1, q2⟩ := HL4.out
   have u1 := HUp.out
   have u2 := HVp.out
   rw [q1] at u1 ⊢
   rw [q2] at u2 ⊢
   exact mg_halves u1 u2 HF.out.1 HF.out.2 HM1.out HXe.out
  | true =>
   have hb := HB3.out.symm
   rw [Bool.and_eq_true, yY, yY] at hb
   have HR := hid (HIH.out (X ++ M1) U2 V2 Y mid e b w8 (by have := HE.out.1; have := HL4.out.1; have := HEs.out; have := HM1.out.len; simp; omega) (by have := HL4.out.1; have := HEs.out; omega) HL4.out.1.2.2.2 HE.out.1.2.2.2 (by have := HL4.out.1; have := HEs.out; omega) (by have := HL4.out.1; omega) (by have := HL4.out.1; have := HEs.out; have := HE.out; omega) HU2.out.1 HU2.out.2 (by have h9 := HD2.out; simpa using h9))
   clear hb
   go_wp2_with fail
   refine HR.out.mono ?_
   rintro e9 w6 ⟨M, rfl, m6, o6, g6⟩
   have O6 := hid o6
   have M6 := hid m6
   have G6 := hid (HG2.out.trans g6)
   clear o6 g6 m6
   go_wp2
   go_end0
   refine ⟨M1 ++ M, rfl, ?_, by have h9 := O6.out; simpa using h9, G6.out⟩
   obtain ⟨_, q1, q2⟩ := HL4.out
   have u1 := HUp.out
   have u2 := HVp.out
   rw [q1] at u1 ⊢
   rw [q2] at u2 ⊢
   exact mg_halves u1 u2 HF.out.1 HF.out.2 HM1.out M6.out
theorem symMerge_all (g cap base L : Nat) (hc : L ≤ cap) (hc2 : cap ≤ 9223372036854775807) (hc3 : L ≤ 1152921504606846976) : ∀ n, SymOk g cap base L n
 | 0 => fun X U V Y a m b w _ _ _ _ h1 h2 h3 => by omega
 | n + 1 => fun X U V Y a m b w hX hU hV hL h1 h2 h3 hup hvp ho => by
  by_cases c1 : U.length = 1
  ·obtain ⟨u, rfl⟩ := List.length_eq_one_iff.1 c1
   exact symLeft_any g cap base a m b L X V Y u w hX (by simpa using hU) hV hL h2 hvp (by simpa using ho) hc hc2 hc3
  by_cases c2 : V.length = 1
  ·obtain ⟨v, rfl⟩ := List.length_eq_one_iff.1 c2
   exact symRight_any g cap base a m b L X U Y v w hX hU (by simpa using hV) hL (by omega) hup (by simpa using ho) hc hc2 hc3
  exact symGen_any g cap base a m b L n X U V Y w (symMerge_all g cap base L hc hc2 hc3 n) hX hU hV hL (by omega) (by omega) h3 hup hvp ho hc hc2 hc3
theorem insertion_any (g cap base a b L : Nat) (X U Y : List Rx) (w : World) (hX : X.length = a) (hU : a + U.length = b) (hL : b + Y.length = L) (hU0 : 0 < U.length) (h : OX w base (.slice (some ⟨g, 0, none⟩) L cap) (X ++ U ++ Y)) (_hc : L ≤ cap) (_hc2 : cap ≤ 9223372036854775807) (hc3 : L ≤ 1152921504606846976) :
  Calls Tryz.prog 162 #[.slice (some ⟨g, 0, none⟩) L cap, .int .i64 (a : Int), .int .i64 (b : Int), cmpF] w fun e w' => ∃ M, e = .returned (.tuple #[]) ∧ Mg U [] M ∧ OX w' base (.slice (some ⟨g, 0, none⟩) L cap) (X ++ M ++ Y) ∧ w.grownBy w' (some g) := by
 have HO := hid h
 have HE := hid (show X.length = a ∧ a + U.length = b ∧ b + Y.length = L from ⟨hX, hU, hL⟩)
 have ha1 : IntKind.i64.wrap ((a : Int) + 1) = ((a + 1 : Nat) : Int) := by rw [yA _ ⟨by omega, by omega⟩]; omega
 have hab : a + 1 ≤ b := by omega
 have hbL : b ≤ L := by omega
 have HS : Hid (Mg (U.take 1) [] (U.take 1)) := by
  refine xDO ?_
  unfold UpS
  rw [List.pairwise_iff_getElem]
  intro i j hi hj hij
  rw [zH] at hj
  omega
 clear h hX hU hL
 go_enter Tryz.func162, Tryz.ntmps162
 go_wp2
 go_loopw [8] (fun iv wr => ∃ (i : Nat) (P : List Rx), iv = .int .i64 i ∧ a + 1 ≤ i ∧ i ≤ b ∧ Mg (U.take (i - a)) [] P ∧ OX wr base (.slice (some ⟨g, 0, none⟩) L cap) (X ++ P ++ (U.drop (i - a) ++ Y)) ∧ w.grownBy wr (some g)) (fun iv _ => b - (intOf iv).toNat)
 case atStart => exact ⟨a + 1, U.take 1, by go_num, Nat.le_refl _, hab, by rw [Nat.add_sub_cancel_left]; exact HS.out, by have h9 := HO.out; rw [← zQ 1 U] at h9; rw [Nat.add_sub_cancel_left]; simpa using h9, World.grownBy.refl _ _⟩
 case round =>
  obtain ⟨i, P, rfl, hi1, hi2, hmg, how, hgr⟩ := hrel
  have HM := hid hmg
  have HW := hid how
  have HG0 := hid hgr
  clear hmg how hgr ha1 HS
  by_cases hlt : i < b
  ·have hd : decide ((i : Int) < (b : Int)) = true := by simpa using hlt
   obtain ⟨x, hx⟩ : ∃ x, U[i - a]? = some x := ⟨_, zC (by have := HE.out; omega)⟩
   have HPl : Hid (P.length = i - a) := by have h9 := HM.out.len; rw [zH] at h9; have := HE.out; simp at h9; show _ = _; omega
   have HX := hid hx
   have HS : Hid (OX wr base (.slice (some ⟨g, 0, none⟩) L cap) (X ++ P.take (i - a) ++ x :: P.drop (i - a) ++ (U.drop (i - a + 1) ++ Y))) := by
    have h9 := HW.out
    rw [xAR hx] at h9
    show OX _ _ _ _
    rw [zO (by rw [HPl.out]; exact Nat.le_refl _), zP (by rw [HPl.out]; exact Nat.le_refl _)]
    simpa using h9
   clear hx HW
   go_wp2
   go_loopw [9] (fun jv wr => ∃ j : Nat, jv = .int .i64 j ∧ a ≤ j ∧ j ≤ i ∧ (∀ y ∈ P.drop (j - a), x.1 < y.1) ∧ OX wr base (.slice (some ⟨g, 0, none⟩) L cap) (X ++ P.take (j - a) ++ x :: P.drop (j - a) ++ (U.drop (i - a + 1) ++ Y)) ∧ w.grownBy wr (some g)) (fun jv _ => (intOf jv).toNat)
   case atStart => exact ⟨i, rfl, by omega, Nat.le_refl _, fun y hy => by rw [zP (by rw [HPl.out]; exact Nat.le_refl _)] at hy; simp at hy, HS.out, HG0.out⟩
   case round =>
    clear HS HG0
    obtain ⟨j, rfl, hj1, hj2, hgt, how, hgr⟩ := hrel
    have HGt := hid hgt
    have HW := hid how
    have HG := hid hgr
    clear hgt how hgr
    have HOut : Hid ((∀ z, a < j → P[j - 1 - a]? = some z → z.1 ≤ x.1) → Mg (U.take (i + 1 - a)) [] (P.take (j - a) ++ x :: P.drop (j - a))) := fun hz => by
     have hU := HE.out
     have hm : Mg P [x] (P.take (j - a) ++ x :: P.drop (j - a)) := by
      refine mg_one_right HM.out.1 (fun y hy => ?_) HGt.out
      by_cases c : a < j
      ·obtain ⟨z, hz1⟩ : ∃ z, P[j - 1 - a]? = some z := ⟨_, zC (by rw [HPl.out]; omega)⟩
       have h1 := up_last HM.out.1 (x := y) hz1 (by rw [show j - 1 - a + 1 = j - a by omega]; exact hy)
       have h2 := hz z c hz1
       omega
      rw [show j - a = 0 by omega] at hy
      simp at hy
     refine ⟨hm.1, hm.2.trans ?_⟩
     have h9 := HM.out.2.app (Fil.refl [x])
     rw [zV] at h9
     rw [show i + 1 - a = i - a + 1 by omega, xAM HX.out, zV]
     exact h9
    by_cases hja : a < j
    ·obtain ⟨J, hJ⟩ : ∃ J, j = J + 1 := ⟨j - 1, by omega⟩
     obtain ⟨z, hz⟩ : ∃ z, P[J - a]? = some z := ⟨_, zC (by rw [HPl.out]; omega)⟩
     have hXl := HE.out.1
     have hw := HW.out
     rw [hJ, show J + 1 - a = J - a + 1 by omega, xAM hz] at hw
     have e1 : X ++ (P.take (J - a) ++ [z]) ++ x :: P.drop (J - a + 1) ++ (U.drop (i - a + 1) ++ Y) = (X ++ P.take (J - a)) ++ z :: x :: (P.drop (J - a + 1) ++ (U.drop (i - a + 1) ++ Y)) := by simp
     rw [e1] at hw
     have hPJ : J - a ≤ P.length := by rw [HPl.out]; omega
     have g1 : ((X ++ P.take (J - a)) ++ z :: x :: (P.drop (J - a + 1) ++ (U.drop (i - a + 1) ++ Y)))[J + 1]? = some x := by
      rw [zM (by simp [hXl]; omega)]
      have : J + 1 - (X ++ P.take (J - a)).length = 1 := by simp [hXl]; omega
      rw [this]
      rfl
     have g2 : ((X ++ P.take (J - a)) ++ z :: x :: (P.drop (J - a + 1) ++ (U.drop (i - a + 1) ++ Y)))[J]? = some z := by
      rw [zM (by simp [hXl]; omega)]
      have : J - (X ++ P.take (J - a)).length = 0 := by simp [hXl]; omega
      rw [this]
      rfl
     obtain ⟨K, hK⟩ : ∃ K, K = j := ⟨_, rfl⟩
     rw [← hJ] at g1
     rw [← hK] at g1
     have HJ : Hid (K = J + 1) := by show _ = _; omega
     obtain ⟨i1, i2, i3, i4⟩ := hw.at2 g1
     obtain ⟨j1, j2, j3, j4⟩ := hw.at2 g2
     have hd1 : decide ((K : Int) > (a : Int)) = true := by simpa using (show (K : Int) > (a : Int) by omega)
     have hka : a < K := by omega
     have hk3 : IntKind.i64.wrap ((K : Int) - 1) = (J : Int) := by rw [yA _ ⟨by omega, by omega⟩]; omega
     have hkL : K < L := by omega
     have hJL : J < L := by omega
     have HQ : Hid (∀ {W : World}, OX W base (.slice (some ⟨g, 0, none⟩) L cap) ((X ++ P.take (J - a)) ++ z :: x :: (P.drop (J - a + 1) ++ (U.drop (i - a + 1) ++ Y))) → ∀ Z, ((((W.setCell ⟨g, K * 2, none⟩ (.int .i64 z.1)).setCell ⟨g, K * 2 + 1, none⟩ (.int .i64 z.2)).setCell ⟨g, J * 2, none⟩ (.int .i64 x.1)).setCell ⟨g, J * 2 + 1, none⟩ (.int .i64 x.2)).drew = Z → OX Z base (.slice (some ⟨g, 0, none⟩) L cap) (X ++ P.take (J - a) ++ x :: P.drop (J - a) ++ (U.drop (i - a + 1) ++ Y)) ∧ W.grownBy Z (some g)) := fun {W} hW => hW.swap2 g1 g2 (by
      rw [xAR hz, show K = J + 1 by omega]
      have h9 := swp_back (X := X ++ P.take (J - a)) (Y := P.drop (J - a + 1) ++ (U.drop (i - a + 1) ++ Y)) (x := x) (y := z) (n := J) (by simp [hXl]; omega)
      simp only [zR, yG] at h9 ⊢
      exact h9)
     have HW2 := hid hw
     have HG1 := hid g1
     have HG2 := hid g2
     have HZ := hid hz
     have HJj := hid hJ
     subst hK
     clear hJ hz hXl hw e1 g1 g2 hPJ
     go_wp2_with fail
     refine xBR (by kernel_rfl) (by kernel_rfl) ?_
     (go_big_quiet_want; go_big_quiet_op; go_big_quiet_on)
     (go_big_quiet_want; go_big_quiet_op; go_big_quiet_on)
     go_big_quiet_want
     refine ⟨.bool true, fun w' hw' => ?_, ?_⟩
     ·unfold Oper.quietAt; go_simp
     simp only [Act.put, sA, sB, sC]
     go_big_quiet_on
     (go_big_quiet_want; go_big_quiet_op; go_big_quiet_on)
     (go_big_quiet_want; go_big_quiet_op; go_big_quiet_on)
     (go_big_quiet_want; go_big_quiet_op; go_big_quiet_on)
     (go_big_quiet_want; go_big_quiet_op; go_big_quiet_on)
     go_big_quiet_want
     refine ⟨.pointer (some ⟨g, K * 2, none⟩), fun w' hw' => ?_, ?_⟩
     ·unfold Oper.quietAt; go_simp
     simp only [Act.put, sA, sB, sC]
     go_big_quiet_on
     go_big_quiet_want
     refine ⟨.agg #[.int .i64 x.1, .int .i64 x.2], fun w' hw' => ?_, ?_⟩
     ·have hh0 := (zK hw').cell _ _ i1; have hh1 := (zK hw').cell _ _ i2; unfold Oper.quietAt; go_simp
     simp only [Act.put, sA, sB, sC]
     go_big_quiet_on
     (go_big_quiet_want; go_big_quiet_op; go_big_quiet_on)
     (go_big_quiet_want; go_big_quiet_op; go_big_quiet_on)
     go_big_quiet_want
     refine ⟨.int .i64 (J : Int), fun w' hw' => ?_, ?_⟩
     ·unfold Oper.quietAt; go_simp
     simp only [Act.put, sA, sB, sC]
     go_big_quiet_on
     go_big_quiet_want
     refine ⟨.pointer (some ⟨g, J * 2, none⟩), fun w' hw' => ?_, ?_⟩
     ·unfold Oper.quietAt; go_simp
     simp only [Act.put, sA, sB, sC]
     go_big_quiet_on
     go_big_quiet_want
     refine ⟨.agg #[.int .i64 z.1, .int .i64 z.2], fun w' hw' => ?_, ?_⟩
     ·have hh0 := (zK hw').cell _ _ j1; have hh1 := (zK hw').cell _ _ j2; unfold Oper.quietAt; go_simp
     simp only [Act.put, sA, sB, sC]
     go_big_quiet_on
     go_big_quiet_want
     refine ⟨.int .i64 (cmpZ8 x.1 z.1), fun w' hw' => ?_, ?_⟩
     ·unfold Oper.quietAt; go_simp; exact (xCP x z w').mono (fun e w2 ⟨he, hb⟩ => ⟨he, zS hw' hb⟩)
     simp only [Act.put, sA, sB, sC]
     go_big_quiet_on
     go_big_quiet_want
     refine ⟨.bool (decide (cmpZ8 x.1 z.1 < 0)), fun w' hw' => ?_, ?_⟩
     ·unfold Oper.quietAt; go_simp
     simp only [Act.put, sA, sB, sC]
     go_big_quiet_on
     go_big_quiet_want
     refine ⟨.bool (decide (cmpZ8 x.1 z.1 < 0)), fun w' hw' => ?_, ?_⟩
     ·unfold Oper.quietAt; go_simp
     simp only [Act.put, sA, sB, sC]
     go_big_quiet_on
     refine wpQuiet_nil ?_
     intro w5 hb5
     have HB5 := hid hb5
     clear hb5 i1 i2 i3 i4 j1 j2 j3 j4
     rw [cmpZ8_lt]
     by_cases hxz : x.1 < z.1
     ·rw [decide_eq_true hxz]
      have HW5 := hid (HW2.out.later HB5.out)
      obtain ⟨i1, i2, i3, i4⟩ := HW5.out.at2 HG1.out
      obtain ⟨j1, j2, j3, j4⟩ := HW5.out.at2 HG2.out
      have HSw := hid (HQ.out HW5.out)
      have HGg := hid (HG.out.trans (xAA HB5.out (some g)))
      have HN : Hid (∀ y ∈ P.drop (J - a), x.1 < y.1) := fun y hy => by
       rw [xAR HZ.out] at hy
       rcases yB.1 hy with rfl | hy
       ·exact hxz
       refine HGt.out y ?_
       rw [show K - a = J - a + 1 by have := HJ.out; omega]
       exact hy
      have hn0 : ¬ K = J := by have := HJ.out; omega
      have hn1 : ¬ J = K := by have := HJ.out; omega
      have hn2 : ¬ K * 2 = J * 2 := by omega
      have hn3 : ¬ J * 2 = K * 2 := by omega
      have haJ : a ≤ J := by have := HJ.out; omega
      have hJi : J ≤ i := by have := HJ.out; omega
      clear hxz
      go_wp2
      go_region
      generalize hZ : World.drew _ = Z
      obtain ⟨o9, g9⟩ := HSw.out _ hZ
      have O9 := hid o9
      have G9 := hid (HGg.out.trans g9)
      clear hZ o9 g9 HSw i1 i2 i3 i4 j1 j2 j3 j4
      go_wp2
      go_roundw
      case rel => exact ⟨J, by have := HJ.out; go_num, haJ, hJi, HN.out, O9.out, G9.out⟩
      case measure => have := HJ.out; simp only [intOf]; omega
     rw [decide_eq_false hxz]
     have HR := hid (HOut.out fun y _ hy => by
      rw [show K - 1 - a = J - a by have := HJ.out; omega, HZ.out] at hy
      cases hy
      omega)
     have HO9 : Hid (OX w5 base (.slice (some ⟨g, 0, none⟩) L cap) (X ++ (P.take (K - a) ++ x :: P.drop (K - a)) ++ (U.drop (i + 1 - a) ++ Y))) := by
      have h9 := HW.out.later HB5.out
      show OX _ _ _ _
      rw [show i + 1 - a = i - a + 1 by omega]
      simpa using h9
     have HG9 := hid (HG.out.trans (xAA HB5.out (some g)))
     clear hxz
     go_wp2
     go_roundw
     case rel => exact ⟨i + 1, _, by go_num, by omega, by omega, HR.out, HO9.out, HG9.out⟩
     case measure => simp only [intOf]; omega
    have hd1 : decide ((j : Int) > (a : Int)) = false := by simpa using (show ¬ ((j : Int) > (a : Int)) by omega)
    have hnj : ¬ a < j := hja
    have HR := hid (HOut.out fun y c _ => absurd c hja)
    go_wp2_with fail
    refine xBR (by kernel_rfl) (by kernel_rfl) ?_
    (go_big_quiet_want; go_big_quiet_op; go_big_quiet_on)
    (go_big_quiet_want; go_big_quiet_op; go_big_quiet_on)
    go_big_quiet_want
    refine ⟨.bool false, fun w' hw' => ?_, ?_⟩
    ·unfold Oper.quietAt; go_simp
    simp only [Act.put, sA, sB, sC]
    go_big_quiet_on
    (go_big_quiet_want; go_big_quiet_op; go_big_quiet_on)
    go_big_quiet_skip
    go_big_quiet_skip
    go_big_quiet_skip
    go_big_quiet_skip
    go_big_quiet_skip
    go_big_quiet_skip
    go_big_quiet_skip
    go_big_quiet_skip
    go_big_quiet_skip
    go_big_quiet_skip
    go_big_quiet_skip
    go_big_quiet_skip
    go_big_quiet_want
    refine ⟨.bool false, fun w' hw' => ?_, ?_⟩
    ·unfold Oper.quietAt; go_simp
    simp only [Act.put, sA, sB, sC]
    go_big_quiet_on
    refine wpQuiet_nil ?_
    intro w5 hb5
    have HB5 := hid hb5
    have HO9 : Hid (OX w5 base (.slice (some ⟨g, 0, none⟩) L cap) (X ++ (P.take (j - a) ++ x :: P.drop (j - a)) ++ (U.drop (i + 1 - a) ++ Y))) := by
     have h9 := HW.out.later HB5.out
     show OX _ _ _ _
     rw [show i + 1 - a = i - a + 1 by omega]
     simpa using h9
    have HG9 := hid (HG.out.trans (xAA HB5.out (some g)))
    clear hb5
    go_wp2
    go_roundw
    case rel => exact ⟨i + 1, _, by go_num, by omega, by omega, HR.out, HO9.out, HG9.out⟩
    case measure => simp only [intOf]; omega
  have hd : decide ((i : Int) < (b : Int)) = false := by simpa using (show ¬ (i : Int) < (b : Int) by omega)
  go_wp2
  go_end0
  have h9 := HM.out
  have h8 := HW.out
  have := HE.out
  rw [zO (by omega)] at h9
  rw [zP (by omega)] at h8
  exact ⟨P, rfl, h9, by simpa using h8, HG0.out⟩
end Go.Proofs.YtdjmjhlbjcgoiaaGreatDoor
