/- Texts of the proof, one behind the other. -/
import Derived.Test.YtgpbnbmjgcchfaaGreatDoorOwn21
import Derived.Test.YtgpbnbmjgcchfaaGreatDoorOwn20
import Derived.Test.YtgpbnbmjgcchfaaGreatDoorOwn22
import Derived.Test.YtgpbnbmjgcchfaaGreatDoorOwn16
import Derived.Test.YtgpbnbmjgcchfaaGreatDoorOwn19
import Derived.Test.YtgpbnbmjgcchfaaGreatDoorOwn4
/- The helpers of layer 9's laws walked: sameRow, same, which. -/
namespace Go.Proofs.YtgpbnbmjgcchfaaGreatDoor
open Go.RowKit Go.Maps Go.BigFrame

set_option maxHeartbeats 400000 in
theorem sameRow9_any (v u : Value) (xs ys : List Int) (w : World) (h : Is w v xs) (h' : Is w u ys) :
    Calls Tryz.prog 22 #[v, u] w fun e w' => e = .returned (.bool (decide (xs = ys))) ∧ ∃ n, w' = w.drewN n := by
  obtain ⟨ao, cap, rfl, hao, hca, hcl⟩ := h.flatI
  obtain ⟨bo, cap', rfl, hbo, hcb, hcl'⟩ := h'.flatI
  clear h h'
  by_cases hl : xs.length = ys.length
  · have hle : ((xs.length : Int) != ys.length) = false := by simp; omega
    go_enter Tryz.func22, Tryz.ntmps22
    go_wp2
    go_loopw [5] (fun i wr => ∃ k : Nat, k ≤ xs.length ∧ i = .int .i64 k ∧ xs.take k = ys.take k ∧ ∃ n, wr = w.drewN n) (fun i _ => xs.length - (intOf i).toNat)
    case atStart => exact ⟨0, Nat.zero_le _, rfl, rfl, 0, rfl⟩
    case round =>
      obtain ⟨k, hk, rfl, ht, n, rfl⟩ := hrel
      have HT : Hid (xs.take k = ys.take k) := ht
      clear ht
      by_cases hlt : k < xs.length
      · obtain ⟨g, off, x, rfl, hx1, hx3⟩ := hcl k hlt
        obtain ⟨g', off', y, rfl, hy1, hy3⟩ := hcl' k (by omega)
        have HX : Hid (xs[k]? = some x) := hx1
        have HY : Hid (ys[k]? = some y) := hy1
        have hlt' : k < ys.length := by omega
        clear hx1 hy1 hcl hcl'
        by_cases hxy : x = y
        · subst hxy
          have hxx : (x != x) = false := by simp
          go_wp2
          go_quiet (fail)
          go_wp2
          go_roundw
          case rel => exact ⟨k + 1, by omega, by go_num, by rw [take_get HX.out, take_get HY.out, HT.out], _, rfl⟩
          case measure => simp [intOf]; omega
        · have hne : (x != y) = true := by rw [bne_iff_ne]; exact hxy
          go_wp2
          go_quiet (fail)
          go_wp2
          go_ret
          exact ⟨ret1b (by rw [eq_comm, decide_eq_false_iff_not]; rintro rfl; have := HX.out.symm.trans HY.out; simp at this; exact hxy this), _, World.drewN_drewN _ _ _⟩
      · have hk' : k = xs.length := by omega
        go_wp2
        go_ret
        refine ⟨ret1b ?_, n, rfl⟩
        have := HT.out
        rw [List.take_of_length_le (by omega), List.take_of_length_le (by omega)] at this
        simp [this]
  · have hle : ((xs.length : Int) != ys.length) = true := by rw [bne_iff_ne]; omega
    go_enter Tryz.func22, Tryz.ntmps22
    go_wp2
    go_ret
    exact ⟨ret1b (by rw [eq_comm, decide_eq_false_iff_not]; rintro rfl; exact hl rfl), 0, rfl⟩

set_option maxRecDepth 100000 in
theorem which9_any (c : Int) (n : Nat) (hn : 0 < n) (h1 : -9223372036854775808 ≤ c) (h2 : c ≤ 9223372036854775807) (w : World) :
    Calls Tryz.prog 19 #[.int .i64 c, .int .i64 n] w fun e w' => e = .returned (.int .i64 (whichN c n : Int)) ∧ w' = w := by
  have hn0 : ((n : Int) == 0) = false := by rw [beq_eq_false_iff_ne]; omega
  by_cases hc : c < 0
  · have e1 : IntKind.i64.wrap (c + 1) = c + 1 := IntWalk.i64_in _ ⟨by omega, by omega⟩
    have e2 : IntKind.i64.wrap (-(c + 1)) = -(c + 1) := IntWalk.i64_in _ ⟨by omega, by omega⟩
    go_enter Tryz.func19, Tryz.ntmps19
    have e3 : -(c + 1).tmod (n : Int) = (whichN c n : Int) := by
      unfold whichN
      rw [if_pos hc, ← Int.neg_tmod, Int.tmod_eq_emod_of_nonneg (by omega), Int.toNat_of_nonneg (Int.emod_nonneg _ (by omega))]
    go_wp2
    go_ret
    exact ⟨rfl, rfl⟩
  · go_enter Tryz.func19, Tryz.ntmps19
    have e3 : c.tmod (n : Int) = (whichN c n : Int) := by
      unfold whichN
      rw [if_neg hc, Int.tmod_eq_emod_of_nonneg (by omega), Int.toNat_of_nonneg (Int.emod_nonneg _ (by omega))]
    go_wp2
    go_ret
    exact ⟨rfl, rfl⟩

set_option maxRecDepth 100000 in
set_option maxHeartbeats 1600000 in
theorem same9_any (v u x y : Value) (S : List Rx) (E : List Int) (b : Bool) (w : World) (h : Xs w v S) (h' : Xs w u S) (hx : Is w x E) (hy : Is w y E) :
    Calls Tryz.prog 47 #[.agg #[v, x, .bool b], .agg #[u, y, .bool b]] w fun e w' => e = .returned (.bool true) ∧ Below w.heap.size w w' := by
  obtain ⟨ao, cap, rfl, hao, hca, _⟩ := Row.flat h
  obtain ⟨bo, cap', rfl, hbo, hcb, _⟩ := Row.flat h'
  unfold maxLen at hca hcb
  have H1 := hid h
  have H2 := hid h'
  have HX := hid hx
  have HY := hid hy
  clear h h' hx hy
  obtain ⟨wA, hwA⟩ : ∃ X, X = (w.alloc (.cells #[.slice ao S.length cap, x, .bool b] 47)).alloc (.cells #[.slice bo S.length cap', y, .bool b] 47) := ⟨_, rfl⟩
  have CA : Hid (Below w.heap.size w wA) := by rw [hwA]; exact below_step (below_alloc _) (below_alloc _)
  have HC : Hid (∀ W, Kp wA W → (W.cell? ⟨w.heap.size, 0, none⟩ = some (.slice ao S.length cap) ∧ W.cell? ⟨w.heap.size, 1, none⟩ = some x ∧ W.cell? ⟨w.heap.size, 2, none⟩ = some (.bool b)) ∧ W.cell? ⟨w.heap.size + 1, 0, none⟩ = some (.slice bo S.length cap') ∧ W.cell? ⟨w.heap.size + 1, 1, none⟩ = some y ∧ W.cell? ⟨w.heap.size + 1, 2, none⟩ = some (.bool b)) := fun W hk => by
    rw [hwA] at hk
    have e9 : w.heap.size + 1 = (w.alloc (.cells #[.slice ao S.length cap, x, .bool b] 47)).heap.size := (World.size_alloc _ _).symm
    rw [e9]
    exact ⟨⟨hk.cell _ _ (cell_old (cell_new rfl)), hk.cell _ _ (cell_old (cell_new rfl)), hk.cell _ _ (cell_old (cell_new rfl))⟩, hk.cell _ _ (cell_new rfl), hk.cell _ _ (cell_new rfl), hk.cell _ _ (cell_new rfl)⟩
  obtain ⟨⟨a0, a1, a2⟩, b0, b1, b2⟩ := HC.out wA (Kp.of_below (Below.refl _ _))
  have a1' := a1
  have b1' := b1
  rw [hwA] at a1' b1'
  go_enter Tryz.func47, Tryz.ntmps47
  go_wp2_with fail
  rw [← hwA]
  clear hwA a0 a1 a2 b0 b1 b2 a1' b1'
  refine (sameRow9_any _ _ E E wA (HX.out.kp (Kp.of_below CA.out)) (HY.out.kp (Kp.of_below CA.out))).mono ?_
  rintro e w1 ⟨rfl, n1, hw1⟩
  rw [decide_eq_true rfl]
  have D1 := hid (drawn_below hw1)
  have C1 := hid (below_step CA.out D1.out)
  clear hw1
  obtain ⟨⟨a0, a1, a2⟩, b0, b1, b2⟩ := HC.out w1 (Kp.of_below D1.out)
  have hbb : (b != b) = false := by simp
  have hll : ((S.length : Int) != S.length) = false := by simp
  go_wp2
  go_loopw [6] (fun i wr => ∃ k : Nat, k ≤ S.length ∧ i = .int .i64 k ∧ ∃ n, wr = w1.drewN n) (fun i _ => S.length - (intOf i).toNat)
  case atStart => exact ⟨0, Nat.zero_le _, rfl, 0, rfl⟩
  case round =>
    obtain ⟨k, hk, rfl, n, rfl⟩ := hrel
    by_cases hlt : k < S.length
    · obtain ⟨g, off, x1, x2, rfl, hx1, hc0, hc1⟩ := (H1.out.kp (Kp.of_below C1.out)).at hlt
      obtain ⟨g', off', y1, y2, rfl, hy1, hd0, hd1⟩ := (H2.out.kp (Kp.of_below C1.out)).at hlt
      rw [hx1] at hy1
      simp only [Option.some.injEq, Prod.mk.injEq] at hy1
      obtain ⟨rfl, rfl⟩ := hy1
      clear hx1
      have hxx : (x1 == x1) = true := by simp
      have hxx2 : (x2 == x2) = true := by simp
      go_wp2
      go_quiet (fail)
      go_wp2
      go_roundw
      case rel => exact ⟨k + 1, by omega, by go_num, _, rfl⟩
      case measure => simp [intOf]; omega
    · have hk' : k = S.length := by omega
      go_wp2
      go_ret
      exact ⟨rfl, below_step C1.out (drawn_below rfl)⟩

end Go.Proofs.YtgpbnbmjgcchfaaGreatDoor

/- The examples of layer 9 come out true. -/
namespace Go.Proofs.YtgpbnbmjgcchfaaGreatDoor
open Go.RowKit Go.Maps Go.BigFrame

theorem xs_lit1 (w : World) (a b : Int) : Xs (w.alloc (.cells #[.int .i64 a, .int .i64 b] 32)) (.slice (some ⟨w.heap.size, 0, none⟩) 1 1) [(a, b)] := by
  refine ⟨some ⟨w.heap.size, 0, none⟩, 1, rfl, Nat.le_refl _, by unfold maxLen; omega, fun _ => ⟨w.heap.size, 0, rfl, by simp, fun k x hk => ?_⟩⟩
  match k, hk with
  | 0, hk =>
    cases hk
    exact ⟨cell_new rfl, cell_new rfl⟩
  | k + 1, hk => simp at hk

theorem w_walk9 : walkR sumS [adR0, sumR1] [2, 1, 0, 1, 0] 9 = (([(0, 1), (1, 0)], [1, 1, 0], true), 0) := by
  unfold walkR
  rw [if_pos w_step1, if_neg (by omega), if_neg (by decide)]
  rw [show (9 : Int).toNat = 9 from rfl, w_go9]

theorem w_walk1 : walkR sumS [adR0, sumR1] [2, 1, 0, 1, 0] 1 = (([(0, 1)], [1, 2, 0, 1, 0], false), 0) := by
  unfold walkR
  rw [if_pos w_step1, if_neg (by omega), if_neg (by decide)]
  rw [show (1 : Int).toNat = 1 from rfl, w_go1]

theorem w_al1 : alongA sumS [adR0, sumR1] [2, 1, 0, 1, 0] [(0, 1), (1, 0)] = ([1, 1, 0], 0, 0) := by
  unfold alongA
  rw [if_pos w_step1, if_neg (by decide), w_along1]

theorem w_al2 : alongA sumS [adR0, sumR1] [2, 1, 0, 1, 0] [(0, 0)] = ([], 80, 0) := by
  unfold alongA
  rw [if_pos w_step1, if_neg (by decide), w_along2]

set_option maxRecDepth 100000 in
set_option maxHeartbeats 6400000 in
theorem shown9_any (w : World) (hT : Tabs w) :
    Calls Tryz.prog 16 #[] w fun e w' => e = .returned (.bool true) ∧ Below w.heap.size w w' := by
  have HT := hid hT
  clear hT
  go_enter Tryz.func16, Tryz.ntmps16
  go_wp2_with fail
  refine (adds_any _).mono ?_
  rintro e w1 ⟨sv, rv, rfl, hs, hr, hb1⟩
  have C1 := hid hb1
  obtain ⟨so, sc, e1, _⟩ := Row.flat hs
  obtain ⟨n1, hn1⟩ : ∃ n, n = sumS.length := ⟨_, rfl⟩
  rw [← hn1] at e1
  subst e1
  obtain ⟨ro, rc, e2, _⟩ := Row.flat hr
  obtain ⟨n2, hn2⟩ : ∃ n, n = [adR0, sumR1].length := ⟨_, rfl⟩
  rw [← hn2] at e2
  subst e2
  have HS := hid hs
  have HR := hid hr
  clear hn1 hn2 hs hr hb1
  obtain ⟨wS, hwS⟩ : ∃ X, X = w1.alloc (.cells #[.slice so n1 sc, .slice ro n2 rc] 25) := ⟨_, rfl⟩
  obtain ⟨w2, hw2⟩ : ∃ X, X = wS.alloc (.cells #[.int .i64 2, .int .i64 1, .int .i64 0, .int .i64 1, .int .i64 0] 3) := ⟨_, rfl⟩
  have B2 : Hid (Below w1.heap.size w1 w2) := by rw [hw2, hwS]; exact below_step (below_alloc _) (below_alloc _)
  have C2 := hid (below_step C1.out B2.out)
  have hsz : wS.heap.size = w1.heap.size + 1 := by rw [hwS]; simp
  have HL2 : Hid (Is w2 (.slice (some ⟨w1.heap.size + 1, 0, none⟩) 5 5) [2, 1, 0, 1, 0]) := by rw [hw2, ← hsz]; exact is_new wS [2, 1, 0, 1, 0] 3 (by decide) (by decide)
  have HC : Hid (∀ W, Below w2.heap.size w2 W → W.cell? ⟨w1.heap.size, 0, none⟩ = some (.slice so n1 sc) ∧ W.cell? ⟨w1.heap.size, 1, none⟩ = some (.slice ro n2 rc)) := fun W hW => by
    have hk := Kp.of_below hW
    rw [hw2, hwS] at hk
    exact ⟨hk.cell _ _ (cell_old (cell_new rfl)), hk.cell _ _ (cell_old (cell_new rfl))⟩
  rw [hwS] at hw2
  clear hwS hsz
  go_upto_region 3 with fail
  rw [← hw2]
  clear hw2
  obtain ⟨x0, x1⟩ := HC.out w2 (Below.refl _ _)
  have J2 := hid (Below.refl w2.heap.size w2)
  have HCl := hid (walk_any _ _ _ sumS [adR0, sumR1] [2, 1, 0, 1, 0] 9 w2 (HS.out.kp (Kp.of_below (below_step B2.out J2.out))) (HR.out.kp (Kp.of_below (below_step B2.out J2.out))) (HL2.out.kp (Kp.of_below J2.out)) (HT.out.below (below_step C2.out J2.out)) (by decide))
  rw [w_walk9] at HCl
  go_wp2_with fail
  refine HCl.out.mono ?_
  rintro e w3 ⟨s3, e3, rfl, hs3, _, he3, hb3⟩
  clear x0 x1 HCl
  obtain ⟨so3, sc3, q1, _⟩ := Row.flat hs3
  obtain ⟨a3, ha3⟩ : ∃ n, n = ([(0, 1), (1, 0)] : List Rx).length := ⟨_, rfl⟩
  rw [← ha3] at q1
  subst q1
  obtain ⟨eo3, ec3, q2, _⟩ := he3.flatI
  obtain ⟨b3, hbb3⟩ : ∃ n, n = ([1, 1, 0] : List Int).length := ⟨_, rfl⟩
  rw [← hbb3] at q2
  subst q2
  clear ha3 hbb3
  obtain ⟨w4, hw4⟩ : ∃ X, X = w3.alloc (.cells #[.slice so3 a3 sc3, .slice eo3 b3 ec3, .bool true] 47) := ⟨_, rfl⟩
  have b4b : Below w3.heap.size w3 w4 := by rw [hw4]; exact below_alloc _
  have HW3 : Hid (∀ W, Below w4.heap.size w4 W → W.cell? ⟨w3.heap.size, 0, none⟩ = some (.slice so3 a3 sc3) ∧ W.cell? ⟨w3.heap.size, 1, none⟩ = some (.slice eo3 b3 ec3) ∧ W.cell? ⟨w3.heap.size, 2, none⟩ = some (.bool true)) := fun W hW => by
    have hk := Kp.of_below hW
    rw [hw4] at hk
    exact ⟨hk.cell _ _ (cell_new rfl), hk.cell _ _ (cell_new rfl), hk.cell _ _ (cell_new rfl)⟩
  have HXs3 := hid (hs3.kp (Kp.of_below b4b))
  have HIs3 := hid (he3.kp (Kp.of_below b4b))
  have J4 := hid (below_step J2.out (below_step hb3 b4b))
  have K4 := hid (Below.refl w4.heap.size w4)
  clear hs3 he3 hb3 b4b
  obtain ⟨x0, x1⟩ := HC.out w4 J4.out
  go_upto_region 4 with fail
  rw [← hw4]
  clear hw4
  have HCl := hid (walk_any _ _ _ sumS [adR0, sumR1] [2, 1, 0, 1, 0] 1 w4 (HS.out.kp (Kp.of_below (below_step B2.out J4.out))) (HR.out.kp (Kp.of_below (below_step B2.out J4.out))) (HL2.out.kp (Kp.of_below J4.out)) (HT.out.below (below_step C2.out J4.out)) (by decide))
  rw [w_walk1] at HCl
  go_wp2_with fail
  refine HCl.out.mono ?_
  rintro e w5 ⟨s5, e5, rfl, hs5, _, he5, hb5⟩
  clear x0 x1 HCl
  obtain ⟨so5, sc5, q1, _⟩ := Row.flat hs5
  obtain ⟨a5, ha5⟩ : ∃ n, n = ([(0, 1)] : List Rx).length := ⟨_, rfl⟩
  rw [← ha5] at q1
  subst q1
  obtain ⟨eo5, ec5, q2, _⟩ := he5.flatI
  obtain ⟨b5, hbb5⟩ : ∃ n, n = ([1, 2, 0, 1, 0] : List Int).length := ⟨_, rfl⟩
  rw [← hbb5] at q2
  subst q2
  clear ha5 hbb5
  obtain ⟨w6, hw6⟩ : ∃ X, X = w5.alloc (.cells #[.slice so5 a5 sc5, .slice eo5 b5 ec5, .bool false] 47) := ⟨_, rfl⟩
  have b6b : Below w5.heap.size w5 w6 := by rw [hw6]; exact below_alloc _
  have HW5 : Hid (∀ W, Below w6.heap.size w6 W → W.cell? ⟨w5.heap.size, 0, none⟩ = some (.slice so5 a5 sc5) ∧ W.cell? ⟨w5.heap.size, 1, none⟩ = some (.slice eo5 b5 ec5) ∧ W.cell? ⟨w5.heap.size, 2, none⟩ = some (.bool false)) := fun W hW => by
    have hk := Kp.of_below hW
    rw [hw6] at hk
    exact ⟨hk.cell _ _ (cell_new rfl), hk.cell _ _ (cell_new rfl), hk.cell _ _ (cell_new rfl)⟩
  have HXs5 := hid (hs5.kp (Kp.of_below b6b))
  have HIs5 := hid (he5.kp (Kp.of_below b6b))
  have J6 := hid (below_step J4.out (below_step hb5 b6b))
  have K46 := hid (below_step hb5 b6b)
  clear hs5 he5 hb5 b6b
  obtain ⟨x0, x1⟩ := HC.out w6 J6.out
  go_upto_region 5 with fail
  rw [← hw6]
  clear hw6
  obtain ⟨w7, hw7⟩ : ∃ X, X = w6.alloc (.cells #[.int .i64 0, .int .i64 1, .int .i64 1, .int .i64 0] 32) := ⟨_, rfl⟩
  have b7b : Below w6.heap.size w6 w7 := by rw [hw7]; exact below_alloc _
  have HX7 : Hid (Xs w7 (.slice (some ⟨w6.heap.size, 0, none⟩) 2 2) [(0, 1), (1, 0)]) := by rw [hw7]; exact xs_lit2 _ _ _ _ _
  have J7 := hid (below_step J6.out b7b)
  have HCl := hid (along_any _ _ _ _ sumS [adR0, sumR1] [2, 1, 0, 1, 0] [(0, 1), (1, 0)] w7 (HS.out.kp (Kp.of_below (below_step B2.out J7.out))) (HR.out.kp (Kp.of_below (below_step B2.out J7.out))) (HL2.out.kp (Kp.of_below J7.out)) HX7.out (by intro y hy; simp only [List.mem_cons, List.not_mem_nil, or_false] at hy; rcases hy with rfl | rfl <;> decide) (HT.out.below (below_step C2.out J7.out)) (by decide))
  rw [w_al1] at HCl
  have K67 := hid b7b
  clear b7b
  go_wp2_with fail
  rw [← hw7]
  clear hw7
  refine HCl.out.mono ?_
  rintro e w8 ⟨v8, rfl, o8, hb8⟩
  have HO8 := hid o8.is
  have J8 := hid (below_step J7.out hb8)
  have HB8 := hid hb8
  clear o8 hb8 x0 x1 HCl
  obtain ⟨x0, x1⟩ := HC.out w8 J8.out
  go_upto_region 6 with fail
  obtain ⟨w9, hw9⟩ : ∃ X, X = w8.alloc (.cells #[.int .i64 0, .int .i64 0] 32) := ⟨_, rfl⟩
  have b9b : Below w8.heap.size w8 w9 := by rw [hw9]; exact below_alloc _
  have HX9 : Hid (Xs w9 (.slice (some ⟨w8.heap.size, 0, none⟩) 1 1) [(0, 0)]) := by rw [hw9]; exact xs_lit1 _ _ _
  have J9 := hid (below_step J8.out b9b)
  have HCl := hid (along_any _ _ _ _ sumS [adR0, sumR1] [2, 1, 0, 1, 0] [(0, 0)] w9 (HS.out.kp (Kp.of_below (below_step B2.out J9.out))) (HR.out.kp (Kp.of_below (below_step B2.out J9.out))) (HL2.out.kp (Kp.of_below J9.out)) HX9.out (by intro y hy; simp only [List.mem_cons, List.not_mem_nil, or_false] at hy; subst hy <;> decide) (HT.out.below (below_step C2.out J9.out)) (by decide))
  rw [w_al2] at HCl
  have K89 := hid b9b
  clear b9b
  go_wp2_with fail
  rw [← hw9]
  clear hw9
  refine HCl.out.mono ?_
  rintro e w10 ⟨v10, rfl, o10, hb10⟩
  have HO10 := hid o10.is
  have J10 := hid (below_step J9.out hb10)
  have HB10 := hid hb10
  clear o10 hb10 x0 x1 HCl
  have K8 := hid (below_step K89.out HB10.out)
  have K6 := hid (below_step (below_step K67.out HB8.out) K8.out)
  have K4 := hid (below_step K46.out K6.out)
  obtain ⟨y0, y1, y2⟩ := HW3.out w10 K4.out
  obtain ⟨w11, hw11⟩ : ∃ X, X = w10.alloc (.cells #[.int .i64 0, .int .i64 1, .int .i64 1, .int .i64 0] 32) := ⟨_, rfl⟩
  obtain ⟨w12, hw12⟩ : ∃ X, X = w11.alloc (.cells #[.int .i64 1, .int .i64 1, .int .i64 0] 3) := ⟨_, rfl⟩
  have b11b : Below w10.heap.size w10 w11 := by rw [hw11]; exact below_alloc _
  have b12b : Below w11.heap.size w11 w12 := by rw [hw12]; exact below_alloc _
  have HX11 : Hid (Xs w12 (.slice (some ⟨w10.heap.size, 0, none⟩) 2 2) [(0, 1), (1, 0)]) := by
    have h9 : Xs w11 (.slice (some ⟨w10.heap.size, 0, none⟩) 2 2) [(0, 1), (1, 0)] := by rw [hw11]; exact xs_lit2 _ _ _ _ _
    exact h9.kp (Kp.of_below b12b)
  have hsz : w11.heap.size = w10.heap.size + 1 := by rw [hw11]; simp
  have HE11 : Hid (Is w12 (.slice (some ⟨w10.heap.size + 1, 0, none⟩) 3 3) [1, 1, 0]) := by rw [hw12, ← hsz]; exact is_new w11 [1, 1, 0] 3 (by decide) (by decide)
  have L12 := hid (below_step b11b b12b)
  have HCl := hid (same9_any _ _ _ _ [(0, 1), (1, 0)] [1, 1, 0] true w12 (HXs3.out.kp (Kp.of_below (below_step K4.out L12.out))) HX11.out (HIs3.out.kp (Kp.of_below (below_step K4.out L12.out))) HE11.out)
  rw [hw11] at hw12
  clear b11b b12b hsz hw11
  go_wp2_with fail
  rw [← hw12]
  clear hw12
  refine HCl.out.mono ?_
  rintro e w13 ⟨rfl, hb13⟩
  have L13 := hid (below_step L12.out hb13)
  have K6 := hid (below_step K6.out L13.out)
  have K8 := hid (below_step K8.out L13.out)
  have J13 := hid (below_step J10.out L13.out)
  clear hb13 HCl y0 y1 y2
  obtain ⟨y0, y1, y2⟩ := HW5.out w13 K6.out
  obtain ⟨w14, hw14⟩ : ∃ X, X = w13.alloc (.cells #[.int .i64 0, .int .i64 1] 32) := ⟨_, rfl⟩
  obtain ⟨w15, hw15⟩ : ∃ X, X = w14.alloc (.cells #[.int .i64 1, .int .i64 2, .int .i64 0, .int .i64 1, .int .i64 0] 3) := ⟨_, rfl⟩
  have b14b : Below w13.heap.size w13 w14 := by rw [hw14]; exact below_alloc _
  have b15b : Below w14.heap.size w14 w15 := by rw [hw15]; exact below_alloc _
  have HX14 : Hid (Xs w15 (.slice (some ⟨w13.heap.size, 0, none⟩) 1 1) [(0, 1)]) := by
    have h9 : Xs w14 (.slice (some ⟨w13.heap.size, 0, none⟩) 1 1) [(0, 1)] := by rw [hw14]; exact xs_lit1 _ _ _
    exact h9.kp (Kp.of_below b15b)
  have hsz : w14.heap.size = w13.heap.size + 1 := by rw [hw14]; simp
  have HE14 : Hid (Is w15 (.slice (some ⟨w13.heap.size + 1, 0, none⟩) 5 5) [1, 2, 0, 1, 0]) := by rw [hw15, ← hsz]; exact is_new w14 [1, 2, 0, 1, 0] 3 (by decide) (by decide)
  have L15 := hid (below_step b14b b15b)
  have HCl := hid (same9_any _ _ _ _ [(0, 1)] [1, 2, 0, 1, 0] false w15 (HXs5.out.kp (Kp.of_below (below_step K6.out L15.out))) HX14.out (HIs5.out.kp (Kp.of_below (below_step K6.out L15.out))) HE14.out)
  rw [hw14] at hw15
  clear b14b b15b hsz hw14
  go_wp2_with fail
  rw [← hw15]
  clear hw15
  refine HCl.out.mono ?_
  rintro e w16 ⟨rfl, hb16⟩
  have L16 := hid (below_step L15.out hb16)
  have K8 := hid (below_step K8.out L16.out)
  have J16 := hid (below_step J13.out L16.out)
  clear hb16 HCl y0 y1 y2
  obtain ⟨w17, hw17⟩ : ∃ X, X = w16.alloc (.cells #[.int .i64 1, .int .i64 1, .int .i64 0] 3) := ⟨_, rfl⟩
  have b17b : Below w16.heap.size w16 w17 := by rw [hw17]; exact below_alloc _
  have HE17 : Hid (Is w17 (.slice (some ⟨w16.heap.size, 0, none⟩) 3 3) [1, 1, 0]) := by rw [hw17]; exact is_new w16 [1, 1, 0] 3 (by decide) (by decide)
  have HCl := hid (sameRow9_any _ _ [1, 1, 0] [1, 1, 0] w17 (HO8.out.kp (Kp.of_below (below_step K8.out b17b))) HE17.out)
  have J17 := hid (below_step J16.out b17b)
  clear b17b
  go_wp2_with fail
  rw [← hw17]
  clear hw17
  refine HCl.out.mono ?_
  rintro e w18 ⟨rfl, n18, hw18⟩
  have J18 := hid (below_step J17.out (drawn_below hw18))
  clear hw18 HCl
  rw [decide_eq_true trivial]
  go_wp2
  go_ret
  exact ⟨rfl, below_step C2.out J18.out⟩

end Go.Proofs.YtgpbnbmjgcchfaaGreatDoor

/- What Walk answers, plainly. -/
namespace Go.Proofs.YtgpbnbmjgcchfaaGreatDoor
open Go.RowKit Go.Maps Go.BigFrame

theorem walk_few (sig : List Sy) (rs : List Rl) (t : List Int) (m : Int) : (walkR sig rs t m).1.2.1.length ≤ 512 := by
  unfold walkR
  by_cases he : stepE sig rs t = 0
  · rw [if_pos he]
    by_cases h1 : m < 0 ∨ 4096 < m
    · rw [if_pos h1]
      simp
    · rw [if_neg h1]
      by_cases h2 : 512 < t.length
      · rw [if_pos h2]
        simp
      · rw [if_neg h2]
        cases hg : goW sig rs m.toNat t with
        | none => simp
        | some r => exact (go_end m.toNat t r.1 r.2.1 r.2.2 he (by omega) hg).2.2.2.2
  · rw [if_neg he]
    simp

/-- What Walk answers of a right term: ErrTooBig, or a path. -/
theorem walk_two {sig : List Sy} {rs : List Rl} {t : List Int} {n : Nat} (he : stepE sig rs t = 0) (hn : n ≤ 4096) : walkR sig rs t (n : Int) = (([], [], false), 2) ∨ (t.length ≤ 512 ∧ ∃ S E b, walkR sig rs t (n : Int) = ((S, E, b), 0) ∧ goW sig rs n t = some (S, E, b)) := by
  unfold walkR
  rw [if_pos he, if_neg (by omega)]
  by_cases h2 : 512 < t.length
  · rw [if_pos h2]
    exact .inl rfl
  · rw [if_neg h2, Int.toNat_natCast]
    cases hg : goW sig rs n t with
    | none => exact .inl rfl
    | some r => exact .inr ⟨by omega, r.1, r.2.1, r.2.2, rfl, rfl⟩

theorem walk_of {sig : List Sy} {rs : List Rl} {t : List Int} {n : Nat} {S : List Rx} {E : List Int} {b : Bool} (he : stepE sig rs t = 0) (hn : n ≤ 4096) (ht : t.length ≤ 512) (hg : goW sig rs n t = some (S, E, b)) : walkR sig rs t (n : Int) = ((S, E, b), 0) := by
  unfold walkR
  rw [if_pos he, if_neg (by omega), if_neg (by omega), Int.toNat_natCast, hg]

end Go.Proofs.YtgpbnbmjgcchfaaGreatDoor

/- WalkNamed walked. -/
namespace Go.Proofs.YtgpbnbmjgcchfaaGreatDoor
open Go.RowKit Go.Maps Go.BigFrame

theorem walk_mov {sig : List Sy} {rs : List Rl} {d : Int} {t : List Int} (he : stepE sig rs t = 0) (ho : okShift d t = true) (m : Int) :
    walkR sig rs (movL d t) m = (((walkR sig rs t m).1.1, movL d (walkR sig rs t m).1.2.1, (walkR sig rs t m).1.2.2), (walkR sig rs t m).2) ∧ okShift d (walkR sig rs t m).1.2.1 = true := by
  have hem := stepE_of he (mov_row ho (term_parts (stepE_zero he).2).2)
  unfold walkR
  rw [if_pos he, if_pos hem, mov_len]
  by_cases h1 : m < 0 ∨ 4096 < m
  · rw [if_pos h1, if_pos h1]
    exact ⟨rfl, rfl⟩
  · rw [if_neg h1, if_neg h1]
    by_cases h2 : 512 < t.length
    · rw [if_pos h2, if_pos h2]
      exact ⟨rfl, rfl⟩
    · rw [if_neg h2, if_neg h2]
      obtain ⟨g1, g2⟩ := go_mov m.toNat t he ho
      rw [g1]
      cases hg : goW sig rs m.toNat t with
      | none => exact ⟨rfl, rfl⟩
      | some r => exact ⟨rfl, g2 r hg⟩

set_option maxRecDepth 100000 in
set_option maxHeartbeats 6400000 in
theorem walkNamed_any (sv rv tv : Value) (s : List Sy) (a : List Rl) (t : List Int) (d : Int) (w : World) (hs : Sg w sv s) (ha : RU w rv a) (ht : Is w tv t) (hT : Tabs w) (htl : t.length ≤ 1048576) (hd1 : -9223372036854775808 ≤ d) (hd2 : d ≤ 9223372036854775807) :
    Calls Tryz.prog 6 #[.agg #[sv, rv], tv, .int .i64 d] w fun e w' => e = .returned (.bool true) ∧ Below w.heap.size w w' := by
  obtain ⟨so, sc, rfl, hso, hsc, _⟩ := Row.flat hs
  obtain ⟨ao, ac, rfl, hao, hac, _⟩ := Row.flat ha
  have HS := hid hs
  have HA := hid ha
  have HTt := hid ht
  have HT := hid hT
  clear hs ha ht hT
  obtain ⟨wA, hwA⟩ : ∃ X, X = w.alloc (.cells #[.slice so s.length sc, .slice ao a.length ac] 25) := ⟨_, rfl⟩
  have CA : Hid (Below w.heap.size w wA) := by rw [hwA]; exact below_alloc _
  have HC : Hid (∀ W, Below wA.heap.size wA W → W.cell? ⟨w.heap.size, 0, none⟩ = some (.slice so s.length sc) ∧ W.cell? ⟨w.heap.size, 1, none⟩ = some (.slice ao a.length ac)) := fun W hW => by
    have hk := Kp.of_below hW
    rw [hwA] at hk
    exact ⟨hk.cell _ _ (cell_new rfl), hk.cell _ _ (cell_new rfl)⟩
  have HWk : Hid (∀ W (v : Value) (u : List Int) (m : Int), Below w.heap.size w W → Is W v u → u.length ≤ 1048576 → Calls Tryz.prog 20 #[.agg #[.slice so s.length sc, .slice ao a.length ac], v, .int .i64 m] W fun e w' => ∃ Sv Ev, e = .returned (.tuple #[.agg #[Sv, Ev, .bool (walkR s a u m).1.2.2], .int .i64 (walkR s a u m).2]) ∧ Xs w' Sv (walkR s a u m).1.1 ∧ RxOk (walkR s a u m).1.1 ∧ Is w' Ev (walkR s a u m).1.2.1 ∧ Below W.heap.size W w') := fun W v u m hW hv hu =>
    walk_any _ _ _ s a u m W (HS.out.kp (Kp.of_below hW)) (HA.out.kp (Kp.of_below hW)) hv (HT.out.below hW) hu
  go_enter Tryz.func6, Tryz.ntmps6
  go_wp2_with fail
  rw [← hwA]
  clear hwA
  refine (shown9_any wA (HT.out.below CA.out)).mono ?_
  rintro e w1 ⟨rfl, hb1⟩
  have D1 := hid hb1
  have C1 := hid (below_step CA.out hb1)
  clear hb1
  obtain ⟨x0, x1⟩ := HC.out w1 D1.out
  go_wp2_with fail
  refine (refRight_any _ _ s a w1 (HS.out.kp (Kp.of_below C1.out)) (HA.out.kp (Kp.of_below C1.out))).mono ?_
  rintro e w2 ⟨rfl, hb2⟩
  have D2 := hid (below_step D1.out hb2)
  have C2 := hid (below_step C1.out hb2)
  clear hb2 x0 x1
  obtain ⟨x0, x1⟩ := HC.out w2 D2.out
  go_wp2_with fail
  refine (refCheck_any _ _ s t w2 (HS.out.kp (Kp.of_below C2.out)) (HTt.out.kp (Kp.of_below C2.out)) (by omega)).mono ?_
  rintro e w3 ⟨rfl, hb3⟩
  have D3 := hid (below_step D2.out hb3)
  have C3 := hid (below_step C2.out hb3)
  clear hb3 x0 x1
  go_wp2_with fail
  refine (refShift_any _ t d w3 (HTt.out.kp (Kp.of_below C3.out)) (by omega) hd1 hd2).mono ?_
  rintro e w4 ⟨v4, rfl, o4, hb4⟩
  have HO4 := hid o4.is
  have D4 := hid (below_step D3.out hb4)
  have C4 := hid (below_step C3.out hb4)
  clear o4 hb4
  by_cases hB : sysB s a = true
  · rw [hB]
    by_cases hE : termE s t = 0
    · rw [hE]
      by_cases hF : okShift d t = true
      · obtain ⟨f1, f2⟩ := mov_ok hF
        rw [f2] at HO4
        rw [f1]
        have he : stepE s a t = 0 := by
          unfold stepE
          rw [if_pos (by simpa [sysB] using hB)]
          exact hE
        obtain ⟨W1, W2⟩ := walk_mov he hF 60
        have HW1 := hid W1
        have HW2 := hid W2
        have hml := mov_len d t
        obtain ⟨M, hM⟩ : ∃ M, M = movL d t := ⟨_, rfl⟩
        rw [← hM] at HO4 HW1 hml
        obtain ⟨X, hX⟩ : ∃ X, X = walkR s a t 60 := ⟨_, rfl⟩
        rw [← hX] at HW1 HW2
        have HXe := hid hX
        obtain ⟨⟨S, E, b⟩, e0⟩ := X
        simp only at HW1 HW2
        have HMl := hid (show M.length ≤ 1048576 by omega)
        clear hB hE hF f1 f2 he W1 W2 hM hX hml
        obtain ⟨x0, x1⟩ := HC.out w4 D4.out
        have HCl := hid (HWk.out w4 tv t 60 C4.out (HTt.out.kp (Kp.of_below C4.out)) htl)
        rw [← HXe.out] at HCl
        simp only at HCl
        go_wp2_with fail
        refine HCl.out.mono ?_
        rintro e w5 ⟨s5, e5, rfl, hs5, _, he5, hb5⟩
        clear x0 x1 HCl
        obtain ⟨so5, sc5, q1, hsc15, hsc25, _⟩ := Row.flat hs5
        subst q1
        unfold maxLen at hsc25
        obtain ⟨eo5, ec5, q2, hec15, hec25, _⟩ := he5.flatI
        subst q2
        obtain ⟨w6, hw6⟩ : ∃ X, X = w5.alloc (.cells #[.slice so5 S.length sc5, .slice eo5 E.length ec5, .bool b] 47) := ⟨_, rfl⟩
        have b6b : Below w5.heap.size w5 w6 := by rw [hw6]; exact below_alloc _
        have HB5 : Hid (∀ W, Below w6.heap.size w6 W → W.cell? ⟨w5.heap.size, 0, none⟩ = some (.slice so5 S.length sc5) ∧ W.cell? ⟨w5.heap.size, 1, none⟩ = some (.slice eo5 E.length ec5) ∧ W.cell? ⟨w5.heap.size, 2, none⟩ = some (.bool b)) := fun W hW => by
          have hk := Kp.of_below hW
          rw [hw6] at hk
          exact ⟨hk.cell _ _ (cell_new rfl), hk.cell _ _ (cell_new rfl), hk.cell _ _ (cell_new rfl)⟩
        have HX5 := hid (hs5.kp (Kp.of_below b6b))
        have HI5 := hid (he5.kp (Kp.of_below b6b))
        have J46 := hid (below_step hb5 b6b)
        have D6 := hid (below_step D4.out J46.out)
        have C6 := hid (below_step C4.out J46.out)
        clear hs5 he5 hb5 b6b
        obtain ⟨x0, x1⟩ := HC.out w6 D6.out
        have HCl := hid (HWk.out w6 v4 M 60 C6.out (HO4.out.kp (Kp.of_below J46.out)) HMl.out)
        rw [HW1.out] at HCl
        simp only at HCl
        go_upto_region 8 with fail
        rw [← hw6]
        clear hw6
        go_wp2_with fail
        refine HCl.out.mono ?_
        rintro e w7 ⟨s7, e7, rfl, hs7, _, he7, hb7⟩
        clear x0 x1 HCl
        obtain ⟨so7, sc7, q1, hsc17, hsc27, _⟩ := Row.flat hs7
        subst q1
        unfold maxLen at hsc27
        obtain ⟨eo7, ec7, q2, hec17, hec27, _⟩ := he7.flatI
        subst q2
        obtain ⟨w8, hw8⟩ : ∃ X, X = w7.alloc (.cells #[.slice so7 S.length sc7, .slice eo7 (movL d E).length ec7, .bool b] 47) := ⟨_, rfl⟩
        have b8b : Below w7.heap.size w7 w8 := by rw [hw8]; exact below_alloc _
        have HB7 : Hid (∀ W, Below w8.heap.size w8 W → W.cell? ⟨w7.heap.size, 0, none⟩ = some (.slice so7 S.length sc7) ∧ W.cell? ⟨w7.heap.size, 1, none⟩ = some (.slice eo7 (movL d E).length ec7) ∧ W.cell? ⟨w7.heap.size, 2, none⟩ = some (.bool b)) := fun W hW => by
          have hk := Kp.of_below hW
          rw [hw8] at hk
          exact ⟨hk.cell _ _ (cell_new rfl), hk.cell _ _ (cell_new rfl), hk.cell _ _ (cell_new rfl)⟩
        have HX7 := hid (hs7.kp (Kp.of_below b8b))
        have HI7 := hid (he7.kp (Kp.of_below b8b))
        have J68 := hid (below_step hb7 b8b)
        have D8 := hid (below_step D6.out J68.out)
        have C8 := hid (below_step C6.out J68.out)
        clear hs7 he7 hb7 b8b
        have HX58 := hid (HX5.out.kp (Kp.of_below J68.out))
        have HI58 := hid (HI5.out.kp (Kp.of_below J68.out))
        have HEl := hid (show E.length ≤ 512 by have h9 := walk_few s a t 60; rw [← HXe.out] at h9; exact h9)
        go_upto_region 9 with fail
        rw [← hw8]
        clear hw8
        have y := (HB5.out w8 J68.out)
        obtain ⟨y0, y1, y2⟩ := y
        obtain ⟨z0, z1, z2⟩ := HB7.out w8 (Below.refl _ _)
        have ff : (e0 != e0) = false := by simp
        have fl : ((S.length : Int) != (S.length : Int)) = false := by simp
        have fb : (b != b) = false := by simp
        go_wp2
        go_loopw [16] (fun iv wr => ∃ k : Nat, k ≤ S.length ∧ iv = .int .i64 k ∧ ∃ n, wr = w8.drewN n) (fun iv _ => S.length - (intOf iv).toNat)
        case atStart => exact ⟨0, Nat.zero_le _, rfl, 0, rfl⟩
        case round =>
          obtain ⟨k, hk, rfl, n, rfl⟩ := hrel
          by_cases hlt : k < S.length
          · obtain ⟨g, off, p1, p2, rfl, hp, hc0, hc1⟩ := HX58.out.at hlt
            obtain ⟨g', off', q1, q2, rfl, hq, hd0, hd1⟩ := HX7.out.at hlt
            rw [hp] at hq
            simp only [Option.some.injEq, Prod.mk.injEq] at hq
            obtain ⟨rfl, rfl⟩ := hq
            clear hp
            have hxx : (p1 == p1) = true := by simp
            have hxx2 : (p2 == p2) = true := by simp
            go_wp2
            go_quiet (fail)
            go_wp2
            go_roundw
            case rel => exact ⟨k + 1, by omega, by go_num, _, rfl⟩
            case measure => simp [intOf]; omega
          · have hk' : k = S.length := by omega
            have Jn := hid (drawn_below (w := w8) (n := n) rfl)
            have y0' := (Kp.of_below Jn.out).cell _ _ y0
            have y1' := (Kp.of_below Jn.out).cell _ _ y1
            have z1' := (Kp.of_below Jn.out).cell _ _ z1
            obtain ⟨w9, hw9⟩ : ∃ X, X = w8.drewN n := ⟨_, rfl⟩
            rw [← hw9] at Jn y0' y1' z1' ⊢
            clear hw9 y0 y1 y2 z0 z1 z2
            have HCl := hid (refShift_any _ E d w9 (HI58.out.kp (Kp.of_below Jn.out)) (by have := HEl.out; omega) hd1 hd2)
            obtain ⟨f1, f2⟩ := mov_ok HW2.out
            rw [f1, f2] at HCl
            clear f1 f2
            go_wp2_with fail
            refine HCl.out.mono ?_
            rintro e w10 ⟨v10, rfl, o10, hb10⟩
            have HO10 := hid o10.is
            have J10 := hid hb10
            have z1' := (Kp.of_below hb10).cell _ _ z1'
            clear o10 hb10 HCl
            go_wp2_with fail
            refine (sameRow9_any _ _ _ _ w10 HO10.out (HI7.out.kp (Kp.of_below (below_step Jn.out J10.out)))).mono ?_
            rintro e w11 ⟨rfl, n11, hw11⟩
            have J11 := hid (drawn_below hw11)
            clear hw11
            rw [decide_eq_true rfl]
            go_wp2
            go_ret
            exact ⟨rfl, below_step C8.out (below_step Jn.out (below_step J10.out J11.out))⟩
      · have hne : (shiftE d t != 0) = true := by rw [mov_no hF]; rfl
        go_wp2
        go_ret
        exact ⟨rfl, C4.out⟩
    · have hne : (termE s t != 0) = true := by rw [bne_iff_ne]; exact hE
      go_wp2
      go_ret
      exact ⟨rfl, C4.out⟩
  · have hB2 : sysB s a = false := by simpa using hB
    rw [hB2]
    go_wp2
    go_ret
    exact ⟨rfl, C4.out⟩

end Go.Proofs.YtgpbnbmjgcchfaaGreatDoor
