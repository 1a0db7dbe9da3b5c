/- A text of the proof. -/
import Derived.Test.YtdjmjhlbjcgoiaaGreatDoorOwn26
set_option maxRecDepth 1000000
set_option maxHeartbeats 6400000
namespace Go.Proofs.YtdjmjhlbjcgoiaaGreatDoor
open Go.RowKit Go.Maps Go.BigFrame

theorem tkH {P : Program} {ops : Array Oper} {Q : Exit → Act → World → Prop} {md : Region.Mode} {S : World → Prop} (i : Nat) {oi : Oper} (v : Value) {fuel : Nat} {listed : Array Bool} {a : Act} {w : World} (hS : S w) (h : wpAnyH P md ops Q S fuel (listed.setIfInBounds i true) (a.put oi.dst v) w) (hi : ops[i]? = some oi := by rfl) (hs : Region.noSelect ops = true := by kernel_rfl) (hf : Region.free md ops listed i = true := by kernel_rfl) (hr : (Region.ready md ops listed).contains i = true := by kernel_rfl) (hQ : ∀ c a w, Q (.panic c) (a.put oi.dst v) w → Q (.panic c) a w := by exact fun _ _ _ h => h) (hy : YieldsIf P ops S oi v a := by exact Or.inl ⟨by kernel_rfl, fun w' h => by go_simp⟩) : wpAnyH P md ops Q S (fuel + 1) listed a w := wpAnyH_take hi hs hf hr hQ hy hS h
theorem tkR {P : Program} {ops : Array Oper} {Q : Exit → Act → World → Prop} {md : Region.Mode} {S : World → Prop} (i : Nat) {fuel : Nat} {listed : Array Bool} {a : Act} {w : World} (h : AllReadyH P md ops Q S fuel listed a w [i]) (hr : Region.ready md ops listed = [i] := by kernel_rfl) : wpAnyH P md ops Q S (fuel + 1) listed a w := wpAnyH_ready hr (by simp) h

def exP : List Mn := [([2], []), ([1], [0, 1]), ([2], [1])]
theorem ex12_1a : ofPE sumS (worthL 2) [2, 1, -7, -3] = 0 := by decide +kernel
theorem ex12_1b : ofPL sumS (worthL 2) [2, 1, -7, -3] = exP := by decide +kernel
theorem ex12_2a : fallE sumS (worthL 2) [2, 1, -1, -2] [1, 2, -1, -2] = 0 := by decide +kernel
theorem ex12_2b : fallN sumS (worthL 2) [2, 1, -1, -2] [1, 2, -1, -2] = 2 := by decide +kernel
theorem ex12_3a : fallE sumS (worthL 1) [2, 1, -1, -2] [1, 2, -1, -2] = 0 := by decide +kernel
theorem ex12_3b : fallN sumS (worthL 1) [2, 1, -1, -2] [1, 2, -1, -2] = 1 := by decide +kernel
theorem ex12_4a : fallE sumS (worthL 2) [0] [-1] = 0 := by decide +kernel
theorem ex12_4b : fallN sumS (worthL 2) [0] [-1] = 0 := by decide +kernel
theorem ex12_5 : inE sumS ((worthL 2).take 2) = 120 := by decide +kernel
theorem ex12_6 : inE sumS (worthL 2 ++ [(2, [([1], [0, 1]), ([2], [1])])]) = 120 := by decide +kernel
theorem ex12_7 : inE sumS (worthL 1) = 0 := by decide +kernel
theorem ex12_8 : strB sumS (worthL 2) = true := by decide +kernel
theorem ex12_9 : strB sumS ((worthL 2).take 2 ++ [(2, [([1], [1])])]) = false := by decide +kernel
set_option maxHeartbeats 25600000 in
theorem shown12_any (w : World) (hT : Tabs w) :
  Calls Tryz.prog 9 #[] w fun e w' => e = .returned (.bool true) ∧ Below w.heap.size w w' := by
 have HT := hid hT
 clear hT
 go_enter Tryz.func9, Tryz.ntmps9
 go_wp2_with fail
 refine (sums12_any w).mono ?_
 rintro e w1 ⟨sv, rv, rfl, hs, hr, hb1⟩
 obtain ⟨so, sc, rfl, hso, hsc, hs0⟩ := Row.flat hs
 obtain ⟨gs, os, _, rfl, _, _⟩ := hs0 0 (by decide)
 obtain ⟨rao, rcap, rfl, hro, hrc, hr0⟩ := Row.flat hr
 obtain ⟨rg, ro, _, rfl, _, _⟩ := hr0 0 (by decide)
 unfold maxLen at hsc hrc
 obtain ⟨wk, hwk⟩ : ∃ X, X = w1.alloc (.cells #[.slice (some ⟨gs, os, none⟩) sumS.length sc, .slice (some ⟨rg, ro, none⟩) 2 rcap] 64) := ⟨_, rfl⟩
 have hb2 : Below w1.heap.size w1 wk := by rw [hwk]; exact zA _
 have c0 : Hid (wk.cell? ⟨w1.heap.size, 0, none⟩ = some (.slice (some ⟨gs, os, none⟩) sumS.length sc)) := by show _ = _; rw [hwk]; exact xAB rfl
 have c1 : Hid (wk.cell? ⟨w1.heap.size, 1, none⟩ = some (.slice (some ⟨rg, ro, none⟩) 2 rcap)) := by show _ = _; rw [hwk]; exact xAB rfl
 have Bw := hid (zS hb1 hb2)
 have HS := hid (hs.kp (zK hb2))
 have HR := hid (hr.kp (zK hb2))
 clear hs hr hb1
 go_upto_region 2 with fail
 rw [← hwk]
 clear hwk hb2
 generalize w1.heap.size = gb at c0 c1 ⊢
 go_cut [2, 3] from 14 (fun x y wx => y = .int .i64 0 ∧ (∃ a c, x = .slice a exP.length c) ∧ Ms wx x exP ∧ Below wk.heap.size wk wx)
 case first =>
  dsimp +zetaDelta only
  as_aux_lemma =>
   have hS : Kp wk wk.drew := zK (xAG wk)
   refine wp_region_held_drew (S := fun w' => Kp wk w') (by kernel_rfl) hS (fun _ => ?_)
   obtain ⟨x0, hx0⟩ : ∃ X, X = wk.drew := ⟨_, rfl⟩
   have b0 : Below wk.heap.size wk x0 := by rw [hx0]; exact xAG wk
   rw [← hx0] at hS ⊢
   clear hx0
   refine tkH 0 (.pointer (some ⟨gb, 0, none⟩)) hS ?_
   (try simp only [Act.put]);(try simp only [sA]);(try simp only [sB,sC])
   refine tkH 1 (.slice (some ⟨gs, os, none⟩) sumS.length sc) hS (hy := Or.inl ⟨by kernel_rfl, fun w' h => by have hh0 := h.cell _ _ c0.out; go_simp⟩) ?_
   (try simp only [Act.put]);(try simp only [sA]);(try simp only [sB,sC])
   refine wpAnyH_ready (rs := [2, 3]) (by kernel_rfl) (by simp) (AllReadyH.cons rfl (fun K hK => ?_) (AllReadyH.cons rfl (fun K hK => ?_) AllReadyH.nil))
   ·skip
    go_simp
    refine (xAH 2 x0 (by decide)).mono ?_
    rintro e x1 ⟨ga1, v0a, v1a, v2a, rfl, hoa, hea, jx1⟩
    have kx1 : Kp wk x1 := hS.trans (zK jx1)
    refine hK.out _ _ kx1 (fun _ => ?_)
    replace hS := kx1
    clear hK K kx1
    (try simp only [Act.put]);(try simp only [sA]);(try simp only [sB,sC])
    have hbsa : w.heap.size ≤ x0.heap.size := Nat.le_trans Bw.out.size b0.size
    refine tkR 3 (AllReadyH.cons rfl (fun K hK => ?_) AllReadyH.nil)
    go_simp
    have jx2 := zA (w := x1) (.cells #[.int .i64 2, .int .i64 1, .int .i64 (-7), .int .i64 (-3)] 3)
    have la := is_new x1 [2, 1, -7, -3] 3 (by decide) (by decide)
    obtain ⟨x2, hx2⟩ : ∃ X, X = x1.alloc (.cells #[.int .i64 2, .int .i64 1, .int .i64 (-7), .int .i64 (-3)] 3) := ⟨_, rfl⟩
    rw [← hx2] at jx2 ⊢
    change Is (x1.alloc (.cells #[.int .i64 2, .int .i64 1, .int .i64 (-7), .int .i64 (-3)] 3)) (.slice (some ⟨x1.heap.size, 0, none⟩) 4 4) _ at la
    rw [← hx2] at la
    clear hx2
    have kx2 : Kp wk x2 := hS.trans (zK jx2)
    refine hK.out _ _ kx2 (fun _ => ?_)
    replace hS := kx2
    clear hK K kx2
    (try simp only [Act.put]);(try simp only [sA]);(try simp only [sB,sC])
    refine tkR 4 (AllReadyH.cons rfl (fun K hK => ?_) AllReadyH.nil)
    go_simp
    refine (interpOf_any _ _ _ sumS (worthL 2) [2, 1, -7, -3] x2 (HS.out.kp (zK (zS b0 (zS jx1 jx2)))) ((hoa.later jx2).ins (hea.later jx2).els) la (HT.out.below (zS Bw.out (zS b0 (zS jx1 jx2)))) (by decide)).mono ?_
    rintro e x3 ⟨⟨vp, rfl, hop⟩, jx3⟩
    have kx3 : Kp wk x3 := hS.trans (zK jx3)
    rw [ex12_1a]
    rw [ex12_1b] at hop
    obtain ⟨pa, pc, hpv⟩ := hop.slice
    subst hpv
    refine hK.out _ _ kx3 (fun _ => ?_)
    replace hS := kx3
    clear hK K kx3
    (try simp only [Act.put]);(try simp only [sA]);(try simp only [sB,sC])
    have HPp := hop.ms
    refine tkH 5 (.tuple #[.slice pa exP.length pc, .int .i64 0]) hS ?_
    (try simp only [Act.put]);(try simp only [sA]);(try simp only [sB,sC])
    refine tkH 6 (.slice pa exP.length pc) hS ?_
    (try simp only [Act.put]);(try simp only [sA]);(try simp only [sB,sC])
    refine tkH 7 (.int .i64 0) hS ?_
    (try simp only [Act.put]);(try simp only [sA]);(try simp only [sB,sC])
    refine tkH 8 (.slice pa exP.length pc) hS ?_
    (try simp only [Act.put]);(try simp only [sA]);(try simp only [sB,sC])
    refine tkH 9 (.int .i64 0) hS ?_
    (try simp only [Act.put]);(try simp only [sA]);(try simp only [sB,sC])
    refine wpAnyH_done (by kernel_rfl) ?_ _
    (try simp only [Act.put]); (try simp only [sD]); (try simp only [sE, sF]); (try simp only [sA]); (try simp only [sC, sB])
    try go_wp2
    go_meet
    case rel => exact ⟨rfl, ⟨_, _, rfl⟩, HPp, (zS b0 (zS (zS jx1 jx2) jx3))⟩
   skip
   go_simp
   have jx4 := zA (w := x0) (.cells #[.int .i64 2, .int .i64 1, .int .i64 (-7), .int .i64 (-3)] 3)
   have la := is_new x0 [2, 1, -7, -3] 3 (by decide) (by decide)
   obtain ⟨x4, hx4⟩ : ∃ X, X = x0.alloc (.cells #[.int .i64 2, .int .i64 1, .int .i64 (-7), .int .i64 (-3)] 3) := ⟨_, rfl⟩
   rw [← hx4] at jx4 ⊢
   change Is (x0.alloc (.cells #[.int .i64 2, .int .i64 1, .int .i64 (-7), .int .i64 (-3)] 3)) (.slice (some ⟨x0.heap.size, 0, none⟩) 4 4) _ at la
   rw [← hx4] at la
   clear hx4
   have kx4 : Kp wk x4 := hS.trans (zK jx4)
   refine hK.out _ _ kx4 (fun _ => ?_)
   replace hS := kx4
   clear hK K kx4
   (try simp only [Act.put]);(try simp only [sA]);(try simp only [sB,sC])
   refine tkR 2 (AllReadyH.cons rfl (fun K hK => ?_) AllReadyH.nil)
   go_simp
   refine (xAH 2 x4 (by decide)).mono ?_
   rintro e x5 ⟨ga1, v0a, v1a, v2a, rfl, hoa, hea, jx5⟩
   have kx5 : Kp wk x5 := hS.trans (zK jx5)
   refine hK.out _ _ kx5 (fun _ => ?_)
   replace hS := kx5
   clear hK K kx5
   (try simp only [Act.put]);(try simp only [sA]);(try simp only [sB,sC])
   have hbsa : w.heap.size ≤ x4.heap.size := Nat.le_trans Bw.out.size (zS b0 jx4).size
   refine tkR 4 (AllReadyH.cons rfl (fun K hK => ?_) AllReadyH.nil)
   go_simp
   refine (interpOf_any _ _ _ sumS (worthL 2) [2, 1, -7, -3] x5 (HS.out.kp (zK (zS b0 (zS jx4 jx5)))) (hoa.ins hea.els) (la.kp (zK jx5)) (HT.out.below (zS Bw.out (zS b0 (zS jx4 jx5)))) (by decide)).mono ?_
   rintro e x6 ⟨⟨vp, rfl, hop⟩, jx6⟩
   have kx6 : Kp wk x6 := hS.trans (zK jx6)
   rw [ex12_1a]
   rw [ex12_1b] at hop
   obtain ⟨pa, pc, hpv⟩ := hop.slice
   subst hpv
   refine hK.out _ _ kx6 (fun _ => ?_)
   replace hS := kx6
   clear hK K kx6
   (try simp only [Act.put]);(try simp only [sA]);(try simp only [sB,sC])
   have HPp := hop.ms
   refine tkH 5 (.tuple #[.slice pa exP.length pc, .int .i64 0]) hS ?_
   (try simp only [Act.put]);(try simp only [sA]);(try simp only [sB,sC])
   refine tkH 6 (.slice pa exP.length pc) hS ?_
   (try simp only [Act.put]);(try simp only [sA]);(try simp only [sB,sC])
   refine tkH 7 (.int .i64 0) hS ?_
   (try simp only [Act.put]);(try simp only [sA]);(try simp only [sB,sC])
   refine tkH 8 (.slice pa exP.length pc) hS ?_
   (try simp only [Act.put]);(try simp only [sA]);(try simp only [sB,sC])
   refine tkH 9 (.int .i64 0) hS ?_
   (try simp only [Act.put]);(try simp only [sA]);(try simp only [sB,sC])
   refine wpAnyH_done (by kernel_rfl) ?_ _
   (try simp only [Act.put]); (try simp only [sD]); (try simp only [sE, sF]); (try simp only [sA]); (try simp only [sC, sB])
   try go_wp2
   go_meet
   case rel => exact ⟨rfl, ⟨_, _, rfl⟩, HPp, (zS b0 (zS (zS jx4 jx5) jx6))⟩
 obtain ⟨rfl, ⟨pa, pc, rfl⟩, hpm, hbn⟩ := hcut
 obtain ⟨wn, hwn⟩ : ∃ X, X = wc := ⟨_, rfl⟩
 rw [← hwn] at hbn hpm ⊢
 clear hwn
 have Bn := hid (zS Bw.out hbn)
 have q0 := hid ((zK hbn).cell _ _ c0.out)
 have q1 := hid ((zK hbn).cell _ _ c1.out)
 have HSn := hid (HS.out.kp (zK hbn))
 have HRn := hid (HR.out.kp (zK hbn))
 clear Bw c0 c1 HS HR hbn
 have Bw := Bn
 have c0 := q0
 have c1 := q1
 have HS := HSn
 have HR := HRn
 clear Bn q0 q1 HSn HRn
 obtain ⟨wk, hwk⟩ : ∃ X, X = wn := ⟨_, rfl⟩
 rw [← hwk] at Bw c0 c1 HS HR hpm ⊢
 clear hwk
 have HP := hid hpm
 clear hpm
 obtain ⟨gr, gro, l1, r1, ra, rc, ra2, rc2, hgr, hrm, hr0, hr1, hl1, hr1i, _, _⟩ := HR.out.at (k := 1) (by decide)
 cases hgr
 simp [sumR1] at hrm
 obtain ⟨rfl, rfl⟩ := hrm
 have z0 := hid hr0
 have z1 := hid hr1
 have HL1 := hid hl1
 have HR1 := hid hr1i
 clear hr0 hr1 hl1 hr1i
 go_upto_region 3 with fail
 go_cut [4, 5] from 22 (fun x y wx => x = .int .i64 2 ∧ y = .int .i64 0 ∧ Below wk.heap.size wk wx)
 case first =>
  dsimp +zetaDelta only
  as_aux_lemma =>
   have hS : Kp wk wk.drew := zK (xAG wk)
   refine wp_region_held_drew (S := fun w' => Kp wk w') (by kernel_rfl) hS (fun _ => ?_)
   obtain ⟨x0, hx0⟩ : ∃ X, X = wk.drew := ⟨_, rfl⟩
   have b0 : Below wk.heap.size wk x0 := by rw [hx0]; exact xAG wk
   rw [← hx0] at hS ⊢
   clear hx0
   refine tkH 0 (.pointer (some ⟨gb, 0, none⟩)) hS ?_
   (try simp only [Act.put]);(try simp only [sA]);(try simp only [sB,sC])
   refine tkH 1 (.slice (some ⟨gs, os, none⟩) sumS.length sc) hS (hy := Or.inl ⟨by kernel_rfl, fun w' h => by have hh0 := h.cell _ _ c0.out; go_simp⟩) ?_
   (try simp only [Act.put]);(try simp only [sA]);(try simp only [sB,sC])
   refine tkH 3 (.pointer (some ⟨gb, 1, none⟩)) hS ?_
   (try simp only [Act.put]);(try simp only [sA]);(try simp only [sB,sC])
   refine tkH 4 (.slice (some ⟨rg, ro, none⟩) 2 rcap) hS (hy := Or.inl ⟨by kernel_rfl, fun w' h => by have hh0 := h.cell _ _ c1.out; go_simp⟩) ?_
   (try simp only [Act.put]);(try simp only [sA]);(try simp only [sB,sC])
   refine tkH 5 (.pointer (some ⟨rg, ro + 1 * 2, none⟩)) hS ?_
   (try simp only [Act.put]);(try simp only [sA]);(try simp only [sB,sC])
   refine tkH 6 (.agg #[.slice ra [2, 1, -1, -2].length rc, .slice ra2 [1, 2, -1, -2].length rc2]) hS (hy := Or.inl ⟨by kernel_rfl, fun w' h => by have hh0 := h.cell _ _ z0.out; have hh1 := h.cell _ _ z1.out; go_simp⟩) ?_
   (try simp only [Act.put]);(try simp only [sA]);(try simp only [sB,sC])
   refine tkR 2 (AllReadyH.cons rfl (fun K hK => ?_) AllReadyH.nil)
   go_simp
   refine (xAH 2 x0 (by decide)).mono ?_
   rintro e x7 ⟨ga1, v0a, v1a, v2a, rfl, hoa, hea, jx7⟩
   have kx7 : Kp wk x7 := hS.trans (zK jx7)
   refine hK.out _ _ kx7 (fun _ => ?_)
   replace hS := kx7
   clear hK K kx7
   (try simp only [Act.put]);(try simp only [sA]);(try simp only [sB,sC])
   have hbsa : w.heap.size ≤ x0.heap.size := Nat.le_trans Bw.out.size b0.size
   refine tkR 7 (AllReadyH.cons rfl (fun K hK => ?_) AllReadyH.nil)
   go_simp
   refine (xCF _ _ _ _ sumS (worthL 2) [2, 1, -1, -2] [1, 2, -1, -2] x7 (HS.out.kp (zK (zS b0 jx7))) (hoa.ins hea.els) (HL1.out.kp (zK (zS b0 jx7))) (HR1.out.kp (zK (zS b0 jx7))) (HT.out.below (zS Bw.out (zS b0 jx7))) (by decide) (by decide)).mono ?_
   rintro e x8 ⟨rfl, jx8⟩
   have kx8 : Kp wk x8 := hS.trans (zK jx8)
   rw [ex12_2b, ex12_2a]
   refine hK.out _ _ kx8 (fun _ => ?_)
   replace hS := kx8
   clear hK K kx8
   (try simp only [Act.put]);(try simp only [sA]);(try simp only [sB,sC])
   refine tkH 8 (.tuple #[.int .i64 2, .int .i64 0]) hS ?_
   (try simp only [Act.put]);(try simp only [sA]);(try simp only [sB,sC])
   refine tkH 9 (.int .i64 2) hS ?_
   (try simp only [Act.put]);(try simp only [sA]);(try simp only [sB,sC])
   refine tkH 10 (.int .i64 0) hS ?_
   (try simp only [Act.put]);(try simp only [sA]);(try simp only [sB,sC])
   refine tkH 11 (.int .i64 2) hS ?_
   (try simp only [Act.put]);(try simp only [sA]);(try simp only [sB,sC])
   refine tkH 12 (.int .i64 0) hS ?_
   (try simp only [Act.put]);(try simp only [sA]);(try simp only [sB,sC])
   refine wpAnyH_done (by kernel_rfl) ?_ _
   (try simp only [Act.put]); (try simp only [sD]); (try simp only [sE, sF]); (try simp only [sA]); (try simp only [sC, sB])
   try go_wp2
   go_meet
   case rel => exact ⟨rfl, rfl, (zS b0 (zS jx7 jx8))⟩
 clear z0 z1 HL1 HR1
 obtain ⟨rfl, rfl, hbn⟩ := hcut
 obtain ⟨wn, hwn⟩ : ∃ X, X = wc := ⟨_, rfl⟩
 rw [← hwn] at hbn ⊢
 clear hwn
 have Bn := hid (zS Bw.out hbn)
 have q0 := hid ((zK hbn).cell _ _ c0.out)
 have q1 := hid ((zK hbn).cell _ _ c1.out)
 have HSn := hid (HS.out.kp (zK hbn))
 have HRn := hid (HR.out.kp (zK hbn))
 have HPn := hid (HP.out.kp (zK hbn))
 clear Bw c0 c1 HS HR hbn HP
 have Bw := Bn
 have c0 := q0
 have c1 := q1
 have HS := HSn
 have HR := HRn
 have HP := HPn
 clear Bn q0 q1 HSn HRn HPn
 obtain ⟨wk, hwk⟩ : ∃ X, X = wn := ⟨_, rfl⟩
 rw [← hwk] at Bw c0 c1 HS HR HP ⊢
 clear hwk
 obtain ⟨gr, gro, l1, r1, ra, rc, ra2, rc2, hgr, hrm, hr0, hr1, hl1, hr1i, _, _⟩ := HR.out.at (k := 1) (by decide)
 cases hgr
 simp [sumR1] at hrm
 obtain ⟨rfl, rfl⟩ := hrm
 have z0 := hid hr0
 have z1 := hid hr1
 have HL1 := hid hl1
 have HR1 := hid hr1i
 clear hr0 hr1 hl1 hr1i
 go_upto_region 4 with fail
 go_cut [6, 7] from 33 (fun x y wx => x = .int .i64 1 ∧ y = .int .i64 0 ∧ Below wk.heap.size wk wx)
 case first =>
  dsimp +zetaDelta only
  as_aux_lemma =>
   have hS : Kp wk wk.drew := zK (xAG wk)
   refine wp_region_held_drew (S := fun w' => Kp wk w') (by kernel_rfl) hS (fun _ => ?_)
   obtain ⟨x0, hx0⟩ : ∃ X, X = wk.drew := ⟨_, rfl⟩
   have b0 : Below wk.heap.size wk x0 := by rw [hx0]; exact xAG wk
   rw [← hx0] at hS ⊢
   clear hx0
   refine tkH 0 (.pointer (some ⟨gb, 0, none⟩)) hS ?_
   (try simp only [Act.put]);(try simp only [sA]);(try simp only [sB,sC])
   refine tkH 1 (.slice (some ⟨gs, os, none⟩) sumS.length sc) hS (hy := Or.inl ⟨by kernel_rfl, fun w' h => by have hh0 := h.cell _ _ c0.out; go_simp⟩) ?_
   (try simp only [Act.put]);(try simp only [sA]);(try simp only [sB,sC])
   refine tkH 3 (.pointer (some ⟨gb, 1, none⟩)) hS ?_
   (try simp only [Act.put]);(try simp only [sA]);(try simp only [sB,sC])
   refine tkH 4 (.slice (some ⟨rg, ro, none⟩) 2 rcap) hS (hy := Or.inl ⟨by kernel_rfl, fun w' h => by have hh0 := h.cell _ _ c1.out; go_simp⟩) ?_
   (try simp only [Act.put]);(try simp only [sA]);(try simp only [sB,sC])
   refine tkH 5 (.pointer (some ⟨rg, ro + 1 * 2, none⟩)) hS ?_
   (try simp only [Act.put]);(try simp only [sA]);(try simp only [sB,sC])
   refine tkH 6 (.agg #[.slice ra [2, 1, -1, -2].length rc, .slice ra2 [1, 2, -1, -2].length rc2]) hS (hy := Or.inl ⟨by kernel_rfl, fun w' h => by have hh0 := h.cell _ _ z0.out; have hh1 := h.cell _ _ z1.out; go_simp⟩) ?_
   (try simp only [Act.put]);(try simp only [sA]);(try simp only [sB,sC])
   refine tkR 2 (AllReadyH.cons rfl (fun K hK => ?_) AllReadyH.nil)
   go_simp
   refine (xAH 1 x0 (by decide)).mono ?_
   rintro e x9 ⟨ga1, v0a, v1a, v2a, rfl, hoa, hea, jx9⟩
   have kx9 : Kp wk x9 := hS.trans (zK jx9)
   refine hK.out _ _ kx9 (fun _ => ?_)
   replace hS := kx9
   clear hK K kx9
   (try simp only [Act.put]);(try simp only [sA]);(try simp only [sB,sC])
   have hbsa : w.heap.size ≤ x0.heap.size := Nat.le_trans Bw.out.size b0.size
   refine tkR 7 (AllReadyH.cons rfl (fun K hK => ?_) AllReadyH.nil)
   go_simp
   refine (xCF _ _ _ _ sumS (worthL 1) [2, 1, -1, -2] [1, 2, -1, -2] x9 (HS.out.kp (zK (zS b0 jx9))) (hoa.ins hea.els) (HL1.out.kp (zK (zS b0 jx9))) (HR1.out.kp (zK (zS b0 jx9))) (HT.out.below (zS Bw.out (zS b0 jx9))) (by decide) (by decide)).mono ?_
   rintro e x10 ⟨rfl, jx10⟩
   have kx10 : Kp wk x10 := hS.trans (zK jx10)
   rw [ex12_3b, ex12_3a]
   refine hK.out _ _ kx10 (fun _ => ?_)
   replace hS := kx10
   clear hK K kx10
   (try simp only [Act.put]);(try simp only [sA]);(try simp only [sB,sC])
   refine tkH 8 (.tuple #[.int .i64 1, .int .i64 0]) hS ?_
   (try simp only [Act.put]);(try simp only [sA]);(try simp only [sB,sC])
   refine tkH 9 (.int .i64 1) hS ?_
   (try simp only [Act.put]);(try simp only [sA]);(try simp only [sB,sC])
   refine tkH 10 (.int .i64 0) hS ?_
   (try simp only [Act.put]);(try simp only [sA]);(try simp only [sB,sC])
   refine tkH 11 (.int .i64 1) hS ?_
   (try simp only [Act.put]);(try simp only [sA]);(try simp only [sB,sC])
   refine tkH 12 (.int .i64 0) hS ?_
   (try simp only [Act.put]);(try simp only [sA]);(try simp only [sB,sC])
   refine wpAnyH_done (by kernel_rfl) ?_ _
   (try simp only [Act.put]); (try simp only [sD]); (try simp only [sE, sF]); (try simp only [sA]); (try simp only [sC, sB])
   try go_wp2
   go_meet
   case rel => exact ⟨rfl, rfl, (zS b0 (zS jx9 jx10))⟩
 clear z0 z1 HL1 HR1
 obtain ⟨rfl, rfl, hbn⟩ := hcut
 obtain ⟨wn, hwn⟩ : ∃ X, X = wc := ⟨_, rfl⟩
 rw [← hwn] at hbn ⊢
 clear hwn
 have Bn := hid (zS Bw.out hbn)
 have q0 := hid ((zK hbn).cell _ _ c0.out)
 have q1 := hid ((zK hbn).cell _ _ c1.out)
 have HSn := hid (HS.out.kp (zK hbn))
 have HRn := hid (HR.out.kp (zK hbn))
 have HPn := hid (HP.out.kp (zK hbn))
 clear Bw c0 c1 HS HR hbn HP
 have Bw := Bn
 have c0 := q0
 have c1 := q1
 have HS := HSn
 have HR := HRn
 have HP := HPn
 clear Bn q0 q1 HSn HRn HPn
 obtain ⟨wk, hwk⟩ : ∃ X, X = wn := ⟨_, rfl⟩
 rw [← hwk] at Bw c0 c1 HS HR HP ⊢
 clear hwk
 go_upto_region 5 with fail
 go_cut [8, 9] from 44 (fun x y wx => x = .int .i64 0 ∧ y = .int .i64 0 ∧ Below wk.heap.size wk wx)
 case first =>
  dsimp +zetaDelta only
  as_aux_lemma =>
   have hS : Kp wk wk.drew := zK (xAG wk)
   refine wp_region_held_drew (S := fun w' => Kp wk w') (by kernel_rfl) hS (fun _ => ?_)
   obtain ⟨x0, hx0⟩ : ∃ X, X = wk.drew := ⟨_, rfl⟩
   have b0 : Below wk.heap.size wk x0 := by rw [hx0]; exact xAG wk
   rw [← hx0] at hS ⊢
   clear hx0
   refine tkH 0 (.pointer (some ⟨gb, 0, none⟩)) hS ?_
   (try simp only [Act.put]);(try simp only [sA]);(try simp only [sB,sC])
   refine tkH 1 (.slice (some ⟨gs, os, none⟩) sumS.length sc) hS (hy := Or.inl ⟨by kernel_rfl, fun w' h => by have hh0 := h.cell _ _ c0.out; go_simp⟩) ?_
   (try simp only [Act.put]);(try simp only [sA]);(try simp only [sB,sC])
   refine wpAnyH_ready (rs := [2, 3, 4]) (by kernel_rfl) (by simp) (AllReadyH.cons rfl (fun K hK => ?_) (AllReadyH.cons rfl (fun K hK => ?_) (AllReadyH.cons rfl (fun K hK => ?_) AllReadyH.nil)))
   ·skip
    go_simp
    refine (xAH 2 x0 (by decide)).mono ?_
    rintro e x11 ⟨ga1, v0a, v1a, v2a, rfl, hoa, hea, jx11⟩
    have kx11 : Kp wk x11 := hS.trans (zK jx11)
    refine hK.out _ _ kx11 (fun _ => ?_)
    replace hS := kx11
    clear hK K kx11
    (try simp only [Act.put]);(try simp only [sA]);(try simp only [sB,sC])
    have hbsa : w.heap.size ≤ x0.heap.size := Nat.le_trans Bw.out.size b0.size
    refine wpAnyH_ready (rs := [3, 4]) (by kernel_rfl) (by simp) (AllReadyH.cons rfl (fun K hK => ?_) (AllReadyH.cons rfl (fun K hK => ?_) AllReadyH.nil))
    ·skip
     go_simp
     have jx12 := zA (w := x11) (.cells #[.int .i64 0] 3)
     have lp := is_new x11 [0] 3 (by decide) (by decide)
     obtain ⟨x12, hx12⟩ : ∃ X, X = x11.alloc (.cells #[.int .i64 0] 3) := ⟨_, rfl⟩
     rw [← hx12] at jx12 ⊢
     change Is (x11.alloc (.cells #[.int .i64 0] 3)) (.slice (some ⟨x11.heap.size, 0, none⟩) 1 1) _ at lp
     rw [← hx12] at lp
     clear hx12
     have kx12 : Kp wk x12 := hS.trans (zK jx12)
     refine hK.out _ _ kx12 (fun _ => ?_)
     replace hS := kx12
     clear hK K kx12
     (try simp only [Act.put]);(try simp only [sA]);(try simp only [sB,sC])
     refine tkR 4 (AllReadyH.cons rfl (fun K hK => ?_) AllReadyH.nil)
     go_simp
     have jx13 := zA (w := x12) (.cells #[.int .i64 (-1)] 3)
     have lq := is_new x12 [-1] 3 (by decide) (by decide)
     obtain ⟨x13, hx13⟩ : ∃ X, X = x12.alloc (.cells #[.int .i64 (-1)] 3) := ⟨_, rfl⟩
     rw [← hx13] at jx13 ⊢
     change Is (x12.alloc (.cells #[.int .i64 (-1)] 3)) (.slice (some ⟨x12.heap.size, 0, none⟩) 1 1) _ at lq
     rw [← hx13] at lq
     clear hx13
     have kx13 : Kp wk x13 := hS.trans (zK jx13)
     refine hK.out _ _ kx13 (fun _ => ?_)
     replace hS := kx13
     clear hK K kx13
     (try simp only [Act.put]);(try simp only [sA]);(try simp only [sB,sC])
     refine tkH 5 (.agg #[.slice (some ⟨x11.heap.size, 0, none⟩) 1 1, .slice (some ⟨x12.heap.size, 0, none⟩) 1 1]) hS ?_
     (try simp only [Act.put]);(try simp only [sA]);(try simp only [sB,sC])
     refine tkR 6 (AllReadyH.cons rfl (fun K hK => ?_) AllReadyH.nil)
     go_simp
     refine (xCF _ _ _ _ sumS (worthL 2) [0] [-1] x13 (HS.out.kp (zK (zS b0 (zS (zS jx11 jx12) jx13)))) ((hoa.later (zS jx12 jx13)).ins (hea.later (zS jx12 jx13)).els) (lp.kp (zK jx13)) lq (HT.out.below (zS Bw.out (zS b0 (zS (zS jx11 jx12) jx13)))) (by decide) (by decide)).mono ?_
     rintro e x14 ⟨rfl, jx14⟩
     have kx14 : Kp wk x14 := hS.trans (zK jx14)
     rw [ex12_4b, ex12_4a]
     refine hK.out _ _ kx14 (fun _ => ?_)
     replace hS := kx14
     clear hK K kx14
     (try simp only [Act.put]);(try simp only [sA]);(try simp only [sB,sC])
     refine tkH 7 (.tuple #[.int .i64 0, .int .i64 0]) hS ?_
     (try simp only [Act.put]);(try simp only [sA]);(try simp only [sB,sC])
     refine tkH 8 (.int .i64 0) hS ?_
     (try simp only [Act.put]);(try simp only [sA]);(try simp only [sB,sC])
     refine tkH 9 (.int .i64 0) hS ?_
     (try simp only [Act.put]);(try simp only [sA]);(try simp only [sB,sC])
     refine tkH 10 (.int .i64 0) hS ?_
     (try simp only [Act.put]);(try simp only [sA]);(try simp only [sB,sC])
     refine tkH 11 (.int .i64 0) hS ?_
     (try simp only [Act.put]);(try simp only [sA]);(try simp only [sB,sC])
     refine wpAnyH_done (by kernel_rfl) ?_ _
     (try simp only [Act.put]); (try simp only [sD]); (try simp only [sE, sF]); (try simp only [sA]); (try simp only [sC, sB])
     try go_wp2
     go_meet
     case rel => exact ⟨rfl, rfl, (zS b0 (zS (zS (zS jx11 jx12) jx13) jx14))⟩
    skip
    go_simp
    have jx15 := zA (w := x11) (.cells #[.int .i64 (-1)] 3)
    have lq := is_new x11 [-1] 3 (by decide) (by decide)
    obtain ⟨x15, hx15⟩ : ∃ X, X = x11.alloc (.cells #[.int .i64 (-1)] 3) := ⟨_, rfl⟩
    rw [← hx15] at jx15 ⊢
    change Is (x11.alloc (.cells #[.int .i64 (-1)] 3)) (.slice (some ⟨x11.heap.size, 0, none⟩) 1 1) _ at lq
    rw [← hx15] at lq
    clear hx15
    have kx15 : Kp wk x15 := hS.trans (zK jx15)
    refine hK.out _ _ kx15 (fun _ => ?_)
    replace hS := kx15
    clear hK K kx15
    (try simp only [Act.put]);(try simp only [sA]);(try simp only [sB,sC])
    refine tkR 3 (AllReadyH.cons rfl (fun K hK => ?_) AllReadyH.nil)
    go_simp
    have jx16 := zA (w := x15) (.cells #[.int .i64 0] 3)
    have lp := is_new x15 [0] 3 (by decide) (by decide)
    obtain ⟨x16, hx16⟩ : ∃ X, X = x15.alloc (.cells #[.int .i64 0] 3) := ⟨_, rfl⟩
    rw [← hx16] at jx16 ⊢
    change Is (x15.alloc (.cells #[.int .i64 0] 3)) (.slice (some ⟨x15.heap.size, 0, none⟩) 1 1) _ at lp
    rw [← hx16] at lp
    clear hx16
    have kx16 : Kp wk x16 := hS.trans (zK jx16)
    refine hK.out _ _ kx16 (fun _ => ?_)
    replace hS := kx16
    clear hK K kx16
    (try simp only [Act.put]);(try simp only [sA]);(try simp only [sB,sC])
    refine tkH 5 (.agg #[.slice (some ⟨x15.heap.size, 0, none⟩) 1 1, .slice (some ⟨x11.heap.size, 0, none⟩) 1 1]) hS ?_
    (try simp only [Act.put]);(try simp only [sA]);(try simp only [sB,sC])
    refine tkR 6 (AllReadyH.cons rfl (fun K hK => ?_) AllReadyH.nil)
    go_simp
    refine (xCF _ _ _ _ sumS (worthL 2) [0] [-1] x16 (HS.out.kp (zK (zS b0 (zS (zS jx11 jx15) jx16)))) ((hoa.later (zS jx15 jx16)).ins (hea.later (zS jx15 jx16)).els) lp (lq.kp (zK jx16)) (HT.out.below (zS Bw.out (zS b0 (zS (zS jx11 jx15) jx16)))) (by decide) (by decide)).mono ?_
    rintro e x17 ⟨rfl, jx17⟩
    have kx17 : Kp wk x17 := hS.trans (zK jx17)
    rw [ex12_4b, ex12_4a]
    refine hK.out _ _ kx17 (fun _ => ?_)
    replace hS := kx17
    clear hK K kx17
    (try simp only [Act.put]);(try simp only [sA]);(try simp only [sB,sC])
    refine tkH 7 (.tuple #[.int .i64 0, .int .i64 0]) hS ?_
    (try simp only [Act.put]);(try simp only [sA]);(try simp only [sB,sC])
    refine tkH 8 (.int .i64 0) hS ?_
    (try simp only [Act.put]);(try simp only [sA]);(try simp only [sB,sC])
    refine tkH 9 (.int .i64 0) hS ?_
    (try simp only [Act.put]);(try simp only [sA]);(try simp only [sB,sC])
    refine tkH 10 (.int .i64 0) hS ?_
    (try simp only [Act.put]);(try simp only [sA]);(try simp only [sB,sC])
    refine tkH 11 (.int .i64 0) hS ?_
    (try simp only [Act.put]);(try simp only [sA]);(try simp only [sB,sC])
    refine wpAnyH_done (by kernel_rfl) ?_ _
    (try simp only [Act.put]); (try simp only [sD]); (try simp only [sE, sF]); (try simp only [sA]); (try simp only [sC, sB])
    try go_wp2
    go_meet
    case rel => exact ⟨rfl, rfl, (zS b0 (zS (zS (zS jx11 jx15) jx16) jx17))⟩
   ·skip
    go_simp
    have jx18 := zA (w := x0) (.cells #[.int .i64 0] 3)
    have lp := is_new x0 [0] 3 (by decide) (by decide)
    obtain ⟨x18, hx18⟩ : ∃ X, X = x0.alloc (.cells #[.int .i64 0] 3) := ⟨_, rfl⟩
    rw [← hx18] at jx18 ⊢
    change Is (x0.alloc (.cells #[.int .i64 0] 3)) (.slice (some ⟨x0.heap.size, 0, none⟩) 1 1) _ at lp
    rw [← hx18] at lp
    clear hx18
    have kx18 : Kp wk x18 := hS.trans (zK jx18)
    refine hK.out _ _ kx18 (fun _ => ?_)
    replace hS := kx18
    clear hK K kx18
    (try simp only [Act.put]);(try simp only [sA]);(try simp only [sB,sC])
    refine wpAnyH_ready (rs := [2, 4]) (by kernel_rfl) (by simp) (AllReadyH.cons rfl (fun K hK => ?_) (AllReadyH.cons rfl (fun K hK => ?_) AllReadyH.nil))
    ·skip
     go_simp
     refine (xAH 2 x18 (by decide)).mono ?_
     rintro e x19 ⟨ga1, v0a, v1a, v2a, rfl, hoa, hea, jx19⟩
     have kx19 : Kp wk x19 := hS.trans (zK jx19)
     refine hK.out _ _ kx19 (fun _ => ?_)
     replace hS := kx19
     clear hK K kx19
     (try simp only [Act.put]);(try simp only [sA]);(try simp only [sB,sC])
     have hbsa : w.heap.size ≤ x18.heap.size := Nat.le_trans Bw.out.size (zS b0 jx18).size
     refine tkR 4 (AllReadyH.cons rfl (fun K hK => ?_) AllReadyH.nil)
     go_simp
     have jx20 := zA (w := x19) (.cells #[.int .i64 (-1)] 3)
     have lq := is_new x19 [-1] 3 (by decide) (by decide)
     obtain ⟨x20, hx20⟩ : ∃ X, X = x19.alloc (.cells #[.int .i64 (-1)] 3) := ⟨_, rfl⟩
     rw [← hx20] at jx20 ⊢
     change Is (x19.alloc (.cells #[.int .i64 (-1)] 3)) (.slice (some ⟨x19.heap.size, 0, none⟩) 1 1) _ at lq
     rw [← hx20] at lq
     clear hx20
     have kx20 : Kp wk x20 := hS.trans (zK jx20)
     refine hK.out _ _ kx20 (fun _ => ?_)
     replace hS := kx20
     clear hK K kx20
     (try simp only [Act.put]);(try simp only [sA]);(try simp only [sB,sC])
     refine tkH 5 (.agg #[.slice (some ⟨x0.heap.size, 0, none⟩) 1 1, .slice (some ⟨x19.heap.size, 0, none⟩) 1 1]) hS ?_
     (try simp only [Act.put]);(try simp only [sA]);(try simp only [sB,sC])
     refine tkR 6 (AllReadyH.cons rfl (fun K hK => ?_) AllReadyH.nil)
     go_simp
     refine (xCF _ _ _ _ sumS (worthL 2) [0] [-1] x20 (HS.out.kp (zK (zS b0 (zS (zS jx18 jx19) jx20)))) ((hoa.later jx20).ins (hea.later jx20).els) (lp.kp (zK (zS jx19 jx20))) lq (HT.out.below (zS Bw.out (zS b0 (zS (zS jx18 jx19) jx20)))) (by decide) (by decide)).mono ?_
     rintro e x21 ⟨rfl, jx21⟩
     have kx21 : Kp wk x21 := hS.trans (zK jx21)
     rw [ex12_4b, ex12_4a]
     refine hK.out _ _ kx21 (fun _ => ?_)
     replace hS := kx21
     clear hK K kx21
     (try simp only [Act.put]);(try simp only [sA]);(try simp only [sB,sC])
     refine tkH 7 (.tuple #[.int .i64 0, .int .i64 0]) hS ?_
     (try simp only [Act.put]);(try simp only [sA]);(try simp only [sB,sC])
     refine tkH 8 (.int .i64 0) hS ?_
     (try simp only [Act.put]);(try simp only [sA]);(try simp only [sB,sC])
     refine tkH 9 (.int .i64 0) hS ?_
     (try simp only [Act.put]);(try simp only [sA]);(try simp only [sB,sC])
     refine tkH 10 (.int .i64 0) hS ?_
     (try simp only [Act.put]);(try simp only [sA]);(try simp only [sB,sC])
     refine tkH 11 (.int .i64 0) hS ?_
     (try simp only [Act.put]);(try simp only [sA]);(try simp only [sB,sC])
     refine wpAnyH_done (by kernel_rfl) ?_ _
     (try simp only [Act.put]); (try simp only [sD]); (try simp only [sE, sF]); (try simp only [sA]); (try simp only [sC, sB])
     try go_wp2
     go_meet
     case rel => exact ⟨rfl, rfl, (zS b0 (zS (zS (zS jx18 jx19) jx20) jx21))⟩
    skip
    go_simp
    have jx22 := zA (w := x18) (.cells #[.int .i64 (-1)] 3)
    have lq := is_new x18 [-1] 3 (by decide) (by decide)
    obtain ⟨x22, hx22⟩ : ∃ X, X = x18.alloc (.cells #[.int .i64 (-1)] 3) := ⟨_, rfl⟩
    rw [← hx22] at jx22 ⊢
    change Is (x18.alloc (.cells #[.int .i64 (-1)] 3)) (.slice (some ⟨x18.heap.size, 0, none⟩) 1 1) _ at lq
    rw [← hx22] at lq
    clear hx22
    have kx22 : Kp wk x22 := hS.trans (zK jx22)
    refine hK.out _ _ kx22 (fun _ => ?_)
    replace hS := kx22
    clear hK K kx22
    (try simp only [Act.put]);(try simp only [sA]);(try simp only [sB,sC])
    refine tkH 5 (.agg #[.slice (some ⟨x0.heap.size, 0, none⟩) 1 1, .slice (some ⟨x18.heap.size, 0, none⟩) 1 1]) hS ?_
    (try simp only [Act.put]);(try simp only [sA]);(try simp only [sB,sC])
    refine tkR 2 (AllReadyH.cons rfl (fun K hK => ?_) AllReadyH.nil)
    go_simp
    refine (xAH 2 x22 (by decide)).mono ?_
    rintro e x23 ⟨ga1, v0a, v1a, v2a, rfl, hoa, hea, jx23⟩
    have kx23 : Kp wk x23 := hS.trans (zK jx23)
    refine hK.out _ _ kx23 (fun _ => ?_)
    replace hS := kx23
    clear hK K kx23
    (try simp only [Act.put]);(try simp only [sA]);(try simp only [sB,sC])
    have hbsa : w.heap.size ≤ x22.heap.size := Nat.le_trans Bw.out.size (zS b0 (zS jx18 jx22)).size
    refine tkR 6 (AllReadyH.cons rfl (fun K hK => ?_) AllReadyH.nil)
    go_simp
    refine (xCF _ _ _ _ sumS (worthL 2) [0] [-1] x23 (HS.out.kp (zK (zS b0 (zS (zS jx18 jx22) jx23)))) (hoa.ins hea.els) (lp.kp (zK (zS jx22 jx23))) (lq.kp (zK jx23)) (HT.out.below (zS Bw.out (zS b0 (zS (zS jx18 jx22) jx23)))) (by decide) (by decide)).mono ?_
    rintro e x24 ⟨rfl, jx24⟩
    have kx24 : Kp wk x24 := hS.trans (zK jx24)
    rw [ex12_4b, ex12_4a]
    refine hK.out _ _ kx24 (fun _ => ?_)
    replace hS := kx24
    clear hK K kx24
    (try simp only [Act.put]);(try simp only [sA]);(try simp only [sB,sC])
    refine tkH 7 (.tuple #[.int .i64 0, .int .i64 0]) hS ?_
    (try simp only [Act.put]);(try simp only [sA]);(try simp only [sB,sC])
    refine tkH 8 (.int .i64 0) hS ?_
    (try simp only [Act.put]);(try simp only [sA]);(try simp only [sB,sC])
    refine tkH 9 (.int .i64 0) hS ?_
    (try simp only [Act.put]);(try simp only [sA]);(try simp only [sB,sC])
    refine tkH 10 (.int .i64 0) hS ?_
    (try simp only [Act.put]);(try simp only [sA]);(try simp only [sB,sC])
    refine tkH 11 (.int .i64 0) hS ?_
    (try simp only [Act.put]);(try simp only [sA]);(try simp only [sB,sC])
    refine wpAnyH_done (by kernel_rfl) ?_ _
    (try simp only [Act.put]); (try simp only [sD]); (try simp only [sE, sF]); (try simp only [sA]); (try simp only [sC, sB])
    try go_wp2
    go_meet
    case rel => exact ⟨rfl, rfl, (zS b0 (zS (zS (zS jx18 jx22) jx23) jx24))⟩
   skip
   go_simp
   have jx25 := zA (w := x0) (.cells #[.int .i64 (-1)] 3)
   have lq := is_new x0 [-1] 3 (by decide) (by decide)
   obtain ⟨x25, hx25⟩ : ∃ X, X = x0.alloc (.cells #[.int .i64 (-1)] 3) := ⟨_, rfl⟩
   rw [← hx25] at jx25 ⊢
   change Is (x0.alloc (.cells #[.int .i64 (-1)] 3)) (.slice (some ⟨x0.heap.size, 0, none⟩) 1 1) _ at lq
   rw [← hx25] at lq
   clear hx25
   have kx25 : Kp wk x25 := hS.trans (zK jx25)
   refine hK.out _ _ kx25 (fun _ => ?_)
   replace hS := kx25
   clear hK K kx25
   (try simp only [Act.put]);(try simp only [sA]);(try simp only [sB,sC])
   refine wpAnyH_ready (rs := [2, 3]) (by kernel_rfl) (by simp) (AllReadyH.cons rfl (fun K hK => ?_) (AllReadyH.cons rfl (fun K hK => ?_) AllReadyH.nil))
   ·skip
    go_simp
    refine (xAH 2 x25 (by decide)).mono ?_
    rintro e x26 ⟨ga1, v0a, v1a, v2a, rfl, hoa, hea, jx26⟩
    have kx26 : Kp wk x26 := hS.trans (zK jx26)
    refine hK.out _ _ kx26 (fun _ => ?_)
    replace hS := kx26
    clear hK K kx26
    (try simp only [Act.put]);(try simp only [sA]);(try simp only [sB,sC])
    have hbsa : w.heap.size ≤ x25.heap.size := Nat.le_trans Bw.out.size (zS b0 jx25).size
    refine tkR 3 (AllReadyH.cons rfl (fun K hK => ?_) AllReadyH.nil)
    go_simp
    have jx27 := zA (w := x26) (.cells #[.int .i64 0] 3)
    have lp := is_new x26 [0] 3 (by decide) (by decide)
    obtain ⟨x27, hx27⟩ : ∃ X, X = x26.alloc (.cells #[.int .i64 0] 3) := ⟨_, rfl⟩
    rw [← hx27] at jx27 ⊢
    change Is (x26.alloc (.cells #[.int .i64 0] 3)) (.slice (some ⟨x26.heap.size, 0, none⟩) 1 1) _ at lp
    rw [← hx27] at lp
    clear hx27
    have kx27 : Kp wk x27 := hS.trans (zK jx27)
    refine hK.out _ _ kx27 (fun _ => ?_)
    replace hS := kx27
    clear hK K kx27
    (try simp only [Act.put]);(try simp only [sA]);(try simp only [sB,sC])
    refine tkH 5 (.agg #[.slice (some ⟨x26.heap.size, 0, none⟩) 1 1, .slice (some ⟨x0.heap.size, 0, none⟩) 1 1]) hS ?_
    (try simp only [Act.put]);(try simp only [sA]);(try simp only [sB,sC])
    refine tkR 6 (AllReadyH.cons rfl (fun K hK => ?_) AllReadyH.nil)
    go_simp
    refine (xCF _ _ _ _ sumS (worthL 2) [0] [-1] x27 (HS.out.kp (zK (zS b0 (zS (zS jx25 jx26) jx27)))) ((hoa.later jx27).ins (hea.later jx27).els) lp (lq.kp (zK (zS jx26 jx27))) (HT.out.below (zS Bw.out (zS b0 (zS (zS jx25 jx26) jx27)))) (by decide) (by decide)).mono ?_
    rintro e x28 ⟨rfl, jx28⟩
    have kx28 : Kp wk x28 := hS.trans (zK jx28)
    rw [ex12_4b, ex12_4a]
    refine hK.out _ _ kx28 (fun _ => ?_)
    replace hS := kx28
    clear hK K kx28
    (try simp only [Act.put]);(try simp only [sA]);(try simp only [sB,sC])
    refine tkH 7 (.tuple #[.int .i64 0, .int .i64 0]) hS ?_
    (try simp only [Act.put]);(try simp only [sA]);(try simp only [sB,sC])
    refine tkH 8 (.int .i64 0) hS ?_
    (try simp only [Act.put]);(try simp only [sA]);(try simp only [sB,sC])
    refine tkH 9 (.int .i64 0) hS ?_
    (try simp only [Act.put]);(try simp only [sA]);(try simp only [sB,sC])
    refine tkH 10 (.int .i64 0) hS ?_
    (try simp only [Act.put]);(try simp only [sA]);(try simp only [sB,sC])
    refine tkH 11 (.int .i64 0) hS ?_
    (try simp only [Act.put]);(try simp only [sA]);(try simp only [sB,sC])
    refine wpAnyH_done (by kernel_rfl) ?_ _
    (try simp only [Act.put]); (try simp only [sD]); (try simp only [sE, sF]); (try simp only [sA]); (try simp only [sC, sB])
    try go_wp2
    go_meet
    case rel => exact ⟨rfl, rfl, (zS b0 (zS (zS (zS jx25 jx26) jx27) jx28))⟩
   skip
   go_simp
   have jx29 := zA (w := x25) (.cells #[.int .i64 0] 3)
   have lp := is_new x25 [0] 3 (by decide) (by decide)
   obtain ⟨x29, hx29⟩ : ∃ X, X = x25.alloc (.cells #[.int .i64 0] 3) := ⟨_, rfl⟩
   rw [← hx29] at jx29 ⊢
   change Is (x25.alloc (.cells #[.int .i64 0] 3)) (.slice (some ⟨x25.heap.size, 0, none⟩) 1 1) _ at lp
   rw [← hx29] at lp
   clear hx29
   have kx29 : Kp wk x29 := hS.trans (zK jx29)
   refine hK.out _ _ kx29 (fun _ => ?_)
   replace hS := kx29
   clear hK K kx29
   (try simp only [Act.put]);(try simp only [sA]);(try simp only [sB,sC])
   refine tkH 5 (.agg #[.slice (some ⟨x25.heap.size, 0, none⟩) 1 1, .slice (some ⟨x0.heap.size, 0, none⟩) 1 1]) hS ?_
   (try simp only [Act.put]);(try simp only [sA]);(try simp only [sB,sC])
   refine tkR 2 (AllReadyH.cons rfl (fun K hK => ?_) AllReadyH.nil)
   go_simp
   refine (xAH 2 x29 (by decide)).mono ?_
   rintro e x30 ⟨ga1, v0a, v1a, v2a, rfl, hoa, hea, jx30⟩
   have kx30 : Kp wk x30 := hS.trans (zK jx30)
   refine hK.out _ _ kx30 (fun _ => ?_)
   replace hS := kx30
   clear hK K kx30
   (try simp only [Act.put]);(try simp only [sA]);(try simp only [sB,sC])
   have hbsa : w.heap.size ≤ x29.heap.size := Nat.le_trans Bw.out.size (zS b0 (zS jx25 jx29)).size
   refine tkR 6 (AllReadyH.cons rfl (fun K hK => ?_) AllReadyH.nil)
   go_simp
   refine (xCF _ _ _ _ sumS (worthL 2) [0] [-1] x30 (HS.out.kp (zK (zS b0 (zS (zS jx25 jx29) jx30)))) (hoa.ins hea.els) (lp.kp (zK jx30)) (lq.kp (zK (zS jx29 jx30))) (HT.out.below (zS Bw.out (zS b0 (zS (zS jx25 jx29) jx30)))) (by decide) (by decide)).mono ?_
   rintro e x31 ⟨rfl, jx31⟩
   have kx31 : Kp wk x31 := hS.trans (zK jx31)
   rw [ex12_4b, ex12_4a]
   refine hK.out _ _ kx31 (fun _ => ?_)
   replace hS := kx31
   clear hK K kx31
   (try simp only [Act.put]);(try simp only [sA]);(try simp only [sB,sC])
   refine tkH 7 (.tuple #[.int .i64 0, .int .i64 0]) hS ?_
   (try simp only [Act.put]);(try simp only [sA]);(try simp only [sB,sC])
   refine tkH 8 (.int .i64 0) hS ?_
   (try simp only [Act.put]);(try simp only [sA]);(try simp only [sB,sC])
   refine tkH 9 (.int .i64 0) hS ?_
   (try simp only [Act.put]);(try simp only [sA]);(try simp only [sB,sC])
   refine tkH 10 (.int .i64 0) hS ?_
   (try simp only [Act.put]);(try simp only [sA]);(try simp only [sB,sC])
   refine tkH 11 (.int .i64 0) hS ?_
   (try simp only [Act.put]);(try simp only [sA]);(try simp only [sB,sC])
   refine wpAnyH_done (by kernel_rfl) ?_ _
   (try simp only [Act.put]); (try simp only [sD]); (try simp only [sE, sF]); (try simp only [sA]); (try simp only [sC, sB])
   try go_wp2
   go_meet
   case rel => exact ⟨rfl, rfl, (zS b0 (zS (zS (zS jx25 jx29) jx30) jx31))⟩
 obtain ⟨rfl, rfl, hbn⟩ := hcut
 obtain ⟨wn, hwn⟩ : ∃ X, X = wc := ⟨_, rfl⟩
 rw [← hwn] at hbn ⊢
 clear hwn
 have Bn := hid (zS Bw.out hbn)
 have q0 := hid ((zK hbn).cell _ _ c0.out)
 have q1 := hid ((zK hbn).cell _ _ c1.out)
 have HSn := hid (HS.out.kp (zK hbn))
 have HRn := hid (HR.out.kp (zK hbn))
 have HPn := hid (HP.out.kp (zK hbn))
 clear Bw c0 c1 HS HR hbn HP
 have Bw := Bn
 have c0 := q0
 have c1 := q1
 have HS := HSn
 have HR := HRn
 have HP := HPn
 clear Bn q0 q1 HSn HRn HPn
 obtain ⟨wk, hwk⟩ : ∃ X, X = wn := ⟨_, rfl⟩
 rw [← hwk] at Bw c0 c1 HS HR HP ⊢
 clear hwk
 go_upto_region 6 with fail
 go_cut [10] from 54 (fun x wx => x = .int .i64 120 ∧ Below wk.heap.size wk wx)
 case first =>
  dsimp +zetaDelta only
  as_aux_lemma =>
   have hS : Kp wk wk.drew := zK (xAG wk)
   refine wp_region_held_drew (S := fun w' => Kp wk w') (by kernel_rfl) hS (fun _ => ?_)
   obtain ⟨x0, hx0⟩ : ∃ X, X = wk.drew := ⟨_, rfl⟩
   have b0 : Below wk.heap.size wk x0 := by rw [hx0]; exact xAG wk
   rw [← hx0] at hS ⊢
   clear hx0
   refine tkH 0 (.pointer (some ⟨gb, 0, none⟩)) hS ?_
   (try simp only [Act.put]);(try simp only [sA]);(try simp only [sB,sC])
   refine tkH 1 (.slice (some ⟨gs, os, none⟩) sumS.length sc) hS (hy := Or.inl ⟨by kernel_rfl, fun w' h => by have hh0 := h.cell _ _ c0.out; go_simp⟩) ?_
   (try simp only [Act.put]);(try simp only [sA]);(try simp only [sB,sC])
   refine tkR 2 (AllReadyH.cons rfl (fun K hK => ?_) AllReadyH.nil)
   go_simp
   refine (xAH 2 x0 (by decide)).mono ?_
   rintro e x32 ⟨ga1, v0a, v1a, v2a, rfl, hoa, hea, jx32⟩
   have kx32 : Kp wk x32 := hS.trans (zK jx32)
   refine hK.out _ _ kx32 (fun _ => ?_)
   replace hS := kx32
   clear hK K kx32
   (try simp only [Act.put]);(try simp only [sA]);(try simp only [sB,sC])
   have hbsa : w.heap.size ≤ x0.heap.size := Nat.le_trans Bw.out.size b0.size
   refine tkH 3 (.slice (some ⟨ga1, 0, none⟩) 2 3) hS ?_
   (try simp only [Act.put]);(try simp only [sA]);(try simp only [sB,sC])
   refine tkR 4 (AllReadyH.cons rfl (fun K hK => ?_) AllReadyH.nil)
   go_simp
   refine (xCK _ _ sumS ((worthL 2).take 2) x32 (HS.out.kp (zK (zS b0 jx32))) ((hoa.cut (k := 2) (by simp) (by simp)).ins (hea.take 2).els) (HT.out.below (zS Bw.out (zS b0 jx32)))).mono ?_
   rintro e x33 ⟨rfl, jx33⟩
   have kx33 : Kp wk x33 := hS.trans (zK jx33)
   rw [ex12_5]
   refine hK.out _ _ kx33 (fun _ => ?_)
   replace hS := kx33
   clear hK K kx33
   (try simp only [Act.put]);(try simp only [sA]);(try simp only [sB,sC])
   refine tkH 5 (.int .i64 120) hS ?_
   (try simp only [Act.put]);(try simp only [sA]);(try simp only [sB,sC])
   refine wpAnyH_done (by kernel_rfl) ?_ _
   (try simp only [Act.put]); (try simp only [sD]); (try simp only [sE, sF]); (try simp only [sA]); (try simp only [sC, sB])
   try go_wp2
   go_meet
   case rel => exact ⟨rfl, (zS b0 (zS jx32 jx33))⟩
 obtain ⟨rfl, hbn⟩ := hcut
 obtain ⟨wn, hwn⟩ : ∃ X, X = wc := ⟨_, rfl⟩
 rw [← hwn] at hbn ⊢
 clear hwn
 have Bn := hid (zS Bw.out hbn)
 have q0 := hid ((zK hbn).cell _ _ c0.out)
 have q1 := hid ((zK hbn).cell _ _ c1.out)
 have HSn := hid (HS.out.kp (zK hbn))
 have HRn := hid (HR.out.kp (zK hbn))
 have HPn := hid (HP.out.kp (zK hbn))
 clear Bw c0 c1 HS HR hbn HP
 have Bw := Bn
 have c0 := q0
 have c1 := q1
 have HS := HSn
 have HR := HRn
 have HP := HPn
 clear Bn q0 q1 HSn HRn HPn
 obtain ⟨wk, hwk⟩ : ∃ X, X = wn := ⟨_, rfl⟩
 rw [← hwk] at Bw c0 c1 HS HR HP ⊢
 clear hwk
 go_upto_region 7 with fail
 go_cut [11] from 59 (fun x wx => x = .int .i64 120 ∧ Below wk.heap.size wk wx)
 case first =>
  dsimp +zetaDelta only
  as_aux_lemma =>
   have hS : Kp wk wk.drew := zK (xAG wk)
   refine wp_region_held_drew (S := fun w' => Kp wk w') (by kernel_rfl) hS (fun _ => ?_)
   obtain ⟨x0, hx0⟩ : ∃ X, X = wk.drew := ⟨_, rfl⟩
   have b0 : Below wk.heap.size wk x0 := by rw [hx0]; exact xAG wk
   rw [← hx0] at hS ⊢
   clear hx0
   refine tkH 0 (.pointer (some ⟨gb, 0, none⟩)) hS ?_
   (try simp only [Act.put]);(try simp only [sA]);(try simp only [sB,sC])
   refine tkH 1 (.slice (some ⟨gs, os, none⟩) sumS.length sc) hS (hy := Or.inl ⟨by kernel_rfl, fun w' h => by have hh0 := h.cell _ _ c0.out; go_simp⟩) ?_
   (try simp only [Act.put]);(try simp only [sA]);(try simp only [sB,sC])
   refine tkR 2 (AllReadyH.cons rfl (fun K hK => ?_) AllReadyH.nil)
   go_simp
   refine (xAH 2 x0 (by decide)).mono ?_
   rintro e x34 ⟨ga1, v0a, v1a, v2a, rfl, hoa, hea, jx34⟩
   have kx34 : Kp wk x34 := hS.trans (zK jx34)
   refine hK.out _ _ kx34 (fun _ => ?_)
   replace hS := kx34
   clear hK K kx34
   (try simp only [Act.put]);(try simp only [sA]);(try simp only [sB,sC])
   have hbsa : w.heap.size ≤ x0.heap.size := Nat.le_trans Bw.out.size b0.size
   refine tkR 3 (AllReadyH.cons rfl (fun K hK => ?_) AllReadyH.nil)
   go_simp
   refine (xAH 2 x34 (by decide)).mono ?_
   rintro e x35 ⟨gb1, v0b, v1b, v2b, rfl, hob, heb, jx35⟩
   have kx35 : Kp wk x35 := hS.trans (zK jx35)
   refine hK.out _ _ kx35 (fun _ => ?_)
   replace hS := kx35
   clear hK K kx35
   (try simp only [Act.put]);(try simp only [sA]);(try simp only [sB,sC])
   have hbsb : w.heap.size ≤ x34.heap.size := Nat.le_trans Bw.out.size (zS b0 jx34).size
   obtain ⟨a7, c7, hv7⟩ : ∃ a c, v2b = .slice a 2 c := by
    obtain ⟨_, _, _, hz7⟩ := heb.2 2 (2, v2b) (2, [([1], [0, 1]), ([2], [1])]) rfl rfl
    exact hz7.slice
   subst hv7
   refine tkH 4 (.pointer (some ⟨gb1, 4, none⟩)) hS ?_
   (try simp only [Act.put]);(try simp only [sA]);(try simp only [sB,sC])
   refine tkR 5 (AllReadyH.cons rfl (fun K hK => ?_) AllReadyH.nil)
   obtain ⟨y70, y71⟩ := hob.cellsN (k := 2) (c := (2, (.slice a7 2 c7))) rfl
   simp only [Nat.reduceMul, Nat.reduceAdd] at y70 y71
   go_simp
   refine hK.out _ _ hS (fun _ => ?_)
   clear hK K y70 y71
   (try simp only [Act.put]);(try simp only [sA]);(try simp only [sB,sC])
   refine tkR 6 (AllReadyH.cons rfl (fun K hK => ?_) AllReadyH.nil)
   go_simp
   have hbase7 : x0.heap.size ≤ x35.heap.size := ((zS jx34 jx35)).size
   have hoa7 := (hoa.later jx35)
   have hea7 := (hea.later jx35)
   obtain ⟨_, _, _, hom7⟩ := heb.2 2 (2, (.slice a7 2 c7)) (2, [([1], [0, 1]), ([2], [1])]) rfl rfl
   obtain ⟨v7, x37, hru7, ho7, hg7⟩ := OwN.snoc 23 (x := 2) (u := (.slice a7 2 c7)) hoa7 hbase7 hom7.one (by simp)
   have jx36 := zA (w := x35) (.cells #[.int .i64 2, .slice a7 2 c7] 51)
   obtain ⟨x36, hx36⟩ : ∃ X, X = x35.alloc (.cells #[.int .i64 2, .slice a7 2 c7] 51) := ⟨_, rfl⟩
   rw [← hx36] at jx36 hru7 hg7 ⊢
   clear hx36
   have hoa8 := hoa7.later jx36
   have hea8 := (hea7.later jx36).grown hoa8 hg7
   have hom8 := (hom7.later jx36).grownN hoa8 hg7
   have b7 : Below x0.heap.size x0 x36 := zS (zS jx34 jx35) jx36
   have b8 : Below x0.heap.size x0 x37 := b7.grown hg7 b7.size (fun j hj => own_blk hoa8 hj)
   have kp8 : Kp wk x37 := (zK b0).trans (zK b8)
   have kx36 : Kp wk x36 := hS.trans (zK jx36)
   refine hK.out _ _ kx36 (fun _ => ?_)
   replace hS := kx36
   clear hK K kx36
   (try simp only [Act.put]);(try simp only [sA]);(try simp only [sB,sC])
   refine tkR 7 (AllReadyH.cons rfl (fun K hK => ?_) AllReadyH.nil)
   refine step_append_run rfl _ _ 23 rfl _ _ rfl rfl hru7 ?_
   refine hK.out _ _ kp8 (fun _ => ?_)
   clear hK K hS hru7
   have hS := kp8
   (try simp only [Act.put]);(try simp only [sA]);(try simp only [sB,sC])
   refine tkR 8 (AllReadyH.cons rfl (fun K hK => ?_) AllReadyH.nil)
   go_simp
   refine (xCK _ _ sumS (worthL 2 ++ [(2, [([1], [0, 1]), ([2], [1])])]) x37 (HS.out.kp kp8) (ho7.ins (Els.snoc (c := (2, (.slice a7 2 c7))) (x := (2, [([1], [0, 1]), ([2], [1])])) hea8.els rfl (by decide) (by decide) hom8.ms)) (HT.out.below (zS Bw.out (zS b0 b8)))).mono ?_
   rintro e x38 ⟨rfl, jx38⟩
   have kx38 : Kp wk x38 := hS.trans (zK jx38)
   rw [ex12_6]
   refine hK.out _ _ kx38 (fun _ => ?_)
   replace hS := kx38
   clear hK K kx38
   (try simp only [Act.put]);(try simp only [sA]);(try simp only [sB,sC])
   refine tkH 9 (.int .i64 120) hS ?_
   (try simp only [Act.put]);(try simp only [sA]);(try simp only [sB,sC])
   refine wpAnyH_done (by kernel_rfl) ?_ _
   (try simp only [Act.put]); (try simp only [sD]); (try simp only [sE, sF]); (try simp only [sA]); (try simp only [sC, sB])
   try go_wp2
   go_meet
   case rel => exact ⟨rfl, zS (zS b0 b8) jx38⟩
 obtain ⟨rfl, hbn⟩ := hcut
 obtain ⟨wn, hwn⟩ : ∃ X, X = wc := ⟨_, rfl⟩
 rw [← hwn] at hbn ⊢
 clear hwn
 have Bn := hid (zS Bw.out hbn)
 have q0 := hid ((zK hbn).cell _ _ c0.out)
 have q1 := hid ((zK hbn).cell _ _ c1.out)
 have HSn := hid (HS.out.kp (zK hbn))
 have HRn := hid (HR.out.kp (zK hbn))
 have HPn := hid (HP.out.kp (zK hbn))
 clear Bw c0 c1 HS HR hbn HP
 have Bw := Bn
 have c0 := q0
 have c1 := q1
 have HS := HSn
 have HR := HRn
 have HP := HPn
 clear Bn q0 q1 HSn HRn HPn
 obtain ⟨wk, hwk⟩ : ∃ X, X = wn := ⟨_, rfl⟩
 rw [← hwk] at Bw c0 c1 HS HR HP ⊢
 clear hwk
 obtain ⟨w9, hw9⟩ : ∃ X, X = (((((wk.alloc (.cells #[.int .u32 2] 38)).alloc (.cells #[.int .u32 1] 38)).alloc (.cells #[.int .i64 0, .int .i64 1] 3)).alloc (.cells #[.int .u32 2] 38)).alloc (.cells #[.int .i64 1] 3)).alloc (.cells #[.slice (some ⟨wk.heap.size, 0, none⟩) 1 1, .slice none 0 0, .slice (some ⟨wk.heap.size + 1, 0, none⟩) 1 1, .slice (some ⟨wk.heap.size + 1 + 1, 0, none⟩) 2 2, .slice (some ⟨wk.heap.size + 1 + 1 + 1, 0, none⟩) 1 1, .slice (some ⟨wk.heap.size + 1 + 1 + 1 + 1, 0, none⟩) 1 1] 37) := ⟨_, rfl⟩
 have hbn : Below wk.heap.size wk w9 := by rw [hw9]; exact zS (zS (zS (zS (zS (zA _) (zA _)) (zA _)) (zA _)) (zA _)) (zA _)
 have hsz9 : w9.heap.size = wk.heap.size + 6 := by rw [hw9]; simp
 have t0 : Sl w9 (.slice (some ⟨wk.heap.size, 0, none⟩) 1 1) [2] := sl_oneN (by decide) (by rw [hw9]; repeat (first | (refine xAQ ?_ rfl; simp; done) | refine xAP ?_))
 have t1 : Sl w9 (.slice (some ⟨wk.heap.size + 1, 0, none⟩) 1 1) [1] := sl_oneN (by decide) (by rw [hw9]; repeat (first | (refine xAQ ?_ rfl; simp; done) | refine xAP ?_))
 have t2 : Is w9 (.slice (some ⟨wk.heap.size + 1 + 1, 0, none⟩) 2 2) [0, 1] := is_two (by omega) (by omega) (by rw [hw9]; repeat (first | (refine xAQ ?_ rfl; simp; done) | refine xAP ?_)) (by rw [hw9]; repeat (first | (refine xAQ ?_ rfl; simp; done) | refine xAP ?_))
 have t3 : Sl w9 (.slice (some ⟨wk.heap.size + 1 + 1 + 1, 0, none⟩) 1 1) [2] := sl_oneN (by decide) (by rw [hw9]; repeat (first | (refine xAQ ?_ rfl; simp; done) | refine xAP ?_))
 have t4 : Is w9 (.slice (some ⟨wk.heap.size + 1 + 1 + 1 + 1, 0, none⟩) 1 1) [1] := is_oneI (by omega) (by rw [hw9]; repeat (first | (refine xAQ ?_ rfl; simp; done) | refine xAP ?_))
 have HQ : Hid (Ms w9 (.slice (some ⟨wk.heap.size + 1 + 1 + 1 + 1 + 1, 0, none⟩) 3 3) exP) := hid (ms_lit (by omega) (by decide) ⟨⟨_, _, (by rw [hw9]; repeat (first | (refine xAQ ?_ rfl; simp; done) | refine xAP ?_)), (by rw [hw9]; repeat (first | (refine xAQ ?_ rfl; simp; done) | refine xAP ?_)), t0, Row.nil (by unfold maxLen; omega)⟩, ⟨_, _, (by rw [hw9]; repeat (first | (refine xAQ ?_ rfl; simp; done) | refine xAP ?_)), (by rw [hw9]; repeat (first | (refine xAQ ?_ rfl; simp; done) | refine xAP ?_)), t1, t2⟩, ⟨_, _, (by rw [hw9]; repeat (first | (refine xAQ ?_ rfl; simp; done) | refine xAP ?_)), (by rw [hw9]; repeat (first | (refine xAQ ?_ rfl; simp; done) | refine xAP ?_)), t3, t4⟩, trivial⟩)
 clear t0 t1 t2 t3 t4 hsz9
 go_upto_region 9 with fail
 rw [← hw9]
 clear hw9
 generalize wk.heap.size + 1 + 1 + 1 + 1 + 1 = gq at HQ ⊢
 obtain ⟨wn, hwn⟩ : ∃ X, X = w9 := ⟨_, rfl⟩
 rw [← hwn] at hbn HQ ⊢
 clear hwn
 have Bn := hid (zS Bw.out hbn)
 have q0 := hid ((zK hbn).cell _ _ c0.out)
 have HSn := hid (HS.out.kp (zK hbn))
 have HPn := hid (HP.out.kp (zK hbn))
 clear Bw c0 c1 HS HR HP hbn
 have Bw := Bn
 have c0 := q0
 have HS := HSn
 have HP := HPn
 clear Bn q0 HSn HPn
 obtain ⟨wk, hwk⟩ : ∃ X, X = wn := ⟨_, rfl⟩
 rw [← hwk] at Bw c0 HS HP HQ ⊢
 clear hwk
 dsimp +zetaDelta only
 have hS : Kp wk wk.drew := zK (xAG wk)
 refine wp_region_held_drew (S := fun w' => Kp wk w') (by kernel_rfl) hS (fun _ => ?_)
 obtain ⟨x0, hx0⟩ : ∃ X, X = wk.drew := ⟨_, rfl⟩
 have b0 : Below wk.heap.size wk x0 := by rw [hx0]; exact xAG wk
 rw [← hx0] at hS ⊢
 clear hx0
 refine tkH 0 (.int .i64 0) hS ?_
 (try simp only [Act.put]);(try simp only [sA]);(try simp only [sB,sC])
 refine tkH 1 (.bool true) hS ?_
 (try simp only [Act.put]);(try simp only [sA]);(try simp only [sB,sC])
 refine tkH 2 (.bool true) hS ?_
 (try simp only [Act.put]);(try simp only [sA]);(try simp only [sB,sC])
 refine tkH 3 (.slice pa exP.length pc) hS ?_
 (try simp only [Act.put]);(try simp only [sA]);(try simp only [sB,sC])
 refine tkH 4 (.slice (some ⟨gq, 0, none⟩) 3 3) hS ?_
 (try simp only [Act.put]);(try simp only [sA]);(try simp only [sB,sC])
 refine tkR 5 (AllReadyH.cons rfl (fun K hK => ?_) AllReadyH.nil)
 go_simp
 refine (same12_self _ _ exP x0 (HP.out.kp hS) (HQ.out.kp hS)).mono ?_
 rintro e x39 ⟨rfl, jx39⟩
 have kx39 : Kp wk x39 := hS.trans (zK jx39)
 refine hK.out _ _ kx39 (fun _ => ?_)
 replace hS := kx39
 clear hK K kx39
 (try simp only [Act.put]);(try simp only [sA]);(try simp only [sB,sC])
 refine tkH 6 (.bool true) hS ?_
 (try simp only [Act.put]);(try simp only [sA]);(try simp only [sB,sC])
 refine tkH 7 (.bool true) hS ?_
 (try simp only [Act.put]);(try simp only [sA]);(try simp only [sB,sC])
 refine tkH 8 (.int .i64 2) hS ?_
 (try simp only [Act.put]);(try simp only [sA]);(try simp only [sB,sC])
 refine tkH 9 (.bool true) hS ?_
 (try simp only [Act.put]);(try simp only [sA]);(try simp only [sB,sC])
 refine tkH 10 (.bool true) hS ?_
 (try simp only [Act.put]);(try simp only [sA]);(try simp only [sB,sC])
 refine tkH 11 (.bool true) hS ?_
 (try simp only [Act.put]);(try simp only [sA]);(try simp only [sB,sC])
 refine tkH 12 (.int .i64 0) hS ?_
 (try simp only [Act.put]);(try simp only [sA]);(try simp only [sB,sC])
 refine tkH 13 (.bool true) hS ?_
 (try simp only [Act.put]);(try simp only [sA]);(try simp only [sB,sC])
 refine tkH 14 (.bool true) hS ?_
 (try simp only [Act.put]);(try simp only [sA]);(try simp only [sB,sC])
 refine tkH 15 (.bool true) hS ?_
 (try simp only [Act.put]);(try simp only [sA]);(try simp only [sB,sC])
 refine tkH 16 (.int .i64 1) hS ?_
 (try simp only [Act.put]);(try simp only [sA]);(try simp only [sB,sC])
 refine tkH 17 (.bool true) hS ?_
 (try simp only [Act.put]);(try simp only [sA]);(try simp only [sB,sC])
 refine tkH 18 (.bool true) hS ?_
 (try simp only [Act.put]);(try simp only [sA]);(try simp only [sB,sC])
 refine tkH 19 (.bool true) hS ?_
 (try simp only [Act.put]);(try simp only [sA]);(try simp only [sB,sC])
 refine tkH 20 (.int .i64 0) hS ?_
 (try simp only [Act.put]);(try simp only [sA]);(try simp only [sB,sC])
 refine tkH 21 (.bool true) hS ?_
 (try simp only [Act.put]);(try simp only [sA]);(try simp only [sB,sC])
 refine tkH 22 (.bool true) hS ?_
 (try simp only [Act.put]);(try simp only [sA]);(try simp only [sB,sC])
 refine tkH 23 (.bool true) hS ?_
 (try simp only [Act.put]);(try simp only [sA]);(try simp only [sB,sC])
 refine tkH 24 (.int .i64 0) hS ?_
 (try simp only [Act.put]);(try simp only [sA]);(try simp only [sB,sC])
 refine tkH 25 (.bool true) hS ?_
 (try simp only [Act.put]);(try simp only [sA]);(try simp only [sB,sC])
 refine tkH 26 (.bool true) hS ?_
 (try simp only [Act.put]);(try simp only [sA]);(try simp only [sB,sC])
 refine tkH 27 (.bool true) hS ?_
 (try simp only [Act.put]);(try simp only [sA]);(try simp only [sB,sC])
 refine tkH 28 (.int .i64 0) hS ?_
 (try simp only [Act.put]);(try simp only [sA]);(try simp only [sB,sC])
 refine tkH 29 (.bool true) hS ?_
 (try simp only [Act.put]);(try simp only [sA]);(try simp only [sB,sC])
 refine tkH 30 (.bool true) hS ?_
 (try simp only [Act.put]);(try simp only [sA]);(try simp only [sB,sC])
 refine tkH 31 (.bool true) hS ?_
 (try simp only [Act.put]);(try simp only [sA]);(try simp only [sB,sC])
 refine tkH 32 (.int .i64 120) hS ?_
 (try simp only [Act.put]);(try simp only [sA]);(try simp only [sB,sC])
 refine tkH 33 (.bool true) hS ?_
 (try simp only [Act.put]);(try simp only [sA]);(try simp only [sB,sC])
 refine tkH 34 (.bool true) hS ?_
 (try simp only [Act.put]);(try simp only [sA]);(try simp only [sB,sC])
 refine tkH 35 (.bool true) hS ?_
 (try simp only [Act.put]);(try simp only [sA]);(try simp only [sB,sC])
 refine tkH 36 (.int .i64 120) hS ?_
 (try simp only [Act.put]);(try simp only [sA]);(try simp only [sB,sC])
 refine tkH 37 (.bool true) hS ?_
 (try simp only [Act.put]);(try simp only [sA]);(try simp only [sB,sC])
 refine tkH 38 (.bool true) hS ?_
 (try simp only [Act.put]);(try simp only [sA]);(try simp only [sB,sC])
 refine tkH 39 (.bool true) hS ?_
 (try simp only [Act.put]);(try simp only [sA]);(try simp only [sB,sC])
 refine tkH 40 (.pointer (some ⟨gb, 0, none⟩)) hS ?_
 (try simp only [Act.put]);(try simp only [sA]);(try simp only [sB,sC])
 refine tkH 41 (.slice (some ⟨gs, os, none⟩) sumS.length sc) hS (hy := Or.inl ⟨by kernel_rfl, fun w' h => by have hh0 := h.cell _ _ c0.out; go_simp⟩) ?_
 (try simp only [Act.put]);(try simp only [sA]);(try simp only [sB,sC])
 refine tkR 42 (AllReadyH.cons rfl (fun K hK => ?_) AllReadyH.nil)
 go_simp
 refine (xAH 1 x39 (by decide)).mono ?_
 rintro e x40 ⟨gc1, v0c, v1c, v2c, rfl, hoc, hec, jx40⟩
 have kx40 : Kp wk x40 := hS.trans (zK jx40)
 refine hK.out _ _ kx40 (fun _ => ?_)
 replace hS := kx40
 clear hK K kx40
 (try simp only [Act.put]);(try simp only [sA]);(try simp only [sB,sC])
 have hbsc : w.heap.size ≤ x39.heap.size := Nat.le_trans Bw.out.size (zS b0 jx39).size
 refine tkR 43 (AllReadyH.cons rfl (fun K hK => ?_) AllReadyH.nil)
 go_simp
 refine (xCK _ _ sumS (worthL 1) x40 (HS.out.kp hS) (hoc.ins hec.els) (HT.out.below (zS Bw.out (zS b0 (zS jx39 jx40))))).mono ?_
 rintro e x41 ⟨rfl, jx41⟩
 rw [ex12_7]
 have kx41 : Kp wk x41 := hS.trans (zK jx41)
 refine hK.out _ _ kx41 (fun _ => ?_)
 replace hS := kx41
 clear hK K kx41
 (try simp only [Act.put]);(try simp only [sA]);(try simp only [sB,sC])
 refine tkH 44 (.bool true) hS ?_
 (try simp only [Act.put]);(try simp only [sA]);(try simp only [sB,sC])
 refine tkH 45 (.bool true) hS ?_
 (try simp only [Act.put]);(try simp only [sA]);(try simp only [sB,sC])
 refine tkH 46 (.bool true) hS ?_
 (try simp only [Act.put]);(try simp only [sA]);(try simp only [sB,sC])
 refine tkH 47 (.pointer (some ⟨gb, 0, none⟩)) hS ?_
 (try simp only [Act.put]);(try simp only [sA]);(try simp only [sB,sC])
 refine tkH 48 (.slice (some ⟨gs, os, none⟩) sumS.length sc) hS (hy := Or.inl ⟨by kernel_rfl, fun w' h => by have hh0 := h.cell _ _ c0.out; go_simp⟩) ?_
 (try simp only [Act.put]);(try simp only [sA]);(try simp only [sB,sC])
 refine tkR 49 (AllReadyH.cons rfl (fun K hK => ?_) AllReadyH.nil)
 go_simp
 refine (xAH 2 x41 (by decide)).mono ?_
 rintro e x42 ⟨gd1, v0d, v1d, v2d, rfl, hod, hed, jx42⟩
 have kx42 : Kp wk x42 := hS.trans (zK jx42)
 refine hK.out _ _ kx42 (fun _ => ?_)
 replace hS := kx42
 clear hK K kx42
 (try simp only [Act.put]);(try simp only [sA]);(try simp only [sB,sC])
 have hbsd : w.heap.size ≤ x41.heap.size := Nat.le_trans Bw.out.size (zS b0 (zS (zS jx39 jx40) jx41)).size
 refine tkR 50 (AllReadyH.cons rfl (fun K hK => ?_) AllReadyH.nil)
 go_simp
 refine (xBC _ _ sumS (worthL 2) x42 (HS.out.kp hS) (hod.ins hed.els) (HT.out.below (zS Bw.out (zS b0 (zS (zS (zS jx39 jx40) jx41) jx42))))).mono ?_
 rintro e x43 ⟨rfl, jx43⟩
 rw [ex12_8]
 have kx43 : Kp wk x43 := hS.trans (zK jx43)
 refine hK.out _ _ kx43 (fun _ => ?_)
 replace hS := kx43
 clear hK K kx43
 (try simp only [Act.put]);(try simp only [sA]);(try simp only [sB,sC])
 refine tkH 51 (.bool true) hS ?_
 (try simp only [Act.put]);(try simp only [sA]);(try simp only [sB,sC])
 refine tkH 52 (.bool true) hS ?_
 (try simp only [Act.put]);(try simp only [sA]);(try simp only [sB,sC])
 refine tkH 53 (.pointer (some ⟨gb, 0, none⟩)) hS ?_
 (try simp only [Act.put]);(try simp only [sA]);(try simp only [sB,sC])
 refine tkH 54 (.slice (some ⟨gs, os, none⟩) sumS.length sc) hS (hy := Or.inl ⟨by kernel_rfl, fun w' h => by have hh0 := h.cell _ _ c0.out; go_simp⟩) ?_
 (try simp only [Act.put]);(try simp only [sA]);(try simp only [sB,sC])
 refine wpAnyH_ready (rs := [55, 57, 58]) (by kernel_rfl) (by simp) (AllReadyH.cons rfl (fun K hK => ?_) (AllReadyH.cons rfl (fun K hK => ?_) (AllReadyH.cons rfl (fun K hK => ?_) AllReadyH.nil)))
 ·as_aux_lemma =>
    go_simp
    refine (xAH 2 x43 (by decide)).mono ?_
    rintro e x44 ⟨ge1, v0e, v1e, v2e, rfl, hoe, hee, jx44⟩
    have kx44 : Kp wk x44 := hS.trans (zK jx44)
    refine hK.out _ _ kx44 (fun _ => ?_)
    replace hS := kx44
    clear hK K kx44
    (try simp only [Act.put]);(try simp only [sA]);(try simp only [sB,sC])
    have hbse : w.heap.size ≤ x43.heap.size := Nat.le_trans Bw.out.size (zS b0 (zS (zS (zS (zS jx39 jx40) jx41) jx42) jx43)).size
    have hxe : x0.heap.size ≤ x43.heap.size := ((zS (zS (zS (zS jx39 jx40) jx41) jx42) jx43)).size
    refine tkH 56 (.slice (some ⟨ge1, 0, none⟩) 2 3) hS ?_
    (try simp only [Act.put]);(try simp only [sA]);(try simp only [sB,sC])
    refine wpAnyH_ready (rs := [57, 58]) (by kernel_rfl) (by simp) (AllReadyH.cons rfl (fun K hK => ?_) (AllReadyH.cons rfl (fun K hK => ?_) AllReadyH.nil))
    ·as_aux_lemma =>
       go_simp
       have jx45 := zA (w := x44) (.cells #[.int .u32 1] 38)
       have hu57 := ow_new1 (w := x44) (base := x0.heap.size) ((zS (zS (zS (zS (zS jx39 jx40) jx41) jx42) jx43) jx44)).size
       obtain ⟨x45, hx45⟩ : ∃ X, X = x44.alloc (.cells #[.int .u32 1] 38) := ⟨_, rfl⟩
       rw [← hx45] at jx45 hu57 ⊢
       clear hx45
       obtain ⟨g57, hg57⟩ : ∃ X, X = x44.heap.size := ⟨_, rfl⟩
       rw [← hg57] at hu57 ⊢
       clear hg57
       have kx45 : Kp wk x45 := hS.trans (zK jx45)
       refine hK.out _ _ kx45 (fun _ => ?_)
       replace hS := kx45
       clear hK K kx45
       (try simp only [Act.put]);(try simp only [sA]);(try simp only [sB,sC])
       refine tkR 58 (AllReadyH.cons rfl (fun K hK => ?_) AllReadyH.nil)
       go_simp
       have jx46 := zA (w := x45) (.cells #[.int .i64 1] 3)
       have hu58 := owI_new1 (w := x45) (base := x0.heap.size) ((zS (zS (zS (zS (zS (zS jx39 jx40) jx41) jx42) jx43) jx44) jx45)).size
       obtain ⟨x46, hx46⟩ : ∃ X, X = x45.alloc (.cells #[.int .i64 1] 3) := ⟨_, rfl⟩
       rw [← hx46] at jx46 hu58 ⊢
       clear hx46
       obtain ⟨g58, hg58⟩ : ∃ X, X = x45.heap.size := ⟨_, rfl⟩
       rw [← hg58] at hu58 ⊢
       clear hg58
       have kx46 : Kp wk x46 := hS.trans (zK jx46)
       refine hK.out _ _ kx46 (fun _ => ?_)
       replace hS := kx46
       clear hK K kx46
       (try simp only [Act.put]);(try simp only [sA]);(try simp only [sB,sC])
       refine tkH 59 (.agg #[.slice (some ⟨g57, 0, none⟩) 1 1, .slice (some ⟨g58, 0, none⟩) 1 1]) hS ?_
       (try simp only [Act.put]);(try simp only [sA]);(try simp only [sB,sC])
       refine tkR 60 (AllReadyH.cons rfl (fun K hK => ?_) AllReadyH.nil)
       go_simp
       have jx47 := zA (w := x46) (.cells #[.slice (some ⟨g57, 0, none⟩) 1 1, .slice (some ⟨g58, 0, none⟩) 1 1] 37)
       have hu60 := om_new1 (w := x46) (base := x0.heap.size) (m := ([1], [1])) ((zS (zS (zS (zS (zS (zS (zS jx39 jx40) jx41) jx42) jx43) jx44) jx45) jx46)).size (hu57.since jx46) hu58
       obtain ⟨x47, hx47⟩ : ∃ X, X = x46.alloc (.cells #[.slice (some ⟨g57, 0, none⟩) 1 1, .slice (some ⟨g58, 0, none⟩) 1 1] 37) := ⟨_, rfl⟩
       rw [← hx47] at jx47 hu60 ⊢
       clear hx47
       obtain ⟨g60, hg60⟩ : ∃ X, X = x46.heap.size := ⟨_, rfl⟩
       rw [← hg60] at hu60 ⊢
       clear hg60
       have kx47 : Kp wk x47 := hS.trans (zK jx47)
       refine hK.out _ _ kx47 (fun _ => ?_)
       replace hS := kx47
       clear hK K kx47
       (try simp only [Act.put]);(try simp only [sA]);(try simp only [sB,sC])
       refine tkH 61 (.agg #[.int .i64 2, .slice (some ⟨g60, 0, none⟩) 1 1]) hS ?_
       (try simp only [Act.put]);(try simp only [sA]);(try simp only [sB,sC])
       refine tkR 62 (AllReadyH.cons rfl (fun K hK => ?_) AllReadyH.nil)
       go_simp
       have jx48 := zA (w := x47) (.cells #[.int .i64 2, .slice (some ⟨g60, 0, none⟩) 1 1] 51)
       obtain ⟨g62, hg62⟩ : ∃ X, X = x47.heap.size := ⟨_, rfl⟩
       have y62 : ∀ V, V = x47.alloc (.cells #[.int .i64 2, .slice (some ⟨g60, 0, none⟩) 1 1] 51) → V.cell? ⟨g62, 0, none⟩ = some (.int .i64 2) ∧ V.cell? ⟨g62, 1, none⟩ = some (.slice (some ⟨g60, 0, none⟩) 1 1) := fun V hV => by rw [hV, hg62]; exact ⟨xAB rfl, xAB rfl⟩
       obtain ⟨x48, hx48⟩ : ∃ X, X = x47.alloc (.cells #[.int .i64 2, .slice (some ⟨g60, 0, none⟩) 1 1] 51) := ⟨_, rfl⟩
       have z62 := y62 _ hx48
       clear y62
       rw [← hx48] at jx48 ⊢
       clear hx48
       rw [← hg62]
       clear hg62
       have kx48 : Kp wk x48 := hS.trans (zK jx48)
       refine hK.out _ _ kx48 (fun _ => ?_)
       replace hS := kx48
       clear hK K kx48
       (try simp only [Act.put]);(try simp only [sA]);(try simp only [sB,sC])
       refine tkR 63 (AllReadyH.cons rfl (fun K hK => ?_) AllReadyH.nil)
       have zz : x48.cell? ⟨g62, 0, none⟩ = some (.int .i64 2) ∧ x48.cell? ⟨g62, 1, none⟩ = some (.slice (some ⟨g60, 0, none⟩) 1 1) := z62
       have hoe9 := (hoe.later (zS (zS (zS jx45 jx46) jx47) jx48)).cut (k := 2) (by simp) (by simp)
       have hee9 := (hee.later (zS (zS (zS jx45 jx46) jx47) jx48)).take 2
       have hbe9 : x0.heap.size ≤ x48.heap.size := ((zS (zS (zS (zS (zS (zS (zS (zS (zS jx39 jx40) jx41) jx42) jx43) jx44) jx45) jx46) jx47) jx48)).size
       obtain ⟨v9, x49, hru9, ho9, hg9⟩ := OwN.snocAt 23 (x := 2) (u := (.slice (some ⟨g60, 0, none⟩) 1 1)) hoe9 zz (Nat.le_of_lt hoe9.low) rfl (by simp)
       have hee10 := hee9.grown hoe9 hg9
       have hom10 := ((hu60.later jx48)).grownN hoe9 hg9
       have b9 : Below x0.heap.size x0 x48 := (zS (zS (zS (zS (zS (zS (zS (zS (zS jx39 jx40) jx41) jx42) jx43) jx44) jx45) jx46) jx47) jx48)
       have b10 : Below x0.heap.size x0 x49 := b9.grown hg9 b9.size (fun j hj => Nat.le_trans hxe (own_blk hoe9 hj))
       have kp10 : Kp wk x49 := (zK b0).trans (zK b10)
       refine xAO (by kernel_rfl) _ _ 23 rfl _ _ rfl rfl hru9 ?_
       refine hK.out _ _ kp10 (fun _ => ?_)
       clear hK K hS hru9
       have hS := kp10
       (try simp only [Act.put]);(try simp only [sA]);(try simp only [sB,sC])
       refine tkR 64 (AllReadyH.cons rfl (fun K hK => ?_) AllReadyH.nil)
       go_simp
       refine (xBC _ _ sumS ((worthL 2).take 2 ++ [(2, [([1], [1])])]) x49 (HS.out.kp kp10) (ho9.ins (Els.snoc (c := (2, (.slice (some ⟨g60, 0, none⟩) 1 1))) (x := (2, [([1], [1])])) hee10.els rfl (by decide) (by decide) hom10.ms)) (HT.out.below (zS Bw.out (zS b0 b10)))).mono ?_
       rintro e x50 ⟨rfl, jx50⟩
       have kx50 : Kp wk x50 := hS.trans (zK jx50)
       rw [ex12_9]
       refine hK.out _ _ kx50 (fun _ => ?_)
       replace hS := kx50
       clear hK K kx50
       (try simp only [Act.put]);(try simp only [sA]);(try simp only [sB,sC])
       refine tkH 65 (.bool true) hS ?_
       (try simp only [Act.put]);(try simp only [sA]);(try simp only [sB,sC])
       refine tkH 66 (.bool true) hS ?_
       (try simp only [Act.put]);(try simp only [sA]);(try simp only [sB,sC])
       refine tkH 67 (.bool true) hS ?_
       (try simp only [Act.put]);(try simp only [sA]);(try simp only [sB,sC])
       have Bf := hid (zS Bw.out (zS (zS b0 b10) jx50))
       refine wpAnyH_done (by kernel_rfl) ?_ _
       (try simp only [List.append]); (try simp only [Act.put]); (try simp only [sD]); (try simp only [sE, sF]); (try simp only [sA]); (try simp only [sC, sB])
       clear hS
       go_wp2
       go_ret
       first | exact ⟨by kernel_rfl, Bf.out⟩ | exact ⟨by go_simp, Bf.out⟩ | exact ⟨by simp, Bf.out⟩
    as_aux_lemma =>
      go_simp
      have jx51 := zA (w := x44) (.cells #[.int .i64 1] 3)
      have hu58 := owI_new1 (w := x44) (base := x0.heap.size) ((zS (zS (zS (zS (zS jx39 jx40) jx41) jx42) jx43) jx44)).size
      obtain ⟨x51, hx51⟩ : ∃ X, X = x44.alloc (.cells #[.int .i64 1] 3) := ⟨_, rfl⟩
      rw [← hx51] at jx51 hu58 ⊢
      clear hx51
      obtain ⟨g58, hg58⟩ : ∃ X, X = x44.heap.size := ⟨_, rfl⟩
      rw [← hg58] at hu58 ⊢
      clear hg58
      have kx51 : Kp wk x51 := hS.trans (zK jx51)
      refine hK.out _ _ kx51 (fun _ => ?_)
      replace hS := kx51
      clear hK K kx51
      (try simp only [Act.put]);(try simp only [sA]);(try simp only [sB,sC])
      refine tkR 57 (AllReadyH.cons rfl (fun K hK => ?_) AllReadyH.nil)
      go_simp
      have jx52 := zA (w := x51) (.cells #[.int .u32 1] 38)
      have hu57 := ow_new1 (w := x51) (base := x0.heap.size) ((zS (zS (zS (zS (zS (zS jx39 jx40) jx41) jx42) jx43) jx44) jx51)).size
      obtain ⟨x52, hx52⟩ : ∃ X, X = x51.alloc (.cells #[.int .u32 1] 38) := ⟨_, rfl⟩
      rw [← hx52] at jx52 hu57 ⊢
      clear hx52
      obtain ⟨g57, hg57⟩ : ∃ X, X = x51.heap.size := ⟨_, rfl⟩
      rw [← hg57] at hu57 ⊢
      clear hg57
      have kx52 : Kp wk x52 := hS.trans (zK jx52)
      refine hK.out _ _ kx52 (fun _ => ?_)
      replace hS := kx52
      clear hK K kx52
      (try simp only [Act.put]);(try simp only [sA]);(try simp only [sB,sC])
      refine tkH 59 (.agg #[.slice (some ⟨g57, 0, none⟩) 1 1, .slice (some ⟨g58, 0, none⟩) 1 1]) hS ?_
      (try simp only [Act.put]);(try simp only [sA]);(try simp only [sB,sC])
      refine tkR 60 (AllReadyH.cons rfl (fun K hK => ?_) AllReadyH.nil)
      go_simp
      have jx53 := zA (w := x52) (.cells #[.slice (some ⟨g57, 0, none⟩) 1 1, .slice (some ⟨g58, 0, none⟩) 1 1] 37)
      have hu60 := om_new1 (w := x52) (base := x0.heap.size) (m := ([1], [1])) ((zS (zS (zS (zS (zS (zS (zS jx39 jx40) jx41) jx42) jx43) jx44) jx51) jx52)).size hu57 (hu58.later jx52)
      obtain ⟨x53, hx53⟩ : ∃ X, X = x52.alloc (.cells #[.slice (some ⟨g57, 0, none⟩) 1 1, .slice (some ⟨g58, 0, none⟩) 1 1] 37) := ⟨_, rfl⟩
      rw [← hx53] at jx53 hu60 ⊢
      clear hx53
      obtain ⟨g60, hg60⟩ : ∃ X, X = x52.heap.size := ⟨_, rfl⟩
      rw [← hg60] at hu60 ⊢
      clear hg60
      have kx53 : Kp wk x53 := hS.trans (zK jx53)
      refine hK.out _ _ kx53 (fun _ => ?_)
      replace hS := kx53
      clear hK K kx53
      (try simp only [Act.put]);(try simp only [sA]);(try simp only [sB,sC])
      refine tkH 61 (.agg #[.int .i64 2, .slice (some ⟨g60, 0, none⟩) 1 1]) hS ?_
      (try simp only [Act.put]);(try simp only [sA]);(try simp only [sB,sC])
      refine tkR 62 (AllReadyH.cons rfl (fun K hK => ?_) AllReadyH.nil)
      go_simp
      have jx54 := zA (w := x53) (.cells #[.int .i64 2, .slice (some ⟨g60, 0, none⟩) 1 1] 51)
      obtain ⟨g62, hg62⟩ : ∃ X, X = x53.heap.size := ⟨_, rfl⟩
      have y62 : ∀ V, V = x53.alloc (.cells #[.int .i64 2, .slice (some ⟨g60, 0, none⟩) 1 1] 51) → V.cell? ⟨g62, 0, none⟩ = some (.int .i64 2) ∧ V.cell? ⟨g62, 1, none⟩ = some (.slice (some ⟨g60, 0, none⟩) 1 1) := fun V hV => by rw [hV, hg62]; exact ⟨xAB rfl, xAB rfl⟩
      obtain ⟨x54, hx54⟩ : ∃ X, X = x53.alloc (.cells #[.int .i64 2, .slice (some ⟨g60, 0, none⟩) 1 1] 51) := ⟨_, rfl⟩
      have z62 := y62 _ hx54
      clear y62
      rw [← hx54] at jx54 ⊢
      clear hx54
      rw [← hg62]
      clear hg62
      have kx54 : Kp wk x54 := hS.trans (zK jx54)
      refine hK.out _ _ kx54 (fun _ => ?_)
      replace hS := kx54
      clear hK K kx54
      (try simp only [Act.put]);(try simp only [sA]);(try simp only [sB,sC])
      refine tkR 63 (AllReadyH.cons rfl (fun K hK => ?_) AllReadyH.nil)
      have zz : x54.cell? ⟨g62, 0, none⟩ = some (.int .i64 2) ∧ x54.cell? ⟨g62, 1, none⟩ = some (.slice (some ⟨g60, 0, none⟩) 1 1) := z62
      have hoe9 := (hoe.later (zS (zS (zS jx51 jx52) jx53) jx54)).cut (k := 2) (by simp) (by simp)
      have hee9 := (hee.later (zS (zS (zS jx51 jx52) jx53) jx54)).take 2
      have hbe9 : x0.heap.size ≤ x54.heap.size := ((zS (zS (zS (zS (zS (zS (zS (zS (zS jx39 jx40) jx41) jx42) jx43) jx44) jx51) jx52) jx53) jx54)).size
      obtain ⟨v9, x55, hru9, ho9, hg9⟩ := OwN.snocAt 23 (x := 2) (u := (.slice (some ⟨g60, 0, none⟩) 1 1)) hoe9 zz (Nat.le_of_lt hoe9.low) rfl (by simp)
      have hee10 := hee9.grown hoe9 hg9
      have hom10 := ((hu60.later jx54)).grownN hoe9 hg9
      have b9 : Below x0.heap.size x0 x54 := (zS (zS (zS (zS (zS (zS (zS (zS (zS jx39 jx40) jx41) jx42) jx43) jx44) jx51) jx52) jx53) jx54)
      have b10 : Below x0.heap.size x0 x55 := b9.grown hg9 b9.size (fun j hj => Nat.le_trans hxe (own_blk hoe9 hj))
      have kp10 : Kp wk x55 := (zK b0).trans (zK b10)
      refine xAO (by kernel_rfl) _ _ 23 rfl _ _ rfl rfl hru9 ?_
      refine hK.out _ _ kp10 (fun _ => ?_)
      clear hK K hS hru9
      have hS := kp10
      (try simp only [Act.put]);(try simp only [sA]);(try simp only [sB,sC])
      refine tkR 64 (AllReadyH.cons rfl (fun K hK => ?_) AllReadyH.nil)
      go_simp
      refine (xBC _ _ sumS ((worthL 2).take 2 ++ [(2, [([1], [1])])]) x55 (HS.out.kp kp10) (ho9.ins (Els.snoc (c := (2, (.slice (some ⟨g60, 0, none⟩) 1 1))) (x := (2, [([1], [1])])) hee10.els rfl (by decide) (by decide) hom10.ms)) (HT.out.below (zS Bw.out (zS b0 b10)))).mono ?_
      rintro e x56 ⟨rfl, jx56⟩
      have kx56 : Kp wk x56 := hS.trans (zK jx56)
      rw [ex12_9]
      refine hK.out _ _ kx56 (fun _ => ?_)
      replace hS := kx56
      clear hK K kx56
      (try simp only [Act.put]);(try simp only [sA]);(try simp only [sB,sC])
      refine tkH 65 (.bool true) hS ?_
      (try simp only [Act.put]);(try simp only [sA]);(try simp only [sB,sC])
      refine tkH 66 (.bool true) hS ?_
      (try simp only [Act.put]);(try simp only [sA]);(try simp only [sB,sC])
      refine tkH 67 (.bool true) hS ?_
      (try simp only [Act.put]);(try simp only [sA]);(try simp only [sB,sC])
      have Bf := hid (zS Bw.out (zS (zS b0 b10) jx56))
      refine wpAnyH_done (by kernel_rfl) ?_ _
      (try simp only [List.append]); (try simp only [Act.put]); (try simp only [sD]); (try simp only [sE, sF]); (try simp only [sA]); (try simp only [sC, sB])
      clear hS
      go_wp2
      go_ret
      first | exact ⟨by kernel_rfl, Bf.out⟩ | exact ⟨by go_simp, Bf.out⟩ | exact ⟨by simp, Bf.out⟩
 ·as_aux_lemma =>
    go_simp
    have jx57 := zA (w := x43) (.cells #[.int .u32 1] 38)
    have hu57 := ow_new1 (w := x43) (base := x0.heap.size) ((zS (zS (zS (zS jx39 jx40) jx41) jx42) jx43)).size
    obtain ⟨x57, hx57⟩ : ∃ X, X = x43.alloc (.cells #[.int .u32 1] 38) := ⟨_, rfl⟩
    rw [← hx57] at jx57 hu57 ⊢
    clear hx57
    obtain ⟨g57, hg57⟩ : ∃ X, X = x43.heap.size := ⟨_, rfl⟩
    rw [← hg57] at hu57 ⊢
    clear hg57
    have kx57 : Kp wk x57 := hS.trans (zK jx57)
    refine hK.out _ _ kx57 (fun _ => ?_)
    replace hS := kx57
    clear hK K kx57
    (try simp only [Act.put]);(try simp only [sA]);(try simp only [sB,sC])
    refine wpAnyH_ready (rs := [55, 58]) (by kernel_rfl) (by simp) (AllReadyH.cons rfl (fun K hK => ?_) (AllReadyH.cons rfl (fun K hK => ?_) AllReadyH.nil))
    ·as_aux_lemma =>
       go_simp
       refine (xAH 2 x57 (by decide)).mono ?_
       rintro e x58 ⟨ge1, v0e, v1e, v2e, rfl, hoe, hee, jx58⟩
       have kx58 : Kp wk x58 := hS.trans (zK jx58)
       refine hK.out _ _ kx58 (fun _ => ?_)
       replace hS := kx58
       clear hK K kx58
       (try simp only [Act.put]);(try simp only [sA]);(try simp only [sB,sC])
       have hbse : w.heap.size ≤ x57.heap.size := Nat.le_trans Bw.out.size (zS b0 (zS (zS (zS (zS (zS jx39 jx40) jx41) jx42) jx43) jx57)).size
       have hxe : x0.heap.size ≤ x57.heap.size := ((zS (zS (zS (zS (zS jx39 jx40) jx41) jx42) jx43) jx57)).size
       refine tkH 56 (.slice (some ⟨ge1, 0, none⟩) 2 3) hS ?_
       (try simp only [Act.put]);(try simp only [sA]);(try simp only [sB,sC])
       refine tkR 58 (AllReadyH.cons rfl (fun K hK => ?_) AllReadyH.nil)
       go_simp
       have jx59 := zA (w := x58) (.cells #[.int .i64 1] 3)
       have hu58 := owI_new1 (w := x58) (base := x0.heap.size) ((zS (zS (zS (zS (zS (zS jx39 jx40) jx41) jx42) jx43) jx57) jx58)).size
       obtain ⟨x59, hx59⟩ : ∃ X, X = x58.alloc (.cells #[.int .i64 1] 3) := ⟨_, rfl⟩
       rw [← hx59] at jx59 hu58 ⊢
       clear hx59
       obtain ⟨g58, hg58⟩ : ∃ X, X = x58.heap.size := ⟨_, rfl⟩
       rw [← hg58] at hu58 ⊢
       clear hg58
       have kx59 : Kp wk x59 := hS.trans (zK jx59)
       refine hK.out _ _ kx59 (fun _ => ?_)
       replace hS := kx59
       clear hK K kx59
       (try simp only [Act.put]);(try simp only [sA]);(try simp only [sB,sC])
       refine tkH 59 (.agg #[.slice (some ⟨g57, 0, none⟩) 1 1, .slice (some ⟨g58, 0, none⟩) 1 1]) hS ?_
       (try simp only [Act.put]);(try simp only [sA]);(try simp only [sB,sC])
       refine tkR 60 (AllReadyH.cons rfl (fun K hK => ?_) AllReadyH.nil)
       go_simp
       have jx60 := zA (w := x59) (.cells #[.slice (some ⟨g57, 0, none⟩) 1 1, .slice (some ⟨g58, 0, none⟩) 1 1] 37)
       have hu60 := om_new1 (w := x59) (base := x0.heap.size) (m := ([1], [1])) ((zS (zS (zS (zS (zS (zS (zS jx39 jx40) jx41) jx42) jx43) jx57) jx58) jx59)).size (hu57.since (zS jx58 jx59)) hu58
       obtain ⟨x60, hx60⟩ : ∃ X, X = x59.alloc (.cells #[.slice (some ⟨g57, 0, none⟩) 1 1, .slice (some ⟨g58, 0, none⟩) 1 1] 37) := ⟨_, rfl⟩
       rw [← hx60] at jx60 hu60 ⊢
       clear hx60
       obtain ⟨g60, hg60⟩ : ∃ X, X = x59.heap.size := ⟨_, rfl⟩
       rw [← hg60] at hu60 ⊢
       clear hg60
       have kx60 : Kp wk x60 := hS.trans (zK jx60)
       refine hK.out _ _ kx60 (fun _ => ?_)
       replace hS := kx60
       clear hK K kx60
       (try simp only [Act.put]);(try simp only [sA]);(try simp only [sB,sC])
       refine tkH 61 (.agg #[.int .i64 2, .slice (some ⟨g60, 0, none⟩) 1 1]) hS ?_
       (try simp only [Act.put]);(try simp only [sA]);(try simp only [sB,sC])
       refine tkR 62 (AllReadyH.cons rfl (fun K hK => ?_) AllReadyH.nil)
       go_simp
       have jx61 := zA (w := x60) (.cells #[.int .i64 2, .slice (some ⟨g60, 0, none⟩) 1 1] 51)
       obtain ⟨g62, hg62⟩ : ∃ X, X = x60.heap.size := ⟨_, rfl⟩
       have y62 : ∀ V, V = x60.alloc (.cells #[.int .i64 2, .slice (some ⟨g60, 0, none⟩) 1 1] 51) → V.cell? ⟨g62, 0, none⟩ = some (.int .i64 2) ∧ V.cell? ⟨g62, 1, none⟩ = some (.slice (some ⟨g60, 0, none⟩) 1 1) := fun V hV => by rw [hV, hg62]; exact ⟨xAB rfl, xAB rfl⟩
       obtain ⟨x61, hx61⟩ : ∃ X, X = x60.alloc (.cells #[.int .i64 2, .slice (some ⟨g60, 0, none⟩) 1 1] 51) := ⟨_, rfl⟩
       have z62 := y62 _ hx61
       clear y62
       rw [← hx61] at jx61 ⊢
       clear hx61
       rw [← hg62]
       clear hg62
       have kx61 : Kp wk x61 := hS.trans (zK jx61)
       refine hK.out _ _ kx61 (fun _ => ?_)
       replace hS := kx61
       clear hK K kx61
       (try simp only [Act.put]);(try simp only [sA]);(try simp only [sB,sC])
       refine tkR 63 (AllReadyH.cons rfl (fun K hK => ?_) AllReadyH.nil)
       have zz : x61.cell? ⟨g62, 0, none⟩ = some (.int .i64 2) ∧ x61.cell? ⟨g62, 1, none⟩ = some (.slice (some ⟨g60, 0, none⟩) 1 1) := z62
       have hoe9 := (hoe.later (zS (zS jx59 jx60) jx61)).cut (k := 2) (by simp) (by simp)
       have hee9 := (hee.later (zS (zS jx59 jx60) jx61)).take 2
       have hbe9 : x0.heap.size ≤ x61.heap.size := ((zS (zS (zS (zS (zS (zS (zS (zS (zS jx39 jx40) jx41) jx42) jx43) jx57) jx58) jx59) jx60) jx61)).size
       obtain ⟨v9, x62, hru9, ho9, hg9⟩ := OwN.snocAt 23 (x := 2) (u := (.slice (some ⟨g60, 0, none⟩) 1 1)) hoe9 zz (Nat.le_of_lt hoe9.low) rfl (by simp)
       have hee10 := hee9.grown hoe9 hg9
       have hom10 := ((hu60.later jx61)).grownN hoe9 hg9
       have b9 : Below x0.heap.size x0 x61 := (zS (zS (zS (zS (zS (zS (zS (zS (zS jx39 jx40) jx41) jx42) jx43) jx57) jx58) jx59) jx60) jx61)
       have b10 : Below x0.heap.size x0 x62 := b9.grown hg9 b9.size (fun j hj => Nat.le_trans hxe (own_blk hoe9 hj))
       have kp10 : Kp wk x62 := (zK b0).trans (zK b10)
       refine xAO (by kernel_rfl) _ _ 23 rfl _ _ rfl rfl hru9 ?_
       refine hK.out _ _ kp10 (fun _ => ?_)
       clear hK K hS hru9
       have hS := kp10
       (try simp only [Act.put]);(try simp only [sA]);(try simp only [sB,sC])
       refine tkR 64 (AllReadyH.cons rfl (fun K hK => ?_) AllReadyH.nil)
       go_simp
       refine (xBC _ _ sumS ((worthL 2).take 2 ++ [(2, [([1], [1])])]) x62 (HS.out.kp kp10) (ho9.ins (Els.snoc (c := (2, (.slice (some ⟨g60, 0, none⟩) 1 1))) (x := (2, [([1], [1])])) hee10.els rfl (by decide) (by decide) hom10.ms)) (HT.out.below (zS Bw.out (zS b0 b10)))).mono ?_
       rintro e x63 ⟨rfl, jx63⟩
       have kx63 : Kp wk x63 := hS.trans (zK jx63)
       rw [ex12_9]
       refine hK.out _ _ kx63 (fun _ => ?_)
       replace hS := kx63
       clear hK K kx63
       (try simp only [Act.put]);(try simp only [sA]);(try simp only [sB,sC])
       refine tkH 65 (.bool true) hS ?_
       (try simp only [Act.put]);(try simp only [sA]);(try simp only [sB,sC])
       refine tkH 66 (.bool true) hS ?_
       (try simp only [Act.put]);(try simp only [sA]);(try simp only [sB,sC])
       refine tkH 67 (.bool true) hS ?_
       (try simp only [Act.put]);(try simp only [sA]);(try simp only [sB,sC])
       have Bf := hid (zS Bw.out (zS (zS b0 b10) jx63))
       refine wpAnyH_done (by kernel_rfl) ?_ _
       (try simp only [List.append]); (try simp only [Act.put]); (try simp only [sD]); (try simp only [sE, sF]); (try simp only [sA]); (try simp only [sC, sB])
       clear hS
       go_wp2
       go_ret
       first | exact ⟨by kernel_rfl, Bf.out⟩ | exact ⟨by go_simp, Bf.out⟩ | exact ⟨by simp, Bf.out⟩
    as_aux_lemma =>
      go_simp
      have jx64 := zA (w := x57) (.cells #[.int .i64 1] 3)
      have hu58 := owI_new1 (w := x57) (base := x0.heap.size) ((zS (zS (zS (zS (zS jx39 jx40) jx41) jx42) jx43) jx57)).size
      obtain ⟨x64, hx64⟩ : ∃ X, X = x57.alloc (.cells #[.int .i64 1] 3) := ⟨_, rfl⟩
      rw [← hx64] at jx64 hu58 ⊢
      clear hx64
      obtain ⟨g58, hg58⟩ : ∃ X, X = x57.heap.size := ⟨_, rfl⟩
      rw [← hg58] at hu58 ⊢
      clear hg58
      have kx64 : Kp wk x64 := hS.trans (zK jx64)
      refine hK.out _ _ kx64 (fun _ => ?_)
      replace hS := kx64
      clear hK K kx64
      (try simp only [Act.put]);(try simp only [sA]);(try simp only [sB,sC])
      refine tkH 59 (.agg #[.slice (some ⟨g57, 0, none⟩) 1 1, .slice (some ⟨g58, 0, none⟩) 1 1]) hS ?_
      (try simp only [Act.put]);(try simp only [sA]);(try simp only [sB,sC])
      refine wpAnyH_ready (rs := [55, 60]) (by kernel_rfl) (by simp) (AllReadyH.cons rfl (fun K hK => ?_) (AllReadyH.cons rfl (fun K hK => ?_) AllReadyH.nil))
      ·as_aux_lemma =>
         go_simp
         refine (xAH 2 x64 (by decide)).mono ?_
         rintro e x65 ⟨ge1, v0e, v1e, v2e, rfl, hoe, hee, jx65⟩
         have kx65 : Kp wk x65 := hS.trans (zK jx65)
         refine hK.out _ _ kx65 (fun _ => ?_)
         replace hS := kx65
         clear hK K kx65
         (try simp only [Act.put]);(try simp only [sA]);(try simp only [sB,sC])
         have hbse : w.heap.size ≤ x64.heap.size := Nat.le_trans Bw.out.size (zS b0 (zS (zS (zS (zS (zS (zS jx39 jx40) jx41) jx42) jx43) jx57) jx64)).size
         have hxe : x0.heap.size ≤ x64.heap.size := ((zS (zS (zS (zS (zS (zS jx39 jx40) jx41) jx42) jx43) jx57) jx64)).size
         refine tkH 56 (.slice (some ⟨ge1, 0, none⟩) 2 3) hS ?_
         (try simp only [Act.put]);(try simp only [sA]);(try simp only [sB,sC])
         refine tkR 60 (AllReadyH.cons rfl (fun K hK => ?_) AllReadyH.nil)
         go_simp
         have jx66 := zA (w := x65) (.cells #[.slice (some ⟨g57, 0, none⟩) 1 1, .slice (some ⟨g58, 0, none⟩) 1 1] 37)
         have hu60 := om_new1 (w := x65) (base := x0.heap.size) (m := ([1], [1])) ((zS (zS (zS (zS (zS (zS (zS jx39 jx40) jx41) jx42) jx43) jx57) jx64) jx65)).size (hu57.since (zS jx64 jx65)) (hu58.later jx65)
         obtain ⟨x66, hx66⟩ : ∃ X, X = x65.alloc (.cells #[.slice (some ⟨g57, 0, none⟩) 1 1, .slice (some ⟨g58, 0, none⟩) 1 1] 37) := ⟨_, rfl⟩
         rw [← hx66] at jx66 hu60 ⊢
         clear hx66
         obtain ⟨g60, hg60⟩ : ∃ X, X = x65.heap.size := ⟨_, rfl⟩
         rw [← hg60] at hu60 ⊢
         clear hg60
         have kx66 : Kp wk x66 := hS.trans (zK jx66)
         refine hK.out _ _ kx66 (fun _ => ?_)
         replace hS := kx66
         clear hK K kx66
         (try simp only [Act.put]);(try simp only [sA]);(try simp only [sB,sC])
         refine tkH 61 (.agg #[.int .i64 2, .slice (some ⟨g60, 0, none⟩) 1 1]) hS ?_
         (try simp only [Act.put]);(try simp only [sA]);(try simp only [sB,sC])
         refine tkR 62 (AllReadyH.cons rfl (fun K hK => ?_) AllReadyH.nil)
         go_simp
         have jx67 := zA (w := x66) (.cells #[.int .i64 2, .slice (some ⟨g60, 0, none⟩) 1 1] 51)
         obtain ⟨g62, hg62⟩ : ∃ X, X = x66.heap.size := ⟨_, rfl⟩
         have y62 : ∀ V, V = x66.alloc (.cells #[.int .i64 2, .slice (some ⟨g60, 0, none⟩) 1 1] 51) → V.cell? ⟨g62, 0, none⟩ = some (.int .i64 2) ∧ V.cell? ⟨g62, 1, none⟩ = some (.slice (some ⟨g60, 0, none⟩) 1 1) := fun V hV => by rw [hV, hg62]; exact ⟨xAB rfl, xAB rfl⟩
         obtain ⟨x67, hx67⟩ : ∃ X, X = x66.alloc (.cells #[.int .i64 2, .slice (some ⟨g60, 0, none⟩) 1 1] 51) := ⟨_, rfl⟩
         have z62 := y62 _ hx67
         clear y62
         rw [← hx67] at jx67 ⊢
         clear hx67
         rw [← hg62]
         clear hg62
         have kx67 : Kp wk x67 := hS.trans (zK jx67)
         refine hK.out _ _ kx67 (fun _ => ?_)
         replace hS := kx67
         clear hK K kx67
         (try simp only [Act.put]);(try simp only [sA]);(try simp only [sB,sC])
         refine tkR 63 (AllReadyH.cons rfl (fun K hK => ?_) AllReadyH.nil)
         have zz : x67.cell? ⟨g62, 0, none⟩ = some (.int .i64 2) ∧ x67.cell? ⟨g62, 1, none⟩ = some (.slice (some ⟨g60, 0, none⟩) 1 1) := z62
         have hoe9 := (hoe.later (zS jx66 jx67)).cut (k := 2) (by simp) (by simp)
         have hee9 := (hee.later (zS jx66 jx67)).take 2
         have hbe9 : x0.heap.size ≤ x67.heap.size := ((zS (zS (zS (zS (zS (zS (zS (zS (zS jx39 jx40) jx41) jx42) jx43) jx57) jx64) jx65) jx66) jx67)).size
         obtain ⟨v9, x68, hru9, ho9, hg9⟩ := OwN.snocAt 23 (x := 2) (u := (.slice (some ⟨g60, 0, none⟩) 1 1)) hoe9 zz (Nat.le_of_lt hoe9.low) rfl (by simp)
         have hee10 := hee9.grown hoe9 hg9
         have hom10 := ((hu60.later jx67)).grownN hoe9 hg9
         have b9 : Below x0.heap.size x0 x67 := (zS (zS (zS (zS (zS (zS (zS (zS (zS jx39 jx40) jx41) jx42) jx43) jx57) jx64) jx65) jx66) jx67)
         have b10 : Below x0.heap.size x0 x68 := b9.grown hg9 b9.size (fun j hj => Nat.le_trans hxe (own_blk hoe9 hj))
         have kp10 : Kp wk x68 := (zK b0).trans (zK b10)
         refine xAO (by kernel_rfl) _ _ 23 rfl _ _ rfl rfl hru9 ?_
         refine hK.out _ _ kp10 (fun _ => ?_)
         clear hK K hS hru9
         have hS := kp10
         (try simp only [Act.put]);(try simp only [sA]);(try simp only [sB,sC])
         refine tkR 64 (AllReadyH.cons rfl (fun K hK => ?_) AllReadyH.nil)
         go_simp
         refine (xBC _ _ sumS ((worthL 2).take 2 ++ [(2, [([1], [1])])]) x68 (HS.out.kp kp10) (ho9.ins (Els.snoc (c := (2, (.slice (some ⟨g60, 0, none⟩) 1 1))) (x := (2, [([1], [1])])) hee10.els rfl (by decide) (by decide) hom10.ms)) (HT.out.below (zS Bw.out (zS b0 b10)))).mono ?_
         rintro e x69 ⟨rfl, jx69⟩
         have kx69 : Kp wk x69 := hS.trans (zK jx69)
         rw [ex12_9]
         refine hK.out _ _ kx69 (fun _ => ?_)
         replace hS := kx69
         clear hK K kx69
         (try simp only [Act.put]);(try simp only [sA]);(try simp only [sB,sC])
         refine tkH 65 (.bool true) hS ?_
         (try simp only [Act.put]);(try simp only [sA]);(try simp only [sB,sC])
         refine tkH 66 (.bool true) hS ?_
         (try simp only [Act.put]);(try simp only [sA]);(try simp only [sB,sC])
         refine tkH 67 (.bool true) hS ?_
         (try simp only [Act.put]);(try simp only [sA]);(try simp only [sB,sC])
         have Bf := hid (zS Bw.out (zS (zS b0 b10) jx69))
         refine wpAnyH_done (by kernel_rfl) ?_ _
         (try simp only [List.append]); (try simp only [Act.put]); (try simp only [sD]); (try simp only [sE, sF]); (try simp only [sA]); (try simp only [sC, sB])
         clear hS
         go_wp2
         go_ret
         first | exact ⟨by kernel_rfl, Bf.out⟩ | exact ⟨by go_simp, Bf.out⟩ | exact ⟨by simp, Bf.out⟩
      as_aux_lemma =>
        go_simp
        have jx70 := zA (w := x64) (.cells #[.slice (some ⟨g57, 0, none⟩) 1 1, .slice (some ⟨g58, 0, none⟩) 1 1] 37)
        have hu60 := om_new1 (w := x64) (base := x0.heap.size) (m := ([1], [1])) ((zS (zS (zS (zS (zS (zS jx39 jx40) jx41) jx42) jx43) jx57) jx64)).size (hu57.since jx64) hu58
        obtain ⟨x70, hx70⟩ : ∃ X, X = x64.alloc (.cells #[.slice (some ⟨g57, 0, none⟩) 1 1, .slice (some ⟨g58, 0, none⟩) 1 1] 37) := ⟨_, rfl⟩
        rw [← hx70] at jx70 hu60 ⊢
        clear hx70
        obtain ⟨g60, hg60⟩ : ∃ X, X = x64.heap.size := ⟨_, rfl⟩
        rw [← hg60] at hu60 ⊢
        clear hg60
        have kx70 : Kp wk x70 := hS.trans (zK jx70)
        refine hK.out _ _ kx70 (fun _ => ?_)
        replace hS := kx70
        clear hK K kx70
        (try simp only [Act.put]);(try simp only [sA]);(try simp only [sB,sC])
        refine tkH 61 (.agg #[.int .i64 2, .slice (some ⟨g60, 0, none⟩) 1 1]) hS ?_
        (try simp only [Act.put]);(try simp only [sA]);(try simp only [sB,sC])
        refine wpAnyH_ready (rs := [55, 62]) (by kernel_rfl) (by simp) (AllReadyH.cons rfl (fun K hK => ?_) (AllReadyH.cons rfl (fun K hK => ?_) AllReadyH.nil))
        ·as_aux_lemma =>
           go_simp
           refine (xAH 2 x70 (by decide)).mono ?_
           rintro e x71 ⟨ge1, v0e, v1e, v2e, rfl, hoe, hee, jx71⟩
           have kx71 : Kp wk x71 := hS.trans (zK jx71)
           refine hK.out _ _ kx71 (fun _ => ?_)
           replace hS := kx71
           clear hK K kx71
           (try simp only [Act.put]);(try simp only [sA]);(try simp only [sB,sC])
           have hbse : w.heap.size ≤ x70.heap.size := Nat.le_trans Bw.out.size (zS b0 (zS (zS (zS (zS (zS (zS (zS jx39 jx40) jx41) jx42) jx43) jx57) jx64) jx70)).size
           have hxe : x0.heap.size ≤ x70.heap.size := ((zS (zS (zS (zS (zS (zS (zS jx39 jx40) jx41) jx42) jx43) jx57) jx64) jx70)).size
           refine tkH 56 (.slice (some ⟨ge1, 0, none⟩) 2 3) hS ?_
           (try simp only [Act.put]);(try simp only [sA]);(try simp only [sB,sC])
           refine tkR 62 (AllReadyH.cons rfl (fun K hK => ?_) AllReadyH.nil)
           go_simp
           have jx72 := zA (w := x71) (.cells #[.int .i64 2, .slice (some ⟨g60, 0, none⟩) 1 1] 51)
           obtain ⟨g62, hg62⟩ : ∃ X, X = x71.heap.size := ⟨_, rfl⟩
           have y62 : ∀ V, V = x71.alloc (.cells #[.int .i64 2, .slice (some ⟨g60, 0, none⟩) 1 1] 51) → V.cell? ⟨g62, 0, none⟩ = some (.int .i64 2) ∧ V.cell? ⟨g62, 1, none⟩ = some (.slice (some ⟨g60, 0, none⟩) 1 1) := fun V hV => by rw [hV, hg62]; exact ⟨xAB rfl, xAB rfl⟩
           obtain ⟨x72, hx72⟩ : ∃ X, X = x71.alloc (.cells #[.int .i64 2, .slice (some ⟨g60, 0, none⟩) 1 1] 51) := ⟨_, rfl⟩
           have z62 := y62 _ hx72
           clear y62
           rw [← hx72] at jx72 ⊢
           clear hx72
           rw [← hg62]
           clear hg62
           have kx72 : Kp wk x72 := hS.trans (zK jx72)
           refine hK.out _ _ kx72 (fun _ => ?_)
           replace hS := kx72
           clear hK K kx72
           (try simp only [Act.put]);(try simp only [sA]);(try simp only [sB,sC])
           refine tkR 63 (AllReadyH.cons rfl (fun K hK => ?_) AllReadyH.nil)
           have zz : x72.cell? ⟨g62, 0, none⟩ = some (.int .i64 2) ∧ x72.cell? ⟨g62, 1, none⟩ = some (.slice (some ⟨g60, 0, none⟩) 1 1) := z62
           have hoe9 := (hoe.later jx72).cut (k := 2) (by simp) (by simp)
           have hee9 := (hee.later jx72).take 2
           have hbe9 : x0.heap.size ≤ x72.heap.size := ((zS (zS (zS (zS (zS (zS (zS (zS (zS jx39 jx40) jx41) jx42) jx43) jx57) jx64) jx70) jx71) jx72)).size
           obtain ⟨v9, x73, hru9, ho9, hg9⟩ := OwN.snocAt 23 (x := 2) (u := (.slice (some ⟨g60, 0, none⟩) 1 1)) hoe9 zz (Nat.le_of_lt hoe9.low) rfl (by simp)
           have hee10 := hee9.grown hoe9 hg9
           have hom10 := ((hu60.later (zS jx71 jx72))).grownN hoe9 hg9
           have b9 : Below x0.heap.size x0 x72 := (zS (zS (zS (zS (zS (zS (zS (zS (zS jx39 jx40) jx41) jx42) jx43) jx57) jx64) jx70) jx71) jx72)
           have b10 : Below x0.heap.size x0 x73 := b9.grown hg9 b9.size (fun j hj => Nat.le_trans hxe (own_blk hoe9 hj))
           have kp10 : Kp wk x73 := (zK b0).trans (zK b10)
           refine xAO (by kernel_rfl) _ _ 23 rfl _ _ rfl rfl hru9 ?_
           refine hK.out _ _ kp10 (fun _ => ?_)
           clear hK K hS hru9
           have hS := kp10
           (try simp only [Act.put]);(try simp only [sA]);(try simp only [sB,sC])
           refine tkR 64 (AllReadyH.cons rfl (fun K hK => ?_) AllReadyH.nil)
           go_simp
           refine (xBC _ _ sumS ((worthL 2).take 2 ++ [(2, [([1], [1])])]) x73 (HS.out.kp kp10) (ho9.ins (Els.snoc (c := (2, (.slice (some ⟨g60, 0, none⟩) 1 1))) (x := (2, [([1], [1])])) hee10.els rfl (by decide) (by decide) hom10.ms)) (HT.out.below (zS Bw.out (zS b0 b10)))).mono ?_
           rintro e x74 ⟨rfl, jx74⟩
           have kx74 : Kp wk x74 := hS.trans (zK jx74)
           rw [ex12_9]
           refine hK.out _ _ kx74 (fun _ => ?_)
           replace hS := kx74
           clear hK K kx74
           (try simp only [Act.put]);(try simp only [sA]);(try simp only [sB,sC])
           refine tkH 65 (.bool true) hS ?_
           (try simp only [Act.put]);(try simp only [sA]);(try simp only [sB,sC])
           refine tkH 66 (.bool true) hS ?_
           (try simp only [Act.put]);(try simp only [sA]);(try simp only [sB,sC])
           refine tkH 67 (.bool true) hS ?_
           (try simp only [Act.put]);(try simp only [sA]);(try simp only [sB,sC])
           have Bf := hid (zS Bw.out (zS (zS b0 b10) jx74))
           refine wpAnyH_done (by kernel_rfl) ?_ _
           (try simp only [List.append]); (try simp only [Act.put]); (try simp only [sD]); (try simp only [sE, sF]); (try simp only [sA]); (try simp only [sC, sB])
           clear hS
           go_wp2
           go_ret
           first | exact ⟨by kernel_rfl, Bf.out⟩ | exact ⟨by go_simp, Bf.out⟩ | exact ⟨by simp, Bf.out⟩
        as_aux_lemma =>
          go_simp
          have jx75 := zA (w := x70) (.cells #[.int .i64 2, .slice (some ⟨g60, 0, none⟩) 1 1] 51)
          obtain ⟨g62, hg62⟩ : ∃ X, X = x70.heap.size := ⟨_, rfl⟩
          have y62 : ∀ V, V = x70.alloc (.cells #[.int .i64 2, .slice (some ⟨g60, 0, none⟩) 1 1] 51) → V.cell? ⟨g62, 0, none⟩ = some (.int .i64 2) ∧ V.cell? ⟨g62, 1, none⟩ = some (.slice (some ⟨g60, 0, none⟩) 1 1) := fun V hV => by rw [hV, hg62]; exact ⟨xAB rfl, xAB rfl⟩
          obtain ⟨x75, hx75⟩ : ∃ X, X = x70.alloc (.cells #[.int .i64 2, .slice (some ⟨g60, 0, none⟩) 1 1] 51) := ⟨_, rfl⟩
          have z62 := y62 _ hx75
          clear y62
          rw [← hx75] at jx75 ⊢
          clear hx75
          rw [← hg62]
          clear hg62
          have kx75 : Kp wk x75 := hS.trans (zK jx75)
          refine hK.out _ _ kx75 (fun _ => ?_)
          replace hS := kx75
          clear hK K kx75
          (try simp only [Act.put]);(try simp only [sA]);(try simp only [sB,sC])
          refine tkR 55 (AllReadyH.cons rfl (fun K hK => ?_) AllReadyH.nil)
          go_simp
          refine (xAH 2 x75 (by decide)).mono ?_
          rintro e x76 ⟨ge1, v0e, v1e, v2e, rfl, hoe, hee, jx76⟩
          have kx76 : Kp wk x76 := hS.trans (zK jx76)
          refine hK.out _ _ kx76 (fun _ => ?_)
          replace hS := kx76
          clear hK K kx76
          (try simp only [Act.put]);(try simp only [sA]);(try simp only [sB,sC])
          have hbse : w.heap.size ≤ x75.heap.size := Nat.le_trans Bw.out.size (zS b0 (zS (zS (zS (zS (zS (zS (zS (zS jx39 jx40) jx41) jx42) jx43) jx57) jx64) jx70) jx75)).size
          have hxe : x0.heap.size ≤ x75.heap.size := ((zS (zS (zS (zS (zS (zS (zS (zS jx39 jx40) jx41) jx42) jx43) jx57) jx64) jx70) jx75)).size
          refine tkH 56 (.slice (some ⟨ge1, 0, none⟩) 2 3) hS ?_
          (try simp only [Act.put]);(try simp only [sA]);(try simp only [sB,sC])
          refine tkR 63 (AllReadyH.cons rfl (fun K hK => ?_) AllReadyH.nil)
          have zz : x76.cell? ⟨g62, 0, none⟩ = some (.int .i64 2) ∧ x76.cell? ⟨g62, 1, none⟩ = some (.slice (some ⟨g60, 0, none⟩) 1 1) := ⟨(zK jx76).cell _ _ z62.1, (zK jx76).cell _ _ z62.2⟩
          have hoe9 := hoe.cut (k := 2) (by simp) (by simp)
          have hee9 := hee.take 2
          have hbe9 : x0.heap.size ≤ x76.heap.size := ((zS (zS (zS (zS (zS (zS (zS (zS (zS jx39 jx40) jx41) jx42) jx43) jx57) jx64) jx70) jx75) jx76)).size
          obtain ⟨v9, x77, hru9, ho9, hg9⟩ := OwN.snocAt 23 (x := 2) (u := (.slice (some ⟨g60, 0, none⟩) 1 1)) hoe9 zz (Nat.le_of_lt hoe9.low) rfl (by simp)
          have hee10 := hee9.grown hoe9 hg9
          have hom10 := ((hu60.later (zS jx75 jx76))).grownN hoe9 hg9
          have b9 : Below x0.heap.size x0 x76 := (zS (zS (zS (zS (zS (zS (zS (zS (zS jx39 jx40) jx41) jx42) jx43) jx57) jx64) jx70) jx75) jx76)
          have b10 : Below x0.heap.size x0 x77 := b9.grown hg9 b9.size (fun j hj => Nat.le_trans hxe (own_blk hoe9 hj))
          have kp10 : Kp wk x77 := (zK b0).trans (zK b10)
          refine xAO (by kernel_rfl) _ _ 23 rfl _ _ rfl rfl hru9 ?_
          refine hK.out _ _ kp10 (fun _ => ?_)
          clear hK K hS hru9
          have hS := kp10
          (try simp only [Act.put]);(try simp only [sA]);(try simp only [sB,sC])
          refine tkR 64 (AllReadyH.cons rfl (fun K hK => ?_) AllReadyH.nil)
          go_simp
          refine (xBC _ _ sumS ((worthL 2).take 2 ++ [(2, [([1], [1])])]) x77 (HS.out.kp kp10) (ho9.ins (Els.snoc (c := (2, (.slice (some ⟨g60, 0, none⟩) 1 1))) (x := (2, [([1], [1])])) hee10.els rfl (by decide) (by decide) hom10.ms)) (HT.out.below (zS Bw.out (zS b0 b10)))).mono ?_
          rintro e x78 ⟨rfl, jx78⟩
          have kx78 : Kp wk x78 := hS.trans (zK jx78)
          rw [ex12_9]
          refine hK.out _ _ kx78 (fun _ => ?_)
          replace hS := kx78
          clear hK K kx78
          (try simp only [Act.put]);(try simp only [sA]);(try simp only [sB,sC])
          refine tkH 65 (.bool true) hS ?_
          (try simp only [Act.put]);(try simp only [sA]);(try simp only [sB,sC])
          refine tkH 66 (.bool true) hS ?_
          (try simp only [Act.put]);(try simp only [sA]);(try simp only [sB,sC])
          refine tkH 67 (.bool true) hS ?_
          (try simp only [Act.put]);(try simp only [sA]);(try simp only [sB,sC])
          have Bf := hid (zS Bw.out (zS (zS b0 b10) jx78))
          refine wpAnyH_done (by kernel_rfl) ?_ _
          (try simp only [List.append]); (try simp only [Act.put]); (try simp only [sD]); (try simp only [sE, sF]); (try simp only [sA]); (try simp only [sC, sB])
          clear hS
          go_wp2
          go_ret
          first | exact ⟨by kernel_rfl, Bf.out⟩ | exact ⟨by go_simp, Bf.out⟩ | exact ⟨by simp, Bf.out⟩
 as_aux_lemma =>
   go_simp
   have jx79 := zA (w := x43) (.cells #[.int .i64 1] 3)
   have hu58 := owI_new1 (w := x43) (base := x0.heap.size) ((zS (zS (zS (zS jx39 jx40) jx41) jx42) jx43)).size
   obtain ⟨x79, hx79⟩ : ∃ X, X = x43.alloc (.cells #[.int .i64 1] 3) := ⟨_, rfl⟩
   rw [← hx79] at jx79 hu58 ⊢
   clear hx79
   obtain ⟨g58, hg58⟩ : ∃ X, X = x43.heap.size := ⟨_, rfl⟩
   rw [← hg58] at hu58 ⊢
   clear hg58
   have kx79 : Kp wk x79 := hS.trans (zK jx79)
   refine hK.out _ _ kx79 (fun _ => ?_)
   replace hS := kx79
   clear hK K kx79
   (try simp only [Act.put]);(try simp only [sA]);(try simp only [sB,sC])
   refine wpAnyH_ready (rs := [55, 57]) (by kernel_rfl) (by simp) (AllReadyH.cons rfl (fun K hK => ?_) (AllReadyH.cons rfl (fun K hK => ?_) AllReadyH.nil))
   ·as_aux_lemma =>
      go_simp
      refine (xAH 2 x79 (by decide)).mono ?_
      rintro e x80 ⟨ge1, v0e, v1e, v2e, rfl, hoe, hee, jx80⟩
      have kx80 : Kp wk x80 := hS.trans (zK jx80)
      refine hK.out _ _ kx80 (fun _ => ?_)
      replace hS := kx80
      clear hK K kx80
      (try simp only [Act.put]);(try simp only [sA]);(try simp only [sB,sC])
      have hbse : w.heap.size ≤ x79.heap.size := Nat.le_trans Bw.out.size (zS b0 (zS (zS (zS (zS (zS jx39 jx40) jx41) jx42) jx43) jx79)).size
      have hxe : x0.heap.size ≤ x79.heap.size := ((zS (zS (zS (zS (zS jx39 jx40) jx41) jx42) jx43) jx79)).size
      refine tkH 56 (.slice (some ⟨ge1, 0, none⟩) 2 3) hS ?_
      (try simp only [Act.put]);(try simp only [sA]);(try simp only [sB,sC])
      refine tkR 57 (AllReadyH.cons rfl (fun K hK => ?_) AllReadyH.nil)
      go_simp
      have jx81 := zA (w := x80) (.cells #[.int .u32 1] 38)
      have hu57 := ow_new1 (w := x80) (base := x0.heap.size) ((zS (zS (zS (zS (zS (zS jx39 jx40) jx41) jx42) jx43) jx79) jx80)).size
      obtain ⟨x81, hx81⟩ : ∃ X, X = x80.alloc (.cells #[.int .u32 1] 38) := ⟨_, rfl⟩
      rw [← hx81] at jx81 hu57 ⊢
      clear hx81
      obtain ⟨g57, hg57⟩ : ∃ X, X = x80.heap.size := ⟨_, rfl⟩
      rw [← hg57] at hu57 ⊢
      clear hg57
      have kx81 : Kp wk x81 := hS.trans (zK jx81)
      refine hK.out _ _ kx81 (fun _ => ?_)
      replace hS := kx81
      clear hK K kx81
      (try simp only [Act.put]);(try simp only [sA]);(try simp only [sB,sC])
      refine tkH 59 (.agg #[.slice (some ⟨g57, 0, none⟩) 1 1, .slice (some ⟨g58, 0, none⟩) 1 1]) hS ?_
      (try simp only [Act.put]);(try simp only [sA]);(try simp only [sB,sC])
      refine tkR 60 (AllReadyH.cons rfl (fun K hK => ?_) AllReadyH.nil)
      go_simp
      have jx82 := zA (w := x81) (.cells #[.slice (some ⟨g57, 0, none⟩) 1 1, .slice (some ⟨g58, 0, none⟩) 1 1] 37)
      have hu60 := om_new1 (w := x81) (base := x0.heap.size) (m := ([1], [1])) ((zS (zS (zS (zS (zS (zS (zS jx39 jx40) jx41) jx42) jx43) jx79) jx80) jx81)).size hu57 (hu58.later (zS jx80 jx81))
      obtain ⟨x82, hx82⟩ : ∃ X, X = x81.alloc (.cells #[.slice (some ⟨g57, 0, none⟩) 1 1, .slice (some ⟨g58, 0, none⟩) 1 1] 37) := ⟨_, rfl⟩
      rw [← hx82] at jx82 hu60 ⊢
      clear hx82
      obtain ⟨g60, hg60⟩ : ∃ X, X = x81.heap.size := ⟨_, rfl⟩
      rw [← hg60] at hu60 ⊢
      clear hg60
      have kx82 : Kp wk x82 := hS.trans (zK jx82)
      refine hK.out _ _ kx82 (fun _ => ?_)
      replace hS := kx82
      clear hK K kx82
      (try simp only [Act.put]);(try simp only [sA]);(try simp only [sB,sC])
      refine tkH 61 (.agg #[.int .i64 2, .slice (some ⟨g60, 0, none⟩) 1 1]) hS ?_
      (try simp only [Act.put]);(try simp only [sA]);(try simp only [sB,sC])
      refine tkR 62 (AllReadyH.cons rfl (fun K hK => ?_) AllReadyH.nil)
      go_simp
      have jx83 := zA (w := x82) (.cells #[.int .i64 2, .slice (some ⟨g60, 0, none⟩) 1 1] 51)
      obtain ⟨g62, hg62⟩ : ∃ X, X = x82.heap.size := ⟨_, rfl⟩
      have y62 : ∀ V, V = x82.alloc (.cells #[.int .i64 2, .slice (some ⟨g60, 0, none⟩) 1 1] 51) → V.cell? ⟨g62, 0, none⟩ = some (.int .i64 2) ∧ V.cell? ⟨g62, 1, none⟩ = some (.slice (some ⟨g60, 0, none⟩) 1 1) := fun V hV => by rw [hV, hg62]; exact ⟨xAB rfl, xAB rfl⟩
      obtain ⟨x83, hx83⟩ : ∃ X, X = x82.alloc (.cells #[.int .i64 2, .slice (some ⟨g60, 0, none⟩) 1 1] 51) := ⟨_, rfl⟩
      have z62 := y62 _ hx83
      clear y62
      rw [← hx83] at jx83 ⊢
      clear hx83
      rw [← hg62]
      clear hg62
      have kx83 : Kp wk x83 := hS.trans (zK jx83)
      refine hK.out _ _ kx83 (fun _ => ?_)
      replace hS := kx83
      clear hK K kx83
      (try simp only [Act.put]);(try simp only [sA]);(try simp only [sB,sC])
      refine tkR 63 (AllReadyH.cons rfl (fun K hK => ?_) AllReadyH.nil)
      have zz : x83.cell? ⟨g62, 0, none⟩ = some (.int .i64 2) ∧ x83.cell? ⟨g62, 1, none⟩ = some (.slice (some ⟨g60, 0, none⟩) 1 1) := z62
      have hoe9 := (hoe.later (zS (zS jx81 jx82) jx83)).cut (k := 2) (by simp) (by simp)
      have hee9 := (hee.later (zS (zS jx81 jx82) jx83)).take 2
      have hbe9 : x0.heap.size ≤ x83.heap.size := ((zS (zS (zS (zS (zS (zS (zS (zS (zS jx39 jx40) jx41) jx42) jx43) jx79) jx80) jx81) jx82) jx83)).size
      obtain ⟨v9, x84, hru9, ho9, hg9⟩ := OwN.snocAt 23 (x := 2) (u := (.slice (some ⟨g60, 0, none⟩) 1 1)) hoe9 zz (Nat.le_of_lt hoe9.low) rfl (by simp)
      have hee10 := hee9.grown hoe9 hg9
      have hom10 := ((hu60.later jx83)).grownN hoe9 hg9
      have b9 : Below x0.heap.size x0 x83 := (zS (zS (zS (zS (zS (zS (zS (zS (zS jx39 jx40) jx41) jx42) jx43) jx79) jx80) jx81) jx82) jx83)
      have b10 : Below x0.heap.size x0 x84 := b9.grown hg9 b9.size (fun j hj => Nat.le_trans hxe (own_blk hoe9 hj))
      have kp10 : Kp wk x84 := (zK b0).trans (zK b10)
      refine xAO (by kernel_rfl) _ _ 23 rfl _ _ rfl rfl hru9 ?_
      refine hK.out _ _ kp10 (fun _ => ?_)
      clear hK K hS hru9
      have hS := kp10
      (try simp only [Act.put]);(try simp only [sA]);(try simp only [sB,sC])
      refine tkR 64 (AllReadyH.cons rfl (fun K hK => ?_) AllReadyH.nil)
      go_simp
      refine (xBC _ _ sumS ((worthL 2).take 2 ++ [(2, [([1], [1])])]) x84 (HS.out.kp kp10) (ho9.ins (Els.snoc (c := (2, (.slice (some ⟨g60, 0, none⟩) 1 1))) (x := (2, [([1], [1])])) hee10.els rfl (by decide) (by decide) hom10.ms)) (HT.out.below (zS Bw.out (zS b0 b10)))).mono ?_
      rintro e x85 ⟨rfl, jx85⟩
      have kx85 : Kp wk x85 := hS.trans (zK jx85)
      rw [ex12_9]
      refine hK.out _ _ kx85 (fun _ => ?_)
      replace hS := kx85
      clear hK K kx85
      (try simp only [Act.put]);(try simp only [sA]);(try simp only [sB,sC])
      refine tkH 65 (.bool true) hS ?_
      (try simp only [Act.put]);(try simp only [sA]);(try simp only [sB,sC])
      refine tkH 66 (.bool true) hS ?_
      (try simp only [Act.put]);(try simp only [sA]);(try simp only [sB,sC])
      refine tkH 67 (.bool true) hS ?_
      (try simp only [Act.put]);(try simp only [sA]);(try simp only [sB,sC])
      have Bf := hid (zS Bw.out (zS (zS b0 b10) jx85))
      refine wpAnyH_done (by kernel_rfl) ?_ _
      (try simp only [List.append]); (try simp only [Act.put]); (try simp only [sD]); (try simp only [sE, sF]); (try simp only [sA]); (try simp only [sC, sB])
      clear hS
      go_wp2
      go_ret
      first | exact ⟨by kernel_rfl, Bf.out⟩ | exact ⟨by go_simp, Bf.out⟩ | exact ⟨by simp, Bf.out⟩
   as_aux_lemma =>
     go_simp
     have jx86 := zA (w := x79) (.cells #[.int .u32 1] 38)
     have hu57 := ow_new1 (w := x79) (base := x0.heap.size) ((zS (zS (zS (zS (zS jx39 jx40) jx41) jx42) jx43) jx79)).size
     obtain ⟨x86, hx86⟩ : ∃ X, X = x79.alloc (.cells #[.int .u32 1] 38) := ⟨_, rfl⟩
     rw [← hx86] at jx86 hu57 ⊢
     clear hx86
     obtain ⟨g57, hg57⟩ : ∃ X, X = x79.heap.size := ⟨_, rfl⟩
     rw [← hg57] at hu57 ⊢
     clear hg57
     have kx86 : Kp wk x86 := hS.trans (zK jx86)
     refine hK.out _ _ kx86 (fun _ => ?_)
     replace hS := kx86
     clear hK K kx86
     (try simp only [Act.put]);(try simp only [sA]);(try simp only [sB,sC])
     refine tkH 59 (.agg #[.slice (some ⟨g57, 0, none⟩) 1 1, .slice (some ⟨g58, 0, none⟩) 1 1]) hS ?_
     (try simp only [Act.put]);(try simp only [sA]);(try simp only [sB,sC])
     refine wpAnyH_ready (rs := [55, 60]) (by kernel_rfl) (by simp) (AllReadyH.cons rfl (fun K hK => ?_) (AllReadyH.cons rfl (fun K hK => ?_) AllReadyH.nil))
     ·as_aux_lemma =>
        go_simp
        refine (xAH 2 x86 (by decide)).mono ?_
        rintro e x87 ⟨ge1, v0e, v1e, v2e, rfl, hoe, hee, jx87⟩
        have kx87 : Kp wk x87 := hS.trans (zK jx87)
        refine hK.out _ _ kx87 (fun _ => ?_)
        replace hS := kx87
        clear hK K kx87
        (try simp only [Act.put]);(try simp only [sA]);(try simp only [sB,sC])
        have hbse : w.heap.size ≤ x86.heap.size := Nat.le_trans Bw.out.size (zS b0 (zS (zS (zS (zS (zS (zS jx39 jx40) jx41) jx42) jx43) jx79) jx86)).size
        have hxe : x0.heap.size ≤ x86.heap.size := ((zS (zS (zS (zS (zS (zS jx39 jx40) jx41) jx42) jx43) jx79) jx86)).size
        refine tkH 56 (.slice (some ⟨ge1, 0, none⟩) 2 3) hS ?_
        (try simp only [Act.put]);(try simp only [sA]);(try simp only [sB,sC])
        refine tkR 60 (AllReadyH.cons rfl (fun K hK => ?_) AllReadyH.nil)
        go_simp
        have jx88 := zA (w := x87) (.cells #[.slice (some ⟨g57, 0, none⟩) 1 1, .slice (some ⟨g58, 0, none⟩) 1 1] 37)
        have hu60 := om_new1 (w := x87) (base := x0.heap.size) (m := ([1], [1])) ((zS (zS (zS (zS (zS (zS (zS jx39 jx40) jx41) jx42) jx43) jx79) jx86) jx87)).size (hu57.since jx87) (hu58.later (zS jx86 jx87))
        obtain ⟨x88, hx88⟩ : ∃ X, X = x87.alloc (.cells #[.slice (some ⟨g57, 0, none⟩) 1 1, .slice (some ⟨g58, 0, none⟩) 1 1] 37) := ⟨_, rfl⟩
        rw [← hx88] at jx88 hu60 ⊢
        clear hx88
        obtain ⟨g60, hg60⟩ : ∃ X, X = x87.heap.size := ⟨_, rfl⟩
        rw [← hg60] at hu60 ⊢
        clear hg60
        have kx88 : Kp wk x88 := hS.trans (zK jx88)
        refine hK.out _ _ kx88 (fun _ => ?_)
        replace hS := kx88
        clear hK K kx88
        (try simp only [Act.put]);(try simp only [sA]);(try simp only [sB,sC])
        refine tkH 61 (.agg #[.int .i64 2, .slice (some ⟨g60, 0, none⟩) 1 1]) hS ?_
        (try simp only [Act.put]);(try simp only [sA]);(try simp only [sB,sC])
        refine tkR 62 (AllReadyH.cons rfl (fun K hK => ?_) AllReadyH.nil)
        go_simp
        have jx89 := zA (w := x88) (.cells #[.int .i64 2, .slice (some ⟨g60, 0, none⟩) 1 1] 51)
        obtain ⟨g62, hg62⟩ : ∃ X, X = x88.heap.size := ⟨_, rfl⟩
        have y62 : ∀ V, V = x88.alloc (.cells #[.int .i64 2, .slice (some ⟨g60, 0, none⟩) 1 1] 51) → V.cell? ⟨g62, 0, none⟩ = some (.int .i64 2) ∧ V.cell? ⟨g62, 1, none⟩ = some (.slice (some ⟨g60, 0, none⟩) 1 1) := fun V hV => by rw [hV, hg62]; exact ⟨xAB rfl, xAB rfl⟩
        obtain ⟨x89, hx89⟩ : ∃ X, X = x88.alloc (.cells #[.int .i64 2, .slice (some ⟨g60, 0, none⟩) 1 1] 51) := ⟨_, rfl⟩
        have z62 := y62 _ hx89
        clear y62
        rw [← hx89] at jx89 ⊢
        clear hx89
        rw [← hg62]
        clear hg62
        have kx89 : Kp wk x89 := hS.trans (zK jx89)
        refine hK.out _ _ kx89 (fun _ => ?_)
        replace hS := kx89
        clear hK K kx89
        (try simp only [Act.put]);(try simp only [sA]);(try simp only [sB,sC])
        refine tkR 63 (AllReadyH.cons rfl (fun K hK => ?_) AllReadyH.nil)
        have zz : x89.cell? ⟨g62, 0, none⟩ = some (.int .i64 2) ∧ x89.cell? ⟨g62, 1, none⟩ = some (.slice (some ⟨g60, 0, none⟩) 1 1) := z62
        have hoe9 := (hoe.later (zS jx88 jx89)).cut (k := 2) (by simp) (by simp)
        have hee9 := (hee.later (zS jx88 jx89)).take 2
        have hbe9 : x0.heap.size ≤ x89.heap.size := ((zS (zS (zS (zS (zS (zS (zS (zS (zS jx39 jx40) jx41) jx42) jx43) jx79) jx86) jx87) jx88) jx89)).size
        obtain ⟨v9, x90, hru9, ho9, hg9⟩ := OwN.snocAt 23 (x := 2) (u := (.slice (some ⟨g60, 0, none⟩) 1 1)) hoe9 zz (Nat.le_of_lt hoe9.low) rfl (by simp)
        have hee10 := hee9.grown hoe9 hg9
        have hom10 := ((hu60.later jx89)).grownN hoe9 hg9
        have b9 : Below x0.heap.size x0 x89 := (zS (zS (zS (zS (zS (zS (zS (zS (zS jx39 jx40) jx41) jx42) jx43) jx79) jx86) jx87) jx88) jx89)
        have b10 : Below x0.heap.size x0 x90 := b9.grown hg9 b9.size (fun j hj => Nat.le_trans hxe (own_blk hoe9 hj))
        have kp10 : Kp wk x90 := (zK b0).trans (zK b10)
        refine xAO (by kernel_rfl) _ _ 23 rfl _ _ rfl rfl hru9 ?_
        refine hK.out _ _ kp10 (fun _ => ?_)
        clear hK K hS hru9
        have hS := kp10
        (try simp only [Act.put]);(try simp only [sA]);(try simp only [sB,sC])
        refine tkR 64 (AllReadyH.cons rfl (fun K hK => ?_) AllReadyH.nil)
        go_simp
        refine (xBC _ _ sumS ((worthL 2).take 2 ++ [(2, [([1], [1])])]) x90 (HS.out.kp kp10) (ho9.ins (Els.snoc (c := (2, (.slice (some ⟨g60, 0, none⟩) 1 1))) (x := (2, [([1], [1])])) hee10.els rfl (by decide) (by decide) hom10.ms)) (HT.out.below (zS Bw.out (zS b0 b10)))).mono ?_
        rintro e x91 ⟨rfl, jx91⟩
        have kx91 : Kp wk x91 := hS.trans (zK jx91)
        rw [ex12_9]
        refine hK.out _ _ kx91 (fun _ => ?_)
        replace hS := kx91
        clear hK K kx91
        (try simp only [Act.put]);(try simp only [sA]);(try simp only [sB,sC])
        refine tkH 65 (.bool true) hS ?_
        (try simp only [Act.put]);(try simp only [sA]);(try simp only [sB,sC])
        refine tkH 66 (.bool true) hS ?_
        (try simp only [Act.put]);(try simp only [sA]);(try simp only [sB,sC])
        refine tkH 67 (.bool true) hS ?_
        (try simp only [Act.put]);(try simp only [sA]);(try simp only [sB,sC])
        have Bf := hid (zS Bw.out (zS (zS b0 b10) jx91))
        refine wpAnyH_done (by kernel_rfl) ?_ _
        (try simp only [List.append]); (try simp only [Act.put]); (try simp only [sD]); (try simp only [sE, sF]); (try simp only [sA]); (try simp only [sC, sB])
        clear hS
        go_wp2
        go_ret
        first | exact ⟨by kernel_rfl, Bf.out⟩ | exact ⟨by go_simp, Bf.out⟩ | exact ⟨by simp, Bf.out⟩
     as_aux_lemma =>
       go_simp
       have jx92 := zA (w := x86) (.cells #[.slice (some ⟨g57, 0, none⟩) 1 1, .slice (some ⟨g58, 0, none⟩) 1 1] 37)
       have hu60 := om_new1 (w := x86) (base := x0.heap.size) (m := ([1], [1])) ((zS (zS (zS (zS (zS (zS jx39 jx40) jx41) jx42) jx43) jx79) jx86)).size hu57 (hu58.later jx86)
       obtain ⟨x92, hx92⟩ : ∃ X, X = x86.alloc (.cells #[.slice (some ⟨g57, 0, none⟩) 1 1, .slice (some ⟨g58, 0, none⟩) 1 1] 37) := ⟨_, rfl⟩
       rw [← hx92] at jx92 hu60 ⊢
       clear hx92
       obtain ⟨g60, hg60⟩ : ∃ X, X = x86.heap.size := ⟨_, rfl⟩
       rw [← hg60] at hu60 ⊢
       clear hg60
       have kx92 : Kp wk x92 := hS.trans (zK jx92)
       refine hK.out _ _ kx92 (fun _ => ?_)
       replace hS := kx92
       clear hK K kx92
       (try simp only [Act.put]);(try simp only [sA]);(try simp only [sB,sC])
       refine tkH 61 (.agg #[.int .i64 2, .slice (some ⟨g60, 0, none⟩) 1 1]) hS ?_
       (try simp only [Act.put]);(try simp only [sA]);(try simp only [sB,sC])
       refine wpAnyH_ready (rs := [55, 62]) (by kernel_rfl) (by simp) (AllReadyH.cons rfl (fun K hK => ?_) (AllReadyH.cons rfl (fun K hK => ?_) AllReadyH.nil))
       ·as_aux_lemma =>
          go_simp
          refine (xAH 2 x92 (by decide)).mono ?_
          rintro e x93 ⟨ge1, v0e, v1e, v2e, rfl, hoe, hee, jx93⟩
          have kx93 : Kp wk x93 := hS.trans (zK jx93)
          refine hK.out _ _ kx93 (fun _ => ?_)
          replace hS := kx93
          clear hK K kx93
          (try simp only [Act.put]);(try simp only [sA]);(try simp only [sB,sC])
          have hbse : w.heap.size ≤ x92.heap.size := Nat.le_trans Bw.out.size (zS b0 (zS (zS (zS (zS (zS (zS (zS jx39 jx40) jx41) jx42) jx43) jx79) jx86) jx92)).size
          have hxe : x0.heap.size ≤ x92.heap.size := ((zS (zS (zS (zS (zS (zS (zS jx39 jx40) jx41) jx42) jx43) jx79) jx86) jx92)).size
          refine tkH 56 (.slice (some ⟨ge1, 0, none⟩) 2 3) hS ?_
          (try simp only [Act.put]);(try simp only [sA]);(try simp only [sB,sC])
          refine tkR 62 (AllReadyH.cons rfl (fun K hK => ?_) AllReadyH.nil)
          go_simp
          have jx94 := zA (w := x93) (.cells #[.int .i64 2, .slice (some ⟨g60, 0, none⟩) 1 1] 51)
          obtain ⟨g62, hg62⟩ : ∃ X, X = x93.heap.size := ⟨_, rfl⟩
          have y62 : ∀ V, V = x93.alloc (.cells #[.int .i64 2, .slice (some ⟨g60, 0, none⟩) 1 1] 51) → V.cell? ⟨g62, 0, none⟩ = some (.int .i64 2) ∧ V.cell? ⟨g62, 1, none⟩ = some (.slice (some ⟨g60, 0, none⟩) 1 1) := fun V hV => by rw [hV, hg62]; exact ⟨xAB rfl, xAB rfl⟩
          obtain ⟨x94, hx94⟩ : ∃ X, X = x93.alloc (.cells #[.int .i64 2, .slice (some ⟨g60, 0, none⟩) 1 1] 51) := ⟨_, rfl⟩
          have z62 := y62 _ hx94
          clear y62
          rw [← hx94] at jx94 ⊢
          clear hx94
          rw [← hg62]
          clear hg62
          have kx94 : Kp wk x94 := hS.trans (zK jx94)
          refine hK.out _ _ kx94 (fun _ => ?_)
          replace hS := kx94
          clear hK K kx94
          (try simp only [Act.put]);(try simp only [sA]);(try simp only [sB,sC])
          refine tkR 63 (AllReadyH.cons rfl (fun K hK => ?_) AllReadyH.nil)
          have zz : x94.cell? ⟨g62, 0, none⟩ = some (.int .i64 2) ∧ x94.cell? ⟨g62, 1, none⟩ = some (.slice (some ⟨g60, 0, none⟩) 1 1) := z62
          have hoe9 := (hoe.later jx94).cut (k := 2) (by simp) (by simp)
          have hee9 := (hee.later jx94).take 2
          have hbe9 : x0.heap.size ≤ x94.heap.size := ((zS (zS (zS (zS (zS (zS (zS (zS (zS jx39 jx40) jx41) jx42) jx43) jx79) jx86) jx92) jx93) jx94)).size
          obtain ⟨v9, x95, hru9, ho9, hg9⟩ := OwN.snocAt 23 (x := 2) (u := (.slice (some ⟨g60, 0, none⟩) 1 1)) hoe9 zz (Nat.le_of_lt hoe9.low) rfl (by simp)
          have hee10 := hee9.grown hoe9 hg9
          have hom10 := ((hu60.later (zS jx93 jx94))).grownN hoe9 hg9
          have b9 : Below x0.heap.size x0 x94 := (zS (zS (zS (zS (zS (zS (zS (zS (zS jx39 jx40) jx41) jx42) jx43) jx79) jx86) jx92) jx93) jx94)
          have b10 : Below x0.heap.size x0 x95 := b9.grown hg9 b9.size (fun j hj => Nat.le_trans hxe (own_blk hoe9 hj))
          have kp10 : Kp wk x95 := (zK b0).trans (zK b10)
          refine xAO (by kernel_rfl) _ _ 23 rfl _ _ rfl rfl hru9 ?_
          refine hK.out _ _ kp10 (fun _ => ?_)
          clear hK K hS hru9
          have hS := kp10
          (try simp only [Act.put]);(try simp only [sA]);(try simp only [sB,sC])
          refine tkR 64 (AllReadyH.cons rfl (fun K hK => ?_) AllReadyH.nil)
          go_simp
          refine (xBC _ _ sumS ((worthL 2).take 2 ++ [(2, [([1], [1])])]) x95 (HS.out.kp kp10) (ho9.ins (Els.snoc (c := (2, (.slice (some ⟨g60, 0, none⟩) 1 1))) (x := (2, [([1], [1])])) hee10.els rfl (by decide) (by decide) hom10.ms)) (HT.out.below (zS Bw.out (zS b0 b10)))).mono ?_
          rintro e x96 ⟨rfl, jx96⟩
          have kx96 : Kp wk x96 := hS.trans (zK jx96)
          rw [ex12_9]
          refine hK.out _ _ kx96 (fun _ => ?_)
          replace hS := kx96
          clear hK K kx96
          (try simp only [Act.put]);(try simp only [sA]);(try simp only [sB,sC])
          refine tkH 65 (.bool true) hS ?_
          (try simp only [Act.put]);(try simp only [sA]);(try simp only [sB,sC])
          refine tkH 66 (.bool true) hS ?_
          (try simp only [Act.put]);(try simp only [sA]);(try simp only [sB,sC])
          refine tkH 67 (.bool true) hS ?_
          (try simp only [Act.put]);(try simp only [sA]);(try simp only [sB,sC])
          have Bf := hid (zS Bw.out (zS (zS b0 b10) jx96))
          refine wpAnyH_done (by kernel_rfl) ?_ _
          (try simp only [List.append]); (try simp only [Act.put]); (try simp only [sD]); (try simp only [sE, sF]); (try simp only [sA]); (try simp only [sC, sB])
          clear hS
          go_wp2
          go_ret
          first | exact ⟨by kernel_rfl, Bf.out⟩ | exact ⟨by go_simp, Bf.out⟩ | exact ⟨by simp, Bf.out⟩
       as_aux_lemma =>
         go_simp
         have jx97 := zA (w := x92) (.cells #[.int .i64 2, .slice (some ⟨g60, 0, none⟩) 1 1] 51)
         obtain ⟨g62, hg62⟩ : ∃ X, X = x92.heap.size := ⟨_, rfl⟩
         have y62 : ∀ V, V = x92.alloc (.cells #[.int .i64 2, .slice (some ⟨g60, 0, none⟩) 1 1] 51) → V.cell? ⟨g62, 0, none⟩ = some (.int .i64 2) ∧ V.cell? ⟨g62, 1, none⟩ = some (.slice (some ⟨g60, 0, none⟩) 1 1) := fun V hV => by rw [hV, hg62]; exact ⟨xAB rfl, xAB rfl⟩
         obtain ⟨x97, hx97⟩ : ∃ X, X = x92.alloc (.cells #[.int .i64 2, .slice (some ⟨g60, 0, none⟩) 1 1] 51) := ⟨_, rfl⟩
         have z62 := y62 _ hx97
         clear y62
         rw [← hx97] at jx97 ⊢
         clear hx97
         rw [← hg62]
         clear hg62
         have kx97 : Kp wk x97 := hS.trans (zK jx97)
         refine hK.out _ _ kx97 (fun _ => ?_)
         replace hS := kx97
         clear hK K kx97
         (try simp only [Act.put]);(try simp only [sA]);(try simp only [sB,sC])
         refine tkR 55 (AllReadyH.cons rfl (fun K hK => ?_) AllReadyH.nil)
         go_simp
         refine (xAH 2 x97 (by decide)).mono ?_
         rintro e x98 ⟨ge1, v0e, v1e, v2e, rfl, hoe, hee, jx98⟩
         have kx98 : Kp wk x98 := hS.trans (zK jx98)
         refine hK.out _ _ kx98 (fun _ => ?_)
         replace hS := kx98
         clear hK K kx98
         (try simp only [Act.put]);(try simp only [sA]);(try simp only [sB,sC])
         have hbse : w.heap.size ≤ x97.heap.size := Nat.le_trans Bw.out.size (zS b0 (zS (zS (zS (zS (zS (zS (zS (zS jx39 jx40) jx41) jx42) jx43) jx79) jx86) jx92) jx97)).size
         have hxe : x0.heap.size ≤ x97.heap.size := ((zS (zS (zS (zS (zS (zS (zS (zS jx39 jx40) jx41) jx42) jx43) jx79) jx86) jx92) jx97)).size
         refine tkH 56 (.slice (some ⟨ge1, 0, none⟩) 2 3) hS ?_
         (try simp only [Act.put]);(try simp only [sA]);(try simp only [sB,sC])
         refine tkR 63 (AllReadyH.cons rfl (fun K hK => ?_) AllReadyH.nil)
         have zz : x98.cell? ⟨g62, 0, none⟩ = some (.int .i64 2) ∧ x98.cell? ⟨g62, 1, none⟩ = some (.slice (some ⟨g60, 0, none⟩) 1 1) := ⟨(zK jx98).cell _ _ z62.1, (zK jx98).cell _ _ z62.2⟩
         have hoe9 := hoe.cut (k := 2) (by simp) (by simp)
         have hee9 := hee.take 2
         have hbe9 : x0.heap.size ≤ x98.heap.size := ((zS (zS (zS (zS (zS (zS (zS (zS (zS jx39 jx40) jx41) jx42) jx43) jx79) jx86) jx92) jx97) jx98)).size
         obtain ⟨v9, x99, hru9, ho9, hg9⟩ := OwN.snocAt 23 (x := 2) (u := (.slice (some ⟨g60, 0, none⟩) 1 1)) hoe9 zz (Nat.le_of_lt hoe9.low) rfl (by simp)
         have hee10 := hee9.grown hoe9 hg9
         have hom10 := ((hu60.later (zS jx97 jx98))).grownN hoe9 hg9
         have b9 : Below x0.heap.size x0 x98 := (zS (zS (zS (zS (zS (zS (zS (zS (zS jx39 jx40) jx41) jx42) jx43) jx79) jx86) jx92) jx97) jx98)
         have b10 : Below x0.heap.size x0 x99 := b9.grown hg9 b9.size (fun j hj => Nat.le_trans hxe (own_blk hoe9 hj))
         have kp10 : Kp wk x99 := (zK b0).trans (zK b10)
         refine xAO (by kernel_rfl) _ _ 23 rfl _ _ rfl rfl hru9 ?_
         refine hK.out _ _ kp10 (fun _ => ?_)
         clear hK K hS hru9
         have hS := kp10
         (try simp only [Act.put]);(try simp only [sA]);(try simp only [sB,sC])
         refine tkR 64 (AllReadyH.cons rfl (fun K hK => ?_) AllReadyH.nil)
         go_simp
         refine (xBC _ _ sumS ((worthL 2).take 2 ++ [(2, [([1], [1])])]) x99 (HS.out.kp kp10) (ho9.ins (Els.snoc (c := (2, (.slice (some ⟨g60, 0, none⟩) 1 1))) (x := (2, [([1], [1])])) hee10.els rfl (by decide) (by decide) hom10.ms)) (HT.out.below (zS Bw.out (zS b0 b10)))).mono ?_
         rintro e x100 ⟨rfl, jx100⟩
         have kx100 : Kp wk x100 := hS.trans (zK jx100)
         rw [ex12_9]
         refine hK.out _ _ kx100 (fun _ => ?_)
         replace hS := kx100
         clear hK K kx100
         (try simp only [Act.put]);(try simp only [sA]);(try simp only [sB,sC])
         refine tkH 65 (.bool true) hS ?_
         (try simp only [Act.put]);(try simp only [sA]);(try simp only [sB,sC])
         refine tkH 66 (.bool true) hS ?_
         (try simp only [Act.put]);(try simp only [sA]);(try simp only [sB,sC])
         refine tkH 67 (.bool true) hS ?_
         (try simp only [Act.put]);(try simp only [sA]);(try simp only [sB,sC])
         have Bf := hid (zS Bw.out (zS (zS b0 b10) jx100))
         refine wpAnyH_done (by kernel_rfl) ?_ _
         (try simp only [List.append]); (try simp only [Act.put]); (try simp only [sD]); (try simp only [sE, sF]); (try simp only [sA]); (try simp only [sC, sB])
         clear hS
         go_wp2
         go_ret
         first | exact ⟨by kernel_rfl, Bf.out⟩ | exact ⟨by go_simp, Bf.out⟩ | exact ⟨by simp, Bf.out⟩
end Go.Proofs.YtdjmjhlbjcgoiaaGreatDoor
