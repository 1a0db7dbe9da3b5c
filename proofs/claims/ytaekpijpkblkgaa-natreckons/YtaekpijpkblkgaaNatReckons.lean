/- Proved: for every two rows of limbs the law NatReckons answers true (sums, products and comparisons are the document's; the arguments stay as they are, what comes out is the caller's), and its arguments read afterwards as before. No condition. -/
import Derived.Test.YtaekpijpkblkgaaFrame
import Derived.Test.YtaekpijpkblkgaaLent
import Derived.Test.YtaekpijpkblkgaaRefAdd
import Derived.Test.YtaekpijpkblkgaaRefMul
import Derived.SizedLaws
namespace Go.Proofs.Ytaekpijpkblkgaa
open Go.ChangeShapes Go.WideShapes Go.ChangeAt Go.RowKit

theorem lentSl {w : World} {b g : Nat} {xs : List Nat} (h : Ow w b (.slice (some ⟨g, 0, none⟩) (xs.length + 3) (xs.length + 3)) (marked xs)) : Sl w (.slice (some ⟨g, 0, none⟩) xs.length (xs.length + 3)) xs := by
  have hc := h.cut (k := xs.length) (by simp [marked])
  have e : (marked xs).take xs.length = xs := by unfold marked; rw [List.take_left]
  rw [e] at hc
  exact hc.sl

theorem ne_lt {w : World} {B : Nat} {v u : Value} {ys : List Nat} (hv : ∀ g, v.ownBlock = some g → g < B) (k : Ow w B u ys) : v.ownBlock = none ∨ v.ownBlock ≠ u.ownBlock := by
  cases hb : v.ownBlock with
  | none => exact .inl rfl
  | some g =>
    refine .inr (fun e => ?_)
    have h1 := hv g hb
    have h2 := k.block g e.symm
    omega

theorem ne_gt {w : World} {B : Nat} {v u : Value} {xs : List Nat} (h : Ow w B v xs) (hu : ∀ g, u.ownBlock = some g → g < B) : v.ownBlock = none ∨ v.ownBlock ≠ u.ownBlock := by
  cases hb : v.ownBlock with
  | none => exact .inl rfl
  | some g =>
    refine .inr (fun e => ?_)
    have h1 := h.block g hb
    have h2 := hu g e.symm
    omega

theorem resL_len (n : Nat) : (resL n).length ≤ 64 := by
  unfold resL
  by_cases h : (limbs n).length ≤ 64
  · rw [if_pos h]; exact h
  · rw [if_neg h]; simp

theorem addL_len (xs ys : List Nat) : (addL xs ys).length ≤ 64 := by
  unfold addL
  cases (rightB xs && rightB ys)
  · simp
  · rw [if_pos rfl]; exact resL_len _

theorem mulL_len (xs ys : List Nat) : (mulL xs ys).length ≤ 64 := by
  unfold mulL
  cases (rightB xs && rightB ys)
  · simp
  · rw [if_pos rfl]; exact resL_len _

set_option maxRecDepth 10000 in
set_option maxHeartbeats 4000000 in
theorem natReckons_any (va vb : Value) (xs ys : List Nat) (w : World) (ha : Sl w va xs) (hb : Sl w vb ys) (hla : xs.length * 4 ≤ 140737488351232) (hlb : ys.length * 4 ≤ 140737488351232) :
    Calls Try.prog 4 #[va, vb] w fun e w' => e = .returned (.bool true) ∧ Below w.heap.size w w' := by
  go_enter Try.func4, Try.ntmps4
  go_wp2_with fail
  refine (shown_any _).mono ?_
  rintro e w0 ⟨rfl, hb_0⟩
  have h0s := hb_0.size
  have hA : Hid (Sl w va xs) := ha
  have hB : Hid (Sl w vb ys) := hb
  have sa_0 := ha.later hb_0
  have sb_0 := hb.later hb_0
  clear ha hb
  go_wp2_with fail
  refine (lent_any _ xs _ sa_0 hla).mono ?_
  rintro e w1 ⟨gP, rfl, oP, hb⟩
  have lP : ∀ g, Value.ownBlock (.slice (some ⟨gP, 0, none⟩) (xs.length + 3) (xs.length + 3)) = some g → g < w1.heap.size := fun g hg => (World.ownsRow.lt oP.2 g hg).2
  have sa_1 := sa_0.later hb
  have sb_1 := sb_0.later hb
  have hb_1 := bnext hb_0 hb
  have z_0 := hb.size
  clear hb hb_0 sa_0 sb_0 
  have oP_1 := oP
  clear oP
  go_wp2_with fail
  refine (lent_any _ ys _ sb_1 hlb).mono ?_
  rintro e w2 ⟨gQ, rfl, oQ, hb⟩
  have lQ : ∀ g, Value.ownBlock (.slice (some ⟨gQ, 0, none⟩) (ys.length + 3) (ys.length + 3)) = some g → g < w2.heap.size := fun g hg => (World.ownsRow.lt oQ.2 g hg).2
  have oP_2 := oP_1.later hb
  have sa_2 := sa_1.later hb
  have sb_2 := sb_1.later hb
  have hb_2 := bnext hb_1 hb
  have z_1 := hb.size
  clear hb hb_1 sa_1 sb_1 oP_1
  have oQ_2 := oQ
  clear oQ
  go_wp2_with fail
  refine (add_any _ _ xs ys _ (lentSl oP_2) (lentSl oQ_2)).mono ?_
  rintro e w3 ⟨vs, rfl, os, hb⟩
  have ls : ∀ g, vs.ownBlock = some g → g < w3.heap.size := fun g hg => (World.ownsRow.lt os.2 g hg).2
  have oP_3 := oP_2.later hb
  have oQ_3 := oQ_2.later hb
  have sa_3 := sa_2.later hb
  have sb_3 := sb_2.later hb
  have hb_3 := bnext hb_2 hb
  have z_2 := hb.size
  clear hb hb_2 sa_2 sb_2 oP_2 oQ_2
  have os_3 := os
  clear os
  go_wp2_with fail
  refine (refAdd_any _ _ xs ys _ sa_3 sb_3).mono ?_
  rintro e w4 ⟨vt, rfl, ot, hb⟩
  have lt : ∀ g, vt.ownBlock = some g → g < w4.heap.size := fun g hg => (World.ownsRow.lt ot.2 g hg).2
  have oP_4 := oP_3.later hb
  have oQ_4 := oQ_3.later hb
  have os_4 := os_3.later hb
  have sa_4 := sa_3.later hb
  have sb_4 := sb_3.later hb
  have hb_4 := bnext hb_3 hb
  have z_3 := hb.size
  clear hb hb_3 sa_3 sb_3 oP_3 oQ_3 os_3
  have ot_4 := ot
  clear ot
  go_wp2_with fail
  refine (mul_any _ _ xs ys _ (lentSl oP_4) (lentSl oQ_4)).mono ?_
  rintro e w5 ⟨vx, rfl, ox, hb⟩
  have lx : ∀ g, vx.ownBlock = some g → g < w5.heap.size := fun g hg => (World.ownsRow.lt ox.2 g hg).2
  have oP_5 := oP_4.later hb
  have oQ_5 := oQ_4.later hb
  have os_5 := os_4.later hb
  have ot_5 := ot_4.later hb
  have sa_5 := sa_4.later hb
  have sb_5 := sb_4.later hb
  have hb_5 := bnext hb_4 hb
  have z_4 := hb.size
  clear hb hb_4 sa_4 sb_4 oP_4 oQ_4 os_4 ot_4
  have ox_5 := ox
  clear ox
  go_wp2_with fail
  refine (refMul_any _ _ xs ys _ sa_5 sb_5).mono ?_
  rintro e w6 ⟨vy, rfl, oy, hb⟩
  have ly : ∀ g, vy.ownBlock = some g → g < w6.heap.size := fun g hg => (World.ownsRow.lt oy.2 g hg).2
  have oP_6 := oP_5.later hb
  have oQ_6 := oQ_5.later hb
  have os_6 := os_5.later hb
  have ot_6 := ot_5.later hb
  have ox_6 := ox_5.later hb
  have sa_6 := sa_5.later hb
  have sb_6 := sb_5.later hb
  have hb_6 := bnext hb_5 hb
  have z_5 := hb.size
  clear hb hb_5 sa_5 sb_5 oP_5 oQ_5 os_5 ot_5 ox_5
  have oy_6 := oy
  clear oy
  go_wp2_with fail
  refine (cmp_any _ _ xs ys _ (lentSl oP_6) (lentSl oQ_6)).mono ?_
  rintro e w7 ⟨rfl, nd, hw⟩
  have hb := below_of_drawn hw
  clear hw
  have oP_7 := oP_6.later hb
  have oQ_7 := oQ_6.later hb
  have os_7 := os_6.later hb
  have ot_7 := ot_6.later hb
  have ox_7 := ox_6.later hb
  have oy_7 := oy_6.later hb
  have sa_7 := sa_6.later hb
  have sb_7 := sb_6.later hb
  have hb_7 := bnext hb_6 hb
  have z_6 := hb.size
  clear hb hb_6 sa_6 sb_6 oP_6 oQ_6 os_6 ot_6 ox_6 oy_6
  go_wp2_with fail
  refine (refCmp_any _ _ xs ys _ sa_7 sb_7).mono ?_
  rintro e w8 ⟨rfl, nd, hw⟩
  have hb := below_of_drawn hw
  clear hw
  have oP_8 := oP_7.later hb
  have oQ_8 := oQ_7.later hb
  have os_8 := os_7.later hb
  have ot_8 := ot_7.later hb
  have ox_8 := ox_7.later hb
  have oy_8 := oy_7.later hb
  have sa_8 := sa_7.later hb
  have sb_8 := sb_7.later hb
  have hb_8 := bnext hb_7 hb
  have z_7 := hb.size
  clear hb hb_7 sa_7 sb_7 oP_7 oQ_7 os_7 ot_7 ox_7 oy_7
  go_wp2_with fail
  refine (same_any _ _ _ _ _ os_8.sl ot_8.sl).mono ?_
  rintro e w9 ⟨rfl, nd, hw⟩
  have hb := below_of_drawn hw
  clear hw
  rw [dec_same]
  have oP_9 := oP_8.later hb
  have oQ_9 := oQ_8.later hb
  have os_9 := os_8.later hb
  have ot_9 := ot_8.later hb
  have ox_9 := ox_8.later hb
  have oy_9 := oy_8.later hb
  have sa_9 := sa_8.later hb
  have sb_9 := sb_8.later hb
  have hb_9 := bnext hb_8 hb
  have z_8 := hb.size
  clear hb hb_8 sa_8 sb_8 oP_8 oQ_8 os_8 ot_8 ox_8 oy_8
  go_wp2_with fail
  refine (same_any _ _ _ _ _ ox_9.sl oy_9.sl).mono ?_
  rintro e w10 ⟨rfl, nd, hw⟩
  have hb := below_of_drawn hw
  clear hw
  rw [dec_same]
  have oP_10 := oP_9.later hb
  have oQ_10 := oQ_9.later hb
  have os_10 := os_9.later hb
  have ot_10 := ot_9.later hb
  have ox_10 := ox_9.later hb
  have oy_10 := oy_9.later hb
  have sa_10 := sa_9.later hb
  have sb_10 := sb_9.later hb
  have hb_10 := bnext hb_9 hb
  have z_9 := hb.size
  clear hb hb_9 sa_9 sb_9 oP_9 oQ_9 os_9 ot_9 ox_9 oy_9
  go_wp2_with fail
  refine (spoil_any vs _ _ _ os_10 (addL_len xs ys)).mono ?_
  rintro e w11 ⟨rfl, hg⟩
  have oP_11 := oP_10.kept hg (ne_lt (fun g hg => Nat.lt_of_lt_of_le (lP g hg) (by omega)) os_10)
  have oQ_11 := oQ_10.kept hg (ne_lt (fun g hg => Nat.lt_of_lt_of_le (lQ g hg) (by omega)) os_10)
  have ot_11 := ot_10.kept hg (ne_gt ot_10 (fun g hg => Nat.lt_of_lt_of_le (ls g hg) (by omega)))
  have ox_11 := ox_10.kept hg (ne_gt ox_10 (fun g hg => Nat.lt_of_lt_of_le (ls g hg) (by omega)))
  have oy_11 := oy_10.kept hg (ne_gt oy_10 (fun g hg => Nat.lt_of_lt_of_le (ls g hg) (by omega)))
  have hb_11 : Below w.heap.size w w11 := hb_10.grown hg hb_10.size (fun g hg => by have h1 := os_10.block g hg; have h2 := h0s; omega)
  have z_10 := hg.size
  have sa_11 := hA.out.later hb_11
  have sb_11 := hB.out.later hb_11
  clear hg hb_10 sa_10 sb_10 oP_10 oQ_10 os_10 ot_10 ox_10 oy_10
  go_wp2_with fail
  refine (spoil_any vx _ _ _ ox_11 (mulL_len xs ys)).mono ?_
  rintro e w12 ⟨rfl, hg⟩
  have oP_12 := oP_11.kept hg (ne_lt (fun g hg => Nat.lt_of_lt_of_le (lP g hg) (by omega)) ox_11)
  have oQ_12 := oQ_11.kept hg (ne_lt (fun g hg => Nat.lt_of_lt_of_le (lQ g hg) (by omega)) ox_11)
  have ot_12 := ot_11.kept hg (ne_lt (fun g hg => Nat.lt_of_lt_of_le (lt g hg) (by omega)) ox_11)
  have oy_12 := oy_11.kept hg (ne_gt oy_11 (fun g hg => Nat.lt_of_lt_of_le (lx g hg) (by omega)))
  have hb_12 : Below w.heap.size w w12 := hb_11.grown hg hb_11.size (fun g hg => by have h1 := ox_11.block g hg; have h2 := h0s; omega)
  have z_11 := hg.size
  have sa_12 := hA.out.later hb_12
  have sb_12 := hB.out.later hb_12
  clear hg hb_11 sa_11 sb_11 oP_11 oQ_11 ot_11 ox_11 oy_11
  go_wp2_with fail
  refine (add_any _ _ xs ys _ (lentSl oP_12) (lentSl oQ_12)).mono ?_
  rintro e w13 ⟨vu, rfl, ou, hb⟩
  have lu : ∀ g, vu.ownBlock = some g → g < w13.heap.size := fun g hg => (World.ownsRow.lt ou.2 g hg).2
  have oP_13 := oP_12.later hb
  have oQ_13 := oQ_12.later hb
  have ot_13 := ot_12.later hb
  have oy_13 := oy_12.later hb
  have sa_13 := sa_12.later hb
  have sb_13 := sb_12.later hb
  have hb_13 := bnext hb_12 hb
  have z_12 := hb.size
  clear hb hb_12 sa_12 sb_12 oP_12 oQ_12 ot_12 oy_12
  have ou_13 := ou
  clear ou
  go_wp2_with fail
  refine (mul_any _ _ xs ys _ (lentSl oP_13) (lentSl oQ_13)).mono ?_
  rintro e w14 ⟨vv, rfl, ov, hb⟩
  have lv : ∀ g, vv.ownBlock = some g → g < w14.heap.size := fun g hg => (World.ownsRow.lt ov.2 g hg).2
  have oP_14 := oP_13.later hb
  have oQ_14 := oQ_13.later hb
  have ot_14 := ot_13.later hb
  have oy_14 := oy_13.later hb
  have ou_14 := ou_13.later hb
  have sa_14 := sa_13.later hb
  have sb_14 := sb_13.later hb
  have hb_14 := bnext hb_13 hb
  have z_13 := hb.size
  clear hb hb_13 sa_13 sb_13 oP_13 oQ_13 ot_13 oy_13 ou_13
  have ov_14 := ov
  clear ov
  go_wp2_with fail
  refine (same_any _ _ _ _ _ ou_14.sl ot_14.sl).mono ?_
  rintro e w15 ⟨rfl, nd, hw⟩
  have hb := below_of_drawn hw
  clear hw
  rw [dec_same]
  have oP_15 := oP_14.later hb
  have oQ_15 := oQ_14.later hb
  have ot_15 := ot_14.later hb
  have oy_15 := oy_14.later hb
  have ou_15 := ou_14.later hb
  have ov_15 := ov_14.later hb
  have sa_15 := sa_14.later hb
  have sb_15 := sb_14.later hb
  have hb_15 := bnext hb_14 hb
  have z_14 := hb.size
  clear hb hb_14 sa_14 sb_14 oP_14 oQ_14 ot_14 oy_14 ou_14 ov_14
  go_wp2_with fail
  refine (same_any _ _ _ _ _ ov_15.sl oy_15.sl).mono ?_
  rintro e w16 ⟨rfl, nd, hw⟩
  have hb := below_of_drawn hw
  clear hw
  rw [dec_same]
  have oP_16 := oP_15.later hb
  have oQ_16 := oQ_15.later hb
  have ot_16 := ot_15.later hb
  have oy_16 := oy_15.later hb
  have ou_16 := ou_15.later hb
  have ov_16 := ov_15.later hb
  have sa_16 := sa_15.later hb
  have sb_16 := sb_15.later hb
  have hb_16 := bnext hb_15 hb
  have z_15 := hb.size
  clear hb hb_15 sa_15 sb_15 oP_15 oQ_15 ot_15 oy_15 ou_15 ov_15
  go_wp2_with fail
  refine (kept_any gP _ _ xs _ oP_16 sa_16 hla).mono ?_
  rintro e w17 ⟨rfl, nd, hw⟩
  have hb := below_of_drawn hw
  clear hw
  have oP_17 := oP_16.later hb
  have oQ_17 := oQ_16.later hb
  have ot_17 := ot_16.later hb
  have oy_17 := oy_16.later hb
  have ou_17 := ou_16.later hb
  have ov_17 := ov_16.later hb
  have sa_17 := sa_16.later hb
  have sb_17 := sb_16.later hb
  have hb_17 := bnext hb_16 hb
  have z_16 := hb.size
  clear hb hb_16 sa_16 sb_16 oP_16 oQ_16 ot_16 oy_16 ou_16 ov_16
  go_wp2_with fail
  refine (kept_any gQ _ _ ys _ oQ_17 sb_17 hlb).mono ?_
  rintro e w18 ⟨rfl, nd, hw⟩
  have hb := below_of_drawn hw
  clear hw
  have oP_18 := oP_17.later hb
  have oQ_18 := oQ_17.later hb
  have ot_18 := ot_17.later hb
  have oy_18 := oy_17.later hb
  have ou_18 := ou_17.later hb
  have ov_18 := ov_17.later hb
  have sa_18 := sa_17.later hb
  have sb_18 := sb_17.later hb
  have hb_18 := bnext hb_17 hb
  have z_17 := hb.size
  clear hb hb_17 sa_17 sb_17 oP_17 oQ_17 ot_17 oy_17 ou_17 ov_17
  generalize addE xs ys = E1
  generalize mulE xs ys = E2
  generalize cmpV xs ys = E3
  generalize cmpE xs ys = E4
  go_wp2
  go_ret
  exact ⟨ret1b (by simp), hb_18⟩

set_option maxRecDepth 100000 in
theorem natReckons_lifted (os : Os) (started : os.Started) (H : Type) (enc : TypeId × Value → H) :
    ReturnsInHanded {} Try.checked os 4 .any (Rows.natReckonsSpec.pre6 enc Try.prog Try.f4 Rows.natReckonsRow.domain false) (Rows.natReckonsSpec.post enc Try.prog Try.f4 false true false false) := by
  refine returnsInHanded_of_change_sized (C := Try.checked) own started (by kernel_rfl) Try.func4
    (ChangeSpec.witness6 (enc := enc) (C := Try.checked) false ⟨#[], #[.slice none 0 0, .slice none 0 0], []⟩ 8 (by kernel_rfl) (by kernel_rfl) (by kernel_rfl) (by kernel_rfl)) ?_
  intro W base args ds gs before hval0 hW hcnd hsz0 _
  have hsz : (DataW.weightsEach Try.prog (Try.f4.params.toList ++ Rows.natReckonsSpec.plain.varTypes Try.prog) (ds ++ gs)).all (· ≤ reachBytes) = true := hsz0
  have hval : ∀ (j : Nat) t v, Try.f4.params[j]? = some t → args[j]? = some v → Value.okWide Try.prog W .any base t v := hval0
  have hW' := hW
  obtain ⟨p, q, hA0, hV, rfl, hfz, hnd⟩ := hW
  have hA : DataW.TrodAll enc Try.prog W 0 (fun _ => true) true Try.f4.params.toList args.toList ds p := hA0
  rw [Try.params4] at hA hval hsz
  obtain ⟨v0, vs0, d0, ds0, p0, q0, hargs, rfl, rfl, h0, r0⟩ := trodAll_cons hA
  obtain ⟨v1, vs1, d1, ds1, p1, q1, rfl, rfl, rfl, h1, r1⟩ := trodAll_cons r0
  obtain ⟨rfl, rfl, rfl⟩ := trodAll_nil r1
  obtain rfl : args = #[v0, v1] := by cases args; simp_all
  obtain ⟨rfl, rfl⟩ := trodVars_none hV
  obtain ⟨a0, len0, cap0, rfl⟩ := okWide_slice Try.underlying22 (hval 0 22 v0 rfl rfl)
  have k0 := h0
  have lt0 : ∀ x ∈ p0, x.block < W.heap.size := by obtain ⟨m, hm⟩ := k0; exact DataW.trod_lt m _ _ _ hm
  obtain ⟨z0, w0, g0⟩ : ∃ zs, IsRow .u32 W a0 len0 cap0 zs ∧ cap0 * 4 ≤ 140737488351232 := by
    obtain ⟨fuel, hf⟩ := h0
    rcases open_ints Try.underlying22 Try.underlying42 (by kernel_rfl) hf with ⟨hcs, _⟩ | ⟨x, l, c, zs, hcs, _, hl, hm, hz, hx, hcell, hwz⟩
    · simp [Value.cells] at hcs
      obtain ⟨rfl, rfl, rfl⟩ := hcs
      exact ⟨[], .inl ⟨rfl, rfl, rfl, rfl⟩, by omega⟩
    · simp [Value.cells] at hcs
      obtain ⟨rfl, rfl, rfl⟩ := hcs
      obtain ⟨rfl, rfl⟩ := hx
      have hw := sized_slice hsz (j := 0) (t := 22) (e := 42) rfl rfl Try.underlying22
      rw [show Try.prog.bytesOf 42 = 4 by kernel_rfl] at hw
      simp only [lits, List.length_map, List.length_take, List.length_drop, reachBytes] at hw
      have hzz : zs.length = cap0 := by simpa using hz
      exact ⟨zs, .inr ⟨_, rfl, hl, hm, hzz, hcell, hwz⟩, by omega⟩
  obtain ⟨a1, len1, cap1, rfl⟩ := okWide_slice Try.underlying22 (hval 1 22 v1 rfl rfl)
  have k1 := h1
  have lt1 : ∀ x ∈ p1, x.block < W.heap.size := by obtain ⟨m, hm⟩ := k1; exact DataW.trod_lt m _ _ _ hm
  obtain ⟨z1, w1, g1⟩ : ∃ zs, IsRow .u32 W a1 len1 cap1 zs ∧ cap1 * 4 ≤ 140737488351232 := by
    obtain ⟨fuel, hf⟩ := h1
    rcases open_ints Try.underlying22 Try.underlying42 (by kernel_rfl) hf with ⟨hcs, _⟩ | ⟨x, l, c, zs, hcs, _, hl, hm, hz, hx, hcell, hwz⟩
    · simp [Value.cells] at hcs
      obtain ⟨rfl, rfl, rfl⟩ := hcs
      exact ⟨[], .inl ⟨rfl, rfl, rfl, rfl⟩, by omega⟩
    · simp [Value.cells] at hcs
      obtain ⟨rfl, rfl, rfl⟩ := hcs
      obtain ⟨rfl, rfl⟩ := hx
      have hw := sized_slice hsz (j := 1) (t := 22) (e := 42) rfl rfl Try.underlying22
      rw [show Try.prog.bytesOf 42 = 4 by kernel_rfl] at hw
      simp only [lits, List.length_map, List.length_take, List.length_drop, reachBytes] at hw
      have hzz : zs.length = cap1 := by simpa using hz
      exact ⟨zs, .inr ⟨_, rfl, hl, hm, hzz, hcell, hwz⟩, by omega⟩
  clear hA0 hval0
  refine (natReckons_any _ _ _ _ W w0.sl w1.sl (w0.short g0) (w1.short g1)).mono fun e W' ⟨he, bel⟩ => ?_
  subst he
  exact ⟨_, rfl, _, _, _, [], _, [], hW', trodAll_mk1 (shut_bool Try.underlying4 _), (trodAll_cons_mk (Below.trod laidOut (by kernel_rfl) (of_decide_eq_true (by kernel_rfl)) k0 bel lt0) (trodAll_cons_mk (Below.trod laidOut (by kernel_rfl) (of_decide_eq_true (by kernel_rfl)) k1 bel lt1) trodAll_mk0)), rfl, bel.frame _, fun h => by cases h⟩

theorem natReckons_holds : Rows.NatReckonsSaid :=
  OpenClaim.holds_of_wide 4 Try.f4 rfl rfl rfl rfl rfl rfl rfl ⟨rfl, rfl, rfl, rfl, rfl⟩ rfl rfl rfl rfl rfl (by kernel_rfl) Try.func4 (by kernel_rfl)
    (of_decide_eq_true (by kernel_rfl)) (by unfold Func.isWrapper; first | (rw [if_pos (by decide +kernel)]; kernel_rfl) | (rw [if_neg (by decide +kernel)]; exact ⟨rfl, rfl⟩))
    (fun os started H enc _ => natReckons_lifted os started H enc)

#print axioms natReckons_holds

end Go.Proofs.Ytaekpijpkblkgaa
