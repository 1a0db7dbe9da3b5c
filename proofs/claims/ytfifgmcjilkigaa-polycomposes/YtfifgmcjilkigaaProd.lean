/- What multiplying answers, of the program's and of the document's. -/
import Derived.Test.YtfifgmcjilkigaaSum
namespace Go.Proofs.Ytfifgmcjilkigaa
open Go.RowKit

set_option maxHeartbeats 1000000 in
theorem product_any (v u : Value) (xs ys : List Nat) (w : World) (h : Sl w v xs) (h' : Sl w u ys) (h64 : xs.length ≤ 64) (h64' : ys.length ≤ 64) :
    Calls Try.prog 72 #[v, u] w fun e w' => ∃ v' zs, e = .returned v' ∧ Ow w' w.heap.size v' zs ∧ val zs = val xs * val ys ∧ Below w.heap.size w w' := by
  obtain ⟨ao, cap, rfl, hao, hca, hcl⟩ := h.flat
  obtain ⟨bo, cap', rfl, hbo, hcb, hcl'⟩ := h'.flat
  unfold maxLen at hca hcb
  obtain ⟨i0, hi, hz0, hz1, hz2⟩ := info_parts info_u32
  have HS : Hid (Sl w (.slice ao xs.length cap) xs) := h
  have HS' : Hid (Sl w (.slice bo ys.length cap') ys) := h'
  clear h h' hcl hcl'
  go_enter Try.func72, Try.ntmps72
  go_wp2_with (first
    | (at_make; refine wpList_make_full _ rfl _ _ 36 rfl w.heap.size 43 i0 (.int .u32 0) 1 under_row hi hz0 hz1 .i64 .i64 _ _ (xs.length + ys.length) rfl rfl (by omega) (by omega) (by rw [hz2]; omega) (by unfold maxLen; omega) (Nat.le_refl _) ?_; intro w0 hown0 hgrow0))
  have hb0 : Below w.heap.size w w0 := (Below.refl _ _).grown hgrow0 (Nat.le_refl _) (by intro k hk; cases hk)
  have HO : Hid (Ow w0 w.heap.size (.slice (some ⟨w.heap.size, 0, none⟩) (xs.length + ys.length) (xs.length + ys.length)) (List.replicate (xs.length + ys.length) 0)) := Ow.made hown0
  clear hown0 hgrow0
  go_loopw [17] (fun i wr => ∃ (k : Nat) (Z : List Nat), k ≤ xs.length ∧ i = .int .i64 k ∧ Z.length = xs.length + ys.length ∧ val Z = val (xs.take k) * val ys ∧ (∀ p, k + ys.length ≤ p → p < xs.length + ys.length → Z[p]? = some 0) ∧
      Ow wr w.heap.size (.slice (some ⟨w.heap.size, 0, none⟩) (xs.length + ys.length) (xs.length + ys.length)) Z ∧ Below w.heap.size w wr) (fun i _ => xs.length - (intOf i).toNat)
  case atStart => exact ⟨0, List.replicate (xs.length + ys.length) 0, Nat.zero_le _, rfl, by simp, by simp [val, val_replicate_zero], fun p _ hp => by simp [hp], HO.out, hb0⟩
  case round =>
    obtain ⟨k, Z, hk, rfl, hZ, hval, hzero, hown, hbl⟩ := hrel
    have HV : Hid (val Z = val (xs.take k) * val ys) := hval
    have HZ : Hid (Z.length = xs.length + ys.length) := hZ
    have H0 : Hid (∀ p, k + ys.length ≤ p → p < xs.length + ys.length → Z[p]? = some 0) := hzero
    have HW : Hid (Ow wr w.heap.size (.slice (some ⟨w.heap.size, 0, none⟩) (xs.length + ys.length) (xs.length + ys.length)) Z) := hown
    clear hval hZ hzero hown HO hb0
    by_cases hlt : k < xs.length
    · obtain ⟨ga, offa, x, rfl, hx1, hx2, hx3⟩ := HS.out.flat'.2 k hlt
      have HX : Hid (xs.take (k + 1) = xs.take k ++ [x]) := take_snoc? hx1
      have HLX : Hid ((xs.take k).length = k) := by show _ = _; simp; omega
      have hga : ga < w.heap.size := World.block_lt_of_cell? w _ hx3
      have HXC : Hid (w.cell? ⟨ga, offa + k, none⟩ = some (.int .u32 (x : Int))) := hx3
      clear hx1 hx3
      go_wp2
      go_loopw [7, 22] (fun c i wi => ∃ (j C : Nat) (Y : List Nat), j ≤ ys.length ∧ i = .int .i64 j ∧ c = .int .u64 C ∧ C < 4294967296 ∧ Y.length = xs.length + ys.length ∧
          val Y + 4294967296 ^ (k + j) * C = val (xs.take k) * val ys + 4294967296 ^ k * (x * val (ys.take j)) ∧ (∀ p, k + ys.length ≤ p → p < xs.length + ys.length → Y[p]? = some 0) ∧
          Ow wi w.heap.size (.slice (some ⟨w.heap.size, 0, none⟩) (xs.length + ys.length) (xs.length + ys.length)) Y ∧ Below w.heap.size w wi) (fun _ i _ => ys.length - (intOf i).toNat)
      case atStart => exact ⟨0, 0, Z, Nat.zero_le _, rfl, rfl, by omega, HZ.out, by simp [val, HV.out], H0.out, HW.out, hbl⟩
      case round =>
        obtain ⟨j, C, Y, hj, rfl, rfl, hC, hY, hyv, hyz, hyo, hyb⟩ := hrel
        have GV : Hid (val Y + 4294967296 ^ (k + j) * C = val (xs.take k) * val ys + 4294967296 ^ k * (x * val (ys.take j))) := hyv
        have GZ : Hid (Y.length = xs.length + ys.length) := hY
        have G0 : Hid (∀ p, k + ys.length ≤ p → p < xs.length + ys.length → Y[p]? = some 0) := hyz
        have GW : Hid (Ow wr w.heap.size (.slice (some ⟨w.heap.size, 0, none⟩) (xs.length + ys.length) (xs.length + ys.length)) Y) := hyo
        clear hyv hY hyz hyo
        by_cases hjl : j < ys.length
        · obtain ⟨gb, offb, y, rfl, hy1, hy2, hy3⟩ := (HS'.out.later hyb).flat'.2 j hjl
          obtain ⟨z, hz⟩ := exists_get (xs := Y) (k := k + j) (by rw [GZ.out]; omega)
          have hz32 : z < 4294967296 := GW.out.1.get hz
          obtain ⟨hcell, hfr⟩ := GW.out.at hz
          have hxc := (hyb.cell (p := ⟨ga, offa + k, none⟩) hga).trans HXC.out
          obtain ⟨hxyI, hxy0⟩ := mul_prod_leI hx2 hy2
          have KY : Hid (ys.take (j + 1) = ys.take j ++ [y]) := take_snoc? hy1
          have KL : Hid ((ys.take j).length = j) := by show _ = _; simp; omega
          have KZ : Hid (Y[k + j]? = some z) := hz
          clear hy1 hz
          go_wp2
          go_quiet (fail)
          have hsum : ((C : Int) + ((x : Int) * y + z)) % 4294967296 = (((C + (x * y + z)) % 4294967296 : Nat) : Int) := by rw [Int.natCast_emod]; simp
          have hquo : ((C : Int) + ((x : Int) * y + z)) / 4294967296 = (((C + (x * y + z)) / 4294967296 : Nat) : Int) := by rw [Int.natCast_ediv]; simp
          have hp := (GW.out.drewN nq).put (below_drewN hyb nq) (Nat.le_refl _) GZ.out.symm (k := k + j) (z := (C + (x * y + z)) % 4294967296) hsum (by omega) rfl
          have HP : Hid (Ow ((wr.drewN nq).setCell ⟨w.heap.size, k + j, none⟩ (.int .u32 (((C : Int) + ((x : Int) * y + z)) % 4294967296))) w.heap.size (.slice (some ⟨w.heap.size, 0, none⟩) (xs.length + ys.length) (xs.length + ys.length)) (Y.set (k + j) ((C + (x * y + z)) % 4294967296)) ∧ Below w.heap.size w ((wr.drewN nq).setCell ⟨w.heap.size, k + j, none⟩ (.int .u32 (((C : Int) + ((x : Int) * y + z)) % 4294967296)))) := hp
          have HQ : Hid (((C : Int) + ((x : Int) * y + z)) / 4294967296 = (((C + (x * y + z)) / 4294967296 : Nat) : Int)) := hquo
          clear hp hquo hsum
          go_wp2
          go_roundw
          case rel =>
            refine ⟨j + 1, (C + (x * y + z)) / 4294967296, _, by omega, by go_num, by rw [HQ.out], ?_, by rw [List.length_set]; exact GZ.out, ?_, ?_, HP.out.1, HP.out.2⟩
            · have hxyN := mul_prod_le hx2 hy2
              omega
            · rw [KY.out, val_snoc, KL.out]
              exact mul_step KZ.out GV.out
            · intro p hp1 hp2
              rw [List.getElem?_set_ne (by omega)]
              exact G0.out p hp1 hp2
          case measure => simp [intOf]; omega
        · have hjm : j = ys.length := by omega
          subst hjm
          have hz := G0.out (k + ys.length) (Nat.le_refl _) (by omega)
          obtain ⟨hcell, hfr⟩ := GW.out.at hz
          have hp := GW.out.put hyb (Nat.le_refl _) GZ.out.symm (k := k + ys.length) (z := C) (V := (C : Int)) rfl hC rfl
          have HP : Hid (Ow (wr.setCell ⟨w.heap.size, k + ys.length, none⟩ (.int .u32 (C : Int))) w.heap.size (.slice (some ⟨w.heap.size, 0, none⟩) (xs.length + ys.length) (xs.length + ys.length)) (Y.set (k + ys.length) C) ∧ Below w.heap.size w (wr.setCell ⟨w.heap.size, k + ys.length, none⟩ (.int .u32 (C : Int)))) := hp
          have KZ : Hid (Y[k + ys.length]? = some 0) := hz
          clear hp hz
          go_wp2
          go_roundw
          case rel =>
            refine ⟨k + 1, _, by omega, by go_num, by rw [List.length_set]; exact GZ.out, ?_, ?_, HP.out.1, HP.out.2⟩
            · have hv := GV.out
              rw [List.take_length] at hv
              exact mul_last KZ.out hv (by rw [HX.out, val_snoc, HLX.out])
            · intro p hp1 hp2
              rw [List.getElem?_set_ne (by omega)]
              exact G0.out p (by omega) hp2
          case measure => simp [intOf]; omega
    · have hk' : k = xs.length := by omega
      subst hk'
      go_wp2
      go_ret
      refine ⟨_, Z, rfl, HW.out, ?_, hbl⟩
      have := HV.out
      rw [List.take_length] at this
      exact this

set_option maxHeartbeats 400000 in
theorem mul_any (v u : Value) (xs ys : List Nat) (w : World) (h : Sl w v xs) (h' : Sl w u ys) :
    Calls Try.prog 53 #[v, u] w fun e w' => ∃ v', e = .returned (.tuple #[v', .int .i64 (mulE xs ys)]) ∧ Ow w' w.heap.size v' (mulL xs ys) ∧ Below w.heap.size w w' := by
  go_enter Try.func53, Try.ntmps53
  go_wp2_with fail
  refine (right_any v xs _ h).mono ?_
  rintro e w1 ⟨rfl, rfl⟩
  cases hr : rightB xs
  · go_wp2
    go_ret2
    exact ⟨_, ret2i (by simp [mulE, hr]), by simp [mulL, hr]; exact Ow.nil _ _, Below.refl _ _⟩
  go_wp2_with fail
  refine (right_any u ys _ h').mono ?_
  rintro e w1 ⟨rfl, rfl⟩
  cases hr' : rightB ys
  · go_wp2
    go_ret2
    exact ⟨_, ret2i (by simp [mulE, hr']), by simp [mulL, hr']; exact Ow.nil _ _, Below.refl _ _⟩
  go_wp2_with fail
  refine (product_any v u xs ys _ h h' (length_le_of_right hr) (length_le_of_right hr')).mono ?_
  rintro e w2 ⟨v2, zs, rfl, ho, hv, hb⟩
  have HV : Hid (val zs = val xs * val ys) := hv
  clear hv
  go_wp2_with fail
  refine (inBounds_any v2 zs _ _ ho).mono ?_
  rintro e w3 ⟨v3, rfl, ho3, rfl⟩
  rw [HV.out] at ho3 ⊢
  go_wp2
  go_ret2
  exact ⟨_, ret2i (by simp [mulE, hr, hr']), by simp only [mulL, hr, hr', Bool.and_self, if_true]; exact ho3, hb⟩

end Go.Proofs.Ytfifgmcjilkigaa
