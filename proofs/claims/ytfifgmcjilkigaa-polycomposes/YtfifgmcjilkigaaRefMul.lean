/- What the document's multiplying answers. -/
import Derived.Test.YtfifgmcjilkigaaProd
namespace Go.Proofs.Ytfifgmcjilkigaa
open Go.RowKit

theorem mul_done {Z : List Nat} {P i m x D E : Nat} (h : val Z + 4294967296 ^ (i + m) * 0 = P * D + 4294967296 ^ i * (x * D)) (hE : E = P + 4294967296 ^ i * x) : val Z = E * D := by
  subst hE
  rw [Nat.add_mul, Nat.mul_assoc]
  simpa using h

theorem cast_sum (C x y z : Nat) : ((C : Int) + z + (x : Int) * y) % 4294967296 = (((C + (x * y + z)) % 4294967296 : Nat) : Int) ∧ ((C : Int) + z + (x : Int) * y) / 4294967296 = (((C + (x * y + z)) / 4294967296 : Nat) : Int) := by
  have e : (C : Int) + z + (x : Int) * y = ((C + (x * y + z) : Nat) : Int) := by
    rw [Int.natCast_add, Int.natCast_add, Int.natCast_mul]; omega
  rw [e, Int.natCast_emod, Int.natCast_ediv]
  exact ⟨rfl, rfl⟩

set_option maxRecDepth 100000 in
set_option maxHeartbeats 2000000 in
theorem refMul_any (v u : Value) (xs ys : List Nat) (w : World) (h : Sl w v xs) (h' : Sl w u ys) :
    Calls Try.prog 56 #[v, u] w fun e w' => ∃ v', e = .returned (.tuple #[v', .int .i64 (mulE xs ys)]) ∧ Ow w' w.heap.size v' (mulL xs ys) ∧ Below w.heap.size w w' := by
  obtain ⟨i0, hi, hz0, hz1, hz2⟩ := info_parts info_u32
  go_enter Try.func56, Try.ntmps56
  go_wp2_with fail
  refine (refRight_any v xs _ h).mono ?_
  rintro e w1 ⟨rfl, rfl⟩
  cases hr : rightB xs
  · go_wp2
    go_ret2
    exact ⟨_, ret2i (by simp [mulE, hr]), by simp [mulL, hr]; exact Ow.nil _ _, Below.refl _ _⟩
  go_wp2_with fail
  refine (refRight_any u ys _ h').mono ?_
  rintro e w1 ⟨rfl, rfl⟩
  cases hr' : rightB ys
  · go_wp2
    go_ret2
    exact ⟨_, ret2i (by simp [mulE, hr']), by simp [mulL, hr']; exact Ow.nil _ _, Below.refl _ _⟩
  have h64 := length_le_of_right hr
  have h64' := length_le_of_right hr'
  have HE : Hid (mulE xs ys = resE (val xs * val ys)) := by show _ = _; simp [mulE, hr, hr']
  have HLL : Hid (mulL xs ys = resL (val xs * val ys)) := by show _ = _; simp [mulL, hr, hr']
  obtain ⟨ao, cap, rfl, hao, hca, q1⟩ := h.flat
  obtain ⟨bo, cap', rfl, hbo, hcb, q2⟩ := h'.flat
  unfold maxLen at hca hcb
  have HS : Hid (Sl w1 (.slice ao xs.length cap) xs) := h
  have HS' : Hid (Sl w1 (.slice bo ys.length cap') ys) := h'
  clear h h' hr hr' q1 q2
  go_wp2_with (first
    | (at_make; refine wpList_make_full _ rfl _ _ 36 rfl w1.heap.size 43 i0 (.int .u32 0) 1 under_row hi hz0 hz1 .i64 .i64 _ _ (xs.length + ys.length + 1) rfl rfl (by omega) (by omega) (by rw [hz2]; omega) (by unfold maxLen; omega) (Nat.le_refl _) ?_; intro w0 hown0 hgrow0))
  have hb0 : Below w1.heap.size w1 w0 := (Below.refl _ _).grown hgrow0 (Nat.le_refl _) (by intro k hk; cases hk)
  have HO : Hid (Ow w0 w1.heap.size (.slice (some ⟨w1.heap.size, 0, none⟩) (xs.length + ys.length + 1) (xs.length + ys.length + 1)) (List.replicate (xs.length + ys.length + 1) 0)) := Ow.made hown0
  clear hown0 hgrow0
  go_loopw [7] (fun i wr => ∃ (k : Nat) (Z : List Nat), k ≤ xs.length ∧ i = .int .i64 k ∧ Z.length = xs.length + ys.length + 1 ∧ val Z = val (xs.take k) * val ys ∧ (∀ p, k + ys.length ≤ p → p < xs.length + ys.length + 1 → Z[p]? = some 0) ∧
      Ow wr w1.heap.size (.slice (some ⟨w1.heap.size, 0, none⟩) (xs.length + ys.length + 1) (xs.length + ys.length + 1)) Z ∧ Below w1.heap.size w1 wr) (fun i _ => xs.length - (intOf i).toNat)
  case atStart => exact ⟨0, List.replicate (xs.length + ys.length + 1) 0, Nat.zero_le _, rfl, by simp, by simp [val, val_replicate_zero], fun p _ hp => by simp [hp], HO.out, hb0⟩
  case round =>
    obtain ⟨k, Z, hk, rfl, hZ, hval, hzero, hown, hbl⟩ := hrel
    have HV : Hid (val Z = val (xs.take k) * val ys) := hval
    have HZ : Hid (Z.length = xs.length + ys.length + 1) := hZ
    have H0 : Hid (∀ p, k + ys.length ≤ p → p < xs.length + ys.length + 1 → Z[p]? = some 0) := hzero
    have HW : Hid (Ow wr w1.heap.size (.slice (some ⟨w1.heap.size, 0, none⟩) (xs.length + ys.length + 1) (xs.length + ys.length + 1)) Z) := hown
    clear hval hZ hzero hown HO hb0
    by_cases hlt : k < xs.length
    · obtain ⟨ga, offa, x, rfl, hx1, hx2, hx3⟩ := HS.out.flat'.2 k hlt
      have HX : Hid (val (xs.take (k + 1)) = val (xs.take k) + 4294967296 ^ k * x) := by
        show _ = _
        rw [take_snoc? hx1, val_snoc, List.length_take, Nat.min_eq_left (by omega)]
      have hga : ga < w1.heap.size := World.block_lt_of_cell? w1 _ hx3
      have HXC : Hid (w1.cell? ⟨ga, offa + k, none⟩ = some (.int .u32 (x : Int))) := hx3
      clear hx1 hx3
      go_wp2
      go_loopw [8, 9] (fun c i wi => ∃ (j C : Nat) (Y : List Nat), i = .int .i64 j ∧ c = .int .u64 C ∧ C < 4294967296 ∧ Y.length = xs.length + ys.length + 1 ∧
          ((j ≤ ys.length ∧ val Y + 4294967296 ^ (k + j) * C = val (xs.take k) * val ys + 4294967296 ^ k * (x * val (ys.take j)) ∧ ∀ p, k + ys.length ≤ p → p < xs.length + ys.length + 1 → Y[p]? = some 0) ∨
           (j = ys.length + 1 ∧ C = 0 ∧ val Y = val (xs.take (k + 1)) * val ys ∧ ∀ p, k + 1 + ys.length ≤ p → p < xs.length + ys.length + 1 → Y[p]? = some 0)) ∧
          Ow wi w1.heap.size (.slice (some ⟨w1.heap.size, 0, none⟩) (xs.length + ys.length + 1) (xs.length + ys.length + 1)) Y ∧ Below w1.heap.size w1 wi) (fun _ i _ => ys.length + 1 - (intOf i).toNat)
      case atStart => exact ⟨0, 0, Z, rfl, rfl, by omega, HZ.out, .inl ⟨Nat.zero_le _, by simp [val, HV.out], H0.out⟩, HW.out, hbl⟩
      case round =>
        obtain ⟨j, C, Y, rfl, rfl, hC, hY, hinv, hyo, hyb⟩ := hrel
        have GZ : Hid (Y.length = xs.length + ys.length + 1) := hY
        have GW : Hid (Ow wr w1.heap.size (.slice (some ⟨w1.heap.size, 0, none⟩) (xs.length + ys.length + 1) (xs.length + ys.length + 1)) Y) := hyo
        clear hY hyo
        rcases hinv with ⟨hj, hyv, hyz⟩ | ⟨hj, hC0, hyv, hyz⟩
        · have GV : Hid (val Y + 4294967296 ^ (k + j) * C = val (xs.take k) * val ys + 4294967296 ^ k * (x * val (ys.take j))) := hyv
          have G0 : Hid (∀ p, k + ys.length ≤ p → p < xs.length + ys.length + 1 → Y[p]? = some 0) := hyz
          clear hyv hyz
          by_cases hjl : j < ys.length
          · obtain ⟨gb, offb, y, rfl, hy1, hy2, hy3⟩ := (HS'.out.later hyb).flat'.2 j hjl
            obtain ⟨z, hz⟩ := exists_get (xs := Y) (k := k + j) (by rw [GZ.out]; omega)
            have hz32 : z < 4294967296 := GW.out.1.get hz
            obtain ⟨hcell, hfr⟩ := GW.out.at hz
            have hxc := (hyb.cell (p := ⟨ga, offa + k, none⟩) hga).trans HXC.out
            obtain ⟨hxyI, hxy0⟩ := mul_prod_leI hx2 hy2
            have KY : Hid (ys.take (j + 1) = ys.take j ++ [y]) := take_snoc? hy1
            have KL : Hid ((ys.take j).length = j) := by show _ = _; simp; omega
            have KZ : Hid (Y[k + j]? = some z) := hz
            clear hy1 hz
            go_wp2
            go_quiet (fail)
            obtain ⟨hsum, hquo⟩ := cast_sum C x y z
            have hp := (GW.out.drewN nq).put (below_drewN hyb nq) (Nat.le_refl _) GZ.out.symm (k := k + j) (z := (C + (x * y + z)) % 4294967296) hsum (by omega) rfl
            have HP : Hid (Ow ((wr.drewN nq).setCell ⟨w1.heap.size, k + j, none⟩ (.int .u32 (((C : Int) + z + (x : Int) * y) % 4294967296))) w1.heap.size (.slice (some ⟨w1.heap.size, 0, none⟩) (xs.length + ys.length + 1) (xs.length + ys.length + 1)) (Y.set (k + j) ((C + (x * y + z)) % 4294967296)) ∧ Below w1.heap.size w1 ((wr.drewN nq).setCell ⟨w1.heap.size, k + j, none⟩ (.int .u32 (((C : Int) + z + (x : Int) * y) % 4294967296)))) := hp
            have HQ : Hid (((C : Int) + z + (x : Int) * y) / 4294967296 = (((C + (x * y + z)) / 4294967296 : Nat) : Int)) := hquo
            clear hp hquo hsum
            go_wp2
            go_roundw
            case rel =>
              refine ⟨j + 1, (C + (x * y + z)) / 4294967296, _, by go_num, by rw [HQ.out], ?_, by rw [List.length_set]; exact GZ.out, .inl ⟨by omega, ?_, ?_⟩, HP.out.1, HP.out.2⟩
              · have hxyN := mul_prod_le hx2 hy2
                omega
              · rw [KY.out, val_snoc, KL.out]
                exact mul_step KZ.out GV.out
              · intro p hp1 hp2
                rw [List.getElem?_set_ne (by omega)]
                exact G0.out p hp1 hp2
            case measure => simp [intOf]; omega
          · have hjm : j = ys.length := by omega
            subst hjm
            have hz := G0.out (k + ys.length) (Nat.le_refl _) (by omega)
            have KZ : Hid (Y[k + ys.length]? = some 0) := hz
            have hv := GV.out
            rw [List.take_length] at hv
            by_cases hC0 : C = 0
            · subst hC0
              have KE : Hid (val Y = val (xs.take (k + 1)) * val ys) := mul_done hv HX.out
              clear hz hv
              go_wp2
              go_roundw
              case rel => exact ⟨k + 1, Y, by omega, by go_num, GZ.out, KE.out, fun p hp1 hp2 => G0.out p (by omega) hp2, GW.out, hyb⟩
              case measure => simp [intOf]; omega
            · have KE : Hid (val (Y.set (k + ys.length) C) = val (xs.take (k + 1)) * val ys) := mul_last hz hv HX.out
              obtain ⟨hcell, hfr⟩ := GW.out.at hz
              have hcell0 : wr.cell? ⟨w1.heap.size, k + ys.length, none⟩ = some (.int .u32 0) := hcell
              have hp := GW.out.put hyb (Nat.le_refl _) GZ.out.symm (k := k + ys.length) (z := C) (V := (C : Int)) rfl hC rfl
              have HP : Hid (Ow (wr.setCell ⟨w1.heap.size, k + ys.length, none⟩ (.int .u32 (C : Int))) w1.heap.size (.slice (some ⟨w1.heap.size, 0, none⟩) (xs.length + ys.length + 1) (xs.length + ys.length + 1)) (Y.set (k + ys.length) C) ∧ Below w1.heap.size w1 (wr.setCell ⟨w1.heap.size, k + ys.length, none⟩ (.int .u32 (C : Int)))) := hp
              clear hp hz hcell hv
              go_wp2
              go_roundw
              case rel =>
                refine ⟨ys.length + 1, 0, _, by go_num, by go_num, by omega, by rw [List.length_set]; exact GZ.out, .inr ⟨rfl, rfl, KE.out, ?_⟩, HP.out.1, HP.out.2⟩
                intro p hp1 hp2
                rw [List.getElem?_set_ne (by omega)]
                exact G0.out p (by omega) hp2
              case measure => simp [intOf]
        · subst hC0
          subst hj
          have GV : Hid (val Y = val (xs.take (k + 1)) * val ys) := hyv
          have G0 : Hid (∀ p, k + 1 + ys.length ≤ p → p < xs.length + ys.length + 1 → Y[p]? = some 0) := hyz
          clear hyv hyz
          go_wp2
          go_roundw
          case rel => exact ⟨k + 1, Y, by omega, by go_num, GZ.out, GV.out, G0.out, GW.out, hyb⟩
          case measure => simp [intOf]; omega
    · have hk' : k = xs.length := by omega
      subst hk'
      have hv := HV.out
      rw [List.take_length] at hv
      have HVZ : Hid (val Z = val xs * val ys) := hv
      clear hv HV H0
      go_wp2_with fail
      refine (told_any _ Z _ _ HW.out).mono ?_
      rintro e w3 ⟨v3, rfl, ho3, hw3⟩
      rw [HVZ.out] at ho3 ⊢
      have hb3 : Below w1.heap.size w1 w3 := by rw [hw3]; exact hbl
      have ho4 : Ow w3 w1.heap.size v3 (resL (val xs * val ys)) := by rw [hw3]; exact ho3
      clear hw3 ho3
      go_wp2
      go_ret2
      exact ⟨_, ret2i HE.out.symm, by rw [HLL.out]; exact ho4, hb3⟩

end Go.Proofs.Ytfifgmcjilkigaa
