/- What ten times a number and a digit comes to, in place. -/
import Derived.Test.YtaekpijpkblkgaaText
namespace Go.Proofs.Ytaekpijpkblkgaa
open Go.RowKit

set_option maxHeartbeats 1000000 in
theorem withDigit_any (v : Value) (m d base : Nat) (w : World) (h : Ow w base v (limbs m)) (hd : d ≤ 9) (h64 : (limbs m).length ≤ 64) (hbase : base ≤ w.heap.size) :
    Calls Try.prog 38 #[v, .int .u32 (d : Int)] w fun e w' => ∃ v', e = .returned v' ∧ Ow w' base v' (limbs (10 * m + d)) ∧ Below base w w' := by
  obtain ⟨ao, cap, rfl, hao, hca, q0⟩ := h.sl.flat
  clear q0
  unfold maxLen at hca
  obtain ⟨i0, hi, hz0, hz1, hz2⟩ := info_parts info_u32
  have HO : Hid (Ow w base (.slice ao (limbs m).length cap) (limbs m)) := h
  have HM : Hid (val (limbs m) = m) := val_limbs m
  have HLL : Hid (Lim (limbs m)) := limbs_lim m
  clear h
  generalize hX : limbs m = xs at *
  have HX : Hid (limbs m = xs) := hX
  clear hX
  go_enter Try.func38, Try.ntmps38
  go_wp2
  go_loopw [5, 11] (fun c i wr => ∃ (k C : Nat) (Z : List Nat), k ≤ xs.length ∧ i = .int .i64 k ∧ c = .int .u64 C ∧ C < 10 ∧ Z.length = k ∧ val Z + 4294967296 ^ k * C = 10 * val (xs.take k) + d ∧
      Ow wr base (.slice ao xs.length cap) (Z ++ xs.drop k) ∧ Below base w wr) (fun _ i _ => xs.length - (intOf i).toNat)
  case atStart => exact ⟨0, d, [], Nat.zero_le _, rfl, rfl, by omega, rfl, by simp [val], by simpa using HO.out, Below.refl _ _⟩
  case round =>
    obtain ⟨k, C, Z, hk, rfl, rfl, hC, hZ, hval, hown, hbl⟩ := hrel
    have HV : Hid (val Z + 4294967296 ^ k * C = 10 * val (xs.take k) + d) := hval
    have HZ : Hid (Z.length = k) := hZ
    have HW : Hid (Ow wr base (.slice ao xs.length cap) (Z ++ xs.drop k)) := hown
    clear hval hZ hown
    by_cases hlt : k < xs.length
    · obtain ⟨x, hx⟩ := exists_get hlt
      have hx32 : x < 4294967296 := HLL.out.get hx
      have hw := HW.out
      rw [drop_cons? hx] at hw
      rcases hw.shape with ⟨hv, hnil⟩ | ⟨g, cap', hv, hg1, hg2, q1, q2, q3, q4⟩
      · simp at hnil
      simp only [Value.slice.injEq] at hv
      obtain ⟨rfl, q5, rfl⟩ := hv
      clear q1 q2 q3 q4 q5
      obtain ⟨hcell, hfr⟩ := hw.at (k := k) (get_mid HZ.out)
      have hp := hw.put hbl hg1 (by simp [HZ.out]; omega) (k := k) (z := (C + x * 10) % 4294967296) (V := ((C : Int) + x * 10) % 4294967296) (by omega) (by omega) (ys := Z ++ [(C + x * 10) % 4294967296] ++ xs.drop (k + 1)) (by rw [set_mid _ _ _ _ _ HZ.out]; simp)
      have HP : Hid (Ow (wr.setCell ⟨g, k, none⟩ (.int .u32 (((C : Int) + x * 10) % 4294967296))) base (.slice (some ⟨g, 0, none⟩) xs.length cap) (Z ++ [(C + x * 10) % 4294967296] ++ xs.drop (k + 1)) ∧ Below base w (wr.setCell ⟨g, k, none⟩ (.int .u32 (((C : Int) + x * 10) % 4294967296)))) := hp
      have HT : Hid (xs.take (k + 1) = xs.take k ++ [x]) := take_snoc? hx
      have HLX : Hid ((xs.take k).length = k) := by show _ = _; simp; omega
      clear hp hw hx
      go_wp2
      go_roundw
      case rel =>
        refine ⟨k + 1, (C + x * 10) / 4294967296, Z ++ [(C + x * 10) % 4294967296], by omega, by go_num, by go_num, by omega, by simp [HZ.out], ?_, HP.out.1, HP.out.2⟩
        rw [HT.out, val_snoc (xs.take k), HLX.out]
        exact ten_step HZ.out HV.out
      case measure => simp [intOf]; omega
    · have hk' : k = xs.length := by omega
      subst hk'
      have hw := HW.out
      rw [List.drop_of_length_le (Nat.le_refl _), List.append_nil] at hw
      have hv := HV.out
      rw [List.take_length, HM.out] at hv
      have HW2 : Hid (Ow wr base (.slice ao xs.length cap) Z) := hw
      have HV2 : Hid (val Z + 4294967296 ^ xs.length * C = 10 * m + d) := hv
      clear hw hv HW HV
      by_cases hC0 : C = 0
      · subst hC0
        have hlim : limbs (10 * m + d) = Z := by
          have h1 := HV2.out
          simp at h1
          rw [← h1]
          exact limbs_of_length HW2.out.1 (by rw [HZ.out, HX.out]) (by omega)
        have HF : Hid (limbs (10 * m + d) = Z) := hlim
        clear hlim
        go_wp2
        go_ret
        exact ⟨_, rfl, by rw [HF.out]; exact HW2.out, hbl⟩
      · have hlim : limbs (10 * m + d) = Z ++ [C] := by
          have h1 := HV2.out
          rw [← HZ.out, ← val_snoc] at h1
          rw [← h1]
          refine limbs_val_of_last (Lim.append HW2.out.1 (Lim.cons (by omega) Lim.nil)) ?_
          intro x hx
          simp at hx
          omega
        have HF : Hid (limbs (10 * m + d) = Z ++ [C]) := hlim
        have hsz := hbl.size
        clear hlim
        go_wp2_with (first
          | (at_builtin; refine wpList_append_own _ rfl _ _ 22 rfl base 42 i0 (.int .u32 0) 1 4 under_row hi hz0 hz1 hz2 rfl (by decide) _ Z.length (Z.map U) rfl (World.ownsRow.alloc HW2.out.2 _) ⟨wr.heap.size, 0, none⟩ 1 1 [.int .u32 (C : Int)] rfl rfl ?c1 ?c2 ?c3 ?c4 ?c5 ?_; rotate_right; intro v4 w4 hown4 hgrow4 _))
        case c1 => exact cell_one_new _ _ _
        case c2 => intro u hu; simp at hu; subst hu; rfl
        case c3 => have := HZ.out; unfold maxLen; omega
        case c4 => have := HZ.out; omega
        case c5 => simp; omega
        have ho4 : Ow w4 base v4 (Z ++ [C]) := ⟨Lim.append HW2.out.1 (Lim.cons (by omega) Lim.nil), by simpa [U] using hown4⟩
        have hb4 : Below base w w4 := (hbl.alloc (by omega) _).grown hgrow4 (by simp; omega) HW2.out.block
        clear hown4 hgrow4
        go_wp2
        go_ret
        exact ⟨_, rfl, by rw [HF.out]; exact ho4, hb4⟩

end Go.Proofs.Ytaekpijpkblkgaa
