/- What the document's reading of a text answers. -/
import Derived.Test.YtaekpijpkblkgaaParse
import Derived.Test.YtaekpijpkblkgaaSpoil
namespace Go.Proofs.Ytaekpijpkblkgaa
open Go.RowKit

set_option maxHeartbeats 3000000 in
theorem refParse_rest (s : ByteArray) (w : World) (hs : s.size ≤ maxLen) (hpos : 0 < s.size)
    (hh : (1 < s.size ∧ ((s[0].toNat : Int) == 48) = false) ∨ s.size = 1) :
    Calls Try.prog 27 #[.string s] w fun e w' => ∃ v', e = .returned (.tuple #[v', .int .i64 (parseE s.data.toList)]) ∧ Ow w' w.heap.size v' (parseL s.data.toList) ∧ Below w.heap.size w w' := by
  have hs' := hs
  unfold maxLen at hs'
  obtain ⟨i0, hi, hz0, hz1, hz2⟩ := info_parts info_u32
  have hz : ((s.size : Int) == 0) = false := by rw [beq_eq_false_iff_ne]; omega
  have HG : Hid (s.data.toList.all isDigit = true → numB s.data.toList = true) := by
    intro h
    refine numB_good (by rw [str_len]; exact hpos) ?_ h
    rcases hh with ⟨h1, h48⟩ | h1
    · refine .inr ⟨_, str_get hpos, fun h3 => ?_⟩
      rw [beq_eq_false_iff_ne] at h48
      omega
    · exact .inl (by rw [str_len]; exact h1)
  have HE : Hid (numB s.data.toList = false → parseE s.data.toList = 11 ∧ parseL s.data.toList = []) := by
    intro h
    simp [parseE, parseL, h]
  rcases hh with ⟨h1, h48⟩ | h1
  all_goals
    go_enter Try.func27, Try.ntmps27
    go_wp2
    go_loop [4] (fun i => ∃ k : Nat, k ≤ s.size ∧ i = .int .i64 k ∧ (s.data.toList.take k).all isDigit = true) (fun i => s.size - (intOf i).toNat)
    case atStart => exact ⟨0, Nat.zero_le _, rfl, rfl⟩
    case round =>
      obtain ⟨k, hk, rfl, hall⟩ := hrel
      have HA : Hid ((s.data.toList.take k).all isDigit = true) := hall
      clear hall
      by_cases hlt : k < s.size
      · have hg := str_get hlt
        have HGT : Hid (s.data.toList[k]? = some s[k]) := hg
        clear hg
        by_cases hd1 : s[k].toNat < 48
        · have hbad := HE.out (numB_bad HGT.out (by simp [isDigit]; omega))
          have HB : Hid (parseE s.data.toList = 11 ∧ parseL s.data.toList = []) := hbad
          clear hbad
          go_wp2
          go_ret2
          exact ⟨_, ret2i HB.out.1.symm, by rw [HB.out.2]; exact Ow.nil _ _, Below.refl _ _⟩
        by_cases hd2 : 57 < s[k].toNat
        · have hbad := HE.out (numB_bad HGT.out (by simp [isDigit]; omega))
          have HB : Hid (parseE s.data.toList = 11 ∧ parseL s.data.toList = []) := hbad
          clear hbad
          go_wp2
          go_ret2
          exact ⟨_, ret2i HB.out.1.symm, by rw [HB.out.2]; exact Ow.nil _ _, Below.refl _ _⟩
        go_wp2
        go_round
        case rel => exact ⟨k + 1, by omega, by go_num, all_take_snoc HGT.out HA.out (by simp [isDigit]; omega)⟩
        case measure => simp [intOf]; omega
      · have hn : numB s.data.toList = true := by
          refine HG.out ?_
          have := HA.out
          rw [List.take_of_length_le (by rw [str_len]; omega)] at this
          exact this
        have HN : Hid (numB s.data.toList = true) := hn
        clear hn HA HE HG
        have ho0 : Ow (w.alloc (.cells #[] 42)) w.heap.size (.slice (some ⟨w.heap.size, 0, none⟩) 0 0) (limbs (numV (s.data.toList.take 0))) := by
          rw [show limbs (numV (List.take 0 s.data.toList)) = [] from limbs_zero]
          exact ⟨Lim.nil, World.ownsRow_made w #[] 0 (Nat.le_refl _) (by simp [maxLen]) rfl⟩
        have HO0 : Hid (Ow (w.alloc (.cells #[] 42)) w.heap.size (.slice (some ⟨w.heap.size, 0, none⟩) 0 0) (limbs (numV (s.data.toList.take 0)))) := ho0
        clear ho0
        go_wp2
        go_loopw [5, 6] (fun a i wr => ∃ (k : Nat) (ao : Option Addr) (n c : Nat), k ≤ s.size ∧ i = .int .i64 k ∧ a = .slice ao n c ∧ Ow wr w.heap.size (.slice ao n c) (limbs (numV (s.data.toList.take k))) ∧ (limbs (numV (s.data.toList.take k))).length ≤ 64 ∧ Below w.heap.size w wr) (fun _ i _ => s.size - (intOf i).toNat)
        case atStart => exact ⟨0, _, _, _, Nat.zero_le _, rfl, rfl, HO0.out, by rw [show limbs (numV (List.take 0 s.data.toList)) = [] from limbs_zero]; simp, (Below.refl _ _).alloc (Nat.le_refl _) _⟩
        case round =>
          obtain ⟨k, ao, n, cap, hk, rfl, rfl, how, h64, hbl⟩ := hrel
          clear HO0
          by_cases hlt : k < s.size
          · have hg := str_get hlt
            obtain ⟨hd1, hd2⟩ := digit_of HN.out hg
            have HV : Hid (numV (s.data.toList.take (k + 1)) = 10 * numV (s.data.toList.take k) + (s[k].toNat - 48)) := numV_take_snoc hg
            have hn := how.len
            have hca : cap ≤ 9223372036854775807 := by
              obtain ⟨_, _, he, _, hm, _⟩ := how.sl.flat
              simp only [Value.slice.injEq] at he
              unfold maxLen at hm
              omega
            have HOW : Hid (Ow wr w.heap.size (.slice ao n cap) (limbs (numV (s.data.toList.take k)))) := how
            have HM : Hid (val (limbs (numV (s.data.toList.take k))) = numV (s.data.toList.take k)) := val_limbs _
            have HLL : Hid (Lim (limbs (numV (s.data.toList.take k)))) := limbs_lim _
            clear hg how
            generalize hm : numV (s.data.toList.take k) = m at *
            clear hm
            generalize hX : limbs m = xs at *
            have HX : Hid (limbs m = xs) := hX
            clear hX
            subst hn
            obtain ⟨d, hd⟩ : ∃ d : Nat, (s[k].toNat : Int) - 48 = (d : Int) := ⟨s[k].toNat - 48, by omega⟩
            have hd9 : d ≤ 9 := by omega
            have HD : Hid (s[k].toNat - 48 = d) := by show _ = _; omega
            go_wp2
            clear hd
            go_loopw [7, 8] (fun c i wi => ∃ (j C : Nat) (Z : List Nat), j ≤ xs.length ∧ i = .int .i64 j ∧ c = .int .u64 C ∧ C < 10 ∧ Z.length = j ∧ val Z + 4294967296 ^ j * C = 10 * val (xs.take j) + d ∧
                Ow wi w.heap.size (.slice ao xs.length cap) (Z ++ xs.drop j) ∧ Below w.heap.size w wi) (fun _ i _ => xs.length - (intOf i).toNat)
            case atStart => exact ⟨0, d, [], Nat.zero_le _, rfl, rfl, by omega, rfl, by simp [val], by simpa using HOW.out, hbl⟩
            case round =>
              obtain ⟨j, C, Z, hj, rfl, rfl, hC, hZ, hval, hown, hbi⟩ := hrel
              have HV2 : Hid (val Z + 4294967296 ^ j * C = 10 * val (xs.take j) + d) := hval
              have HZ : Hid (Z.length = j) := hZ
              have HW : Hid (Ow wr w.heap.size (.slice ao xs.length cap) (Z ++ xs.drop j)) := hown
              clear hval hZ hown
              by_cases hjl : j < xs.length
              · obtain ⟨x, hx⟩ := exists_get hjl
                have hx32 : x < 4294967296 := HLL.out.get hx
                have hw := HW.out
                rw [drop_cons? hx] at hw
                rcases hw.shape with ⟨hv, hnil⟩ | ⟨g, cap', hv, hg1, hg2, q1, q2, q3, q4⟩
                · simp at hnil
                simp only [Value.slice.injEq] at hv
                obtain ⟨rfl, q5, rfl⟩ := hv
                clear q1 q2 q3 q4 q5
                obtain ⟨hcell, hfr⟩ := hw.at (k := j) (get_mid HZ.out)
                have hp := hw.put hbi hg1 (by simp [HZ.out]; omega) (k := j) (z := (C + x * 10) % 4294967296) (V := ((C : Int) + 10 * x) % 4294967296) (by omega) (by omega) (ys := Z ++ [(C + x * 10) % 4294967296] ++ xs.drop (j + 1)) (by rw [set_mid _ _ _ _ _ HZ.out]; simp)
                have HP : Hid (Ow (wr.setCell ⟨g, j, none⟩ (.int .u32 (((C : Int) + 10 * x) % 4294967296))) w.heap.size (.slice (some ⟨g, 0, none⟩) xs.length cap) (Z ++ [(C + x * 10) % 4294967296] ++ xs.drop (j + 1)) ∧ Below w.heap.size w (wr.setCell ⟨g, j, none⟩ (.int .u32 (((C : Int) + 10 * x) % 4294967296)))) := hp
                have HT : Hid (xs.take (j + 1) = xs.take j ++ [x]) := take_snoc? hx
                have HLX : Hid ((xs.take j).length = j) := by show _ = _; simp; omega
                clear hp hw hx
                go_wp2
                go_roundw
                case rel =>
                  refine ⟨j + 1, (C + x * 10) / 4294967296, Z ++ [(C + x * 10) % 4294967296], by omega, by go_num, by go_num, by omega, by simp [HZ.out], ?_, HP.out.1, HP.out.2⟩
                  rw [HT.out, val_snoc (xs.take j), HLX.out]
                  exact ten_step HZ.out HV2.out
                case measure => simp [intOf]; omega
              · have hj' : j = xs.length := by omega
                subst hj'
                have hw := HW.out
                rw [List.drop_of_length_le (Nat.le_refl _), List.append_nil] at hw
                have hv := HV2.out
                rw [List.take_length, HM.out] at hv
                have HW2 : Hid (Ow wr w.heap.size (.slice ao xs.length cap) Z) := hw
                have HV3 : Hid (val Z + 4294967296 ^ xs.length * C = 10 * m + d) := hv
                clear hw hv HW HV2
                have fin : Hid (∀ (L : List Nat), limbs (10 * m + d) = L → ¬ L.length ≤ 64 → ¬ (limbs (numV s.data.toList)).length ≤ 64) := by
                  intro L hL h65
                  have := length_limbs_mono (numV_take_le s.data.toList (k + 1))
                  rw [HV.out, HD.out, hL] at this
                  omega
                by_cases hC0 : C = 0
                · subst hC0
                  have hlim : limbs (10 * m + d) = Z := by
                    have h1 := HV3.out
                    simp at h1
                    rw [← h1]
                    exact limbs_of_length HW2.out.1 (by rw [HZ.out, HX.out]) (by omega)
                  have HF : Hid (limbs (10 * m + d) = Z) := hlim
                  have HZ64 : Hid (Z.length ≤ 64) := by show _ ≤ _; rw [HZ.out]; exact h64
                  clear hlim
                  go_wp2
                  go_roundw
                  case rel => exact ⟨k + 1, ao, xs.length, cap, by omega, by go_num, rfl, by rw [HV.out, HD.out, HF.out]; exact HW2.out, by rw [HV.out, HD.out, HF.out]; exact HZ64.out, hbi⟩
                  case measure => simp [intOf]; omega
                · have hlim : limbs (10 * m + d) = Z ++ [C] := by
                    have h1 := HV3.out
                    rw [← HZ.out, ← val_snoc] at h1
                    rw [← h1]
                    refine limbs_val_of_last (Lim.append HW2.out.1 (Lim.cons (by omega) Lim.nil)) ?_
                    intro x hx
                    simp at hx
                    omega
                  have HF : Hid (limbs (10 * m + d) = Z ++ [C]) := hlim
                  have hsz := hbi.size
                  clear hlim
                  by_cases h65 : xs.length + 1 ≤ 64
                  · go_wp2_with (first
                      | (at_builtin; refine wpList_append_own _ rfl _ _ 22 rfl w.heap.size 42 i0 (.int .u32 0) 1 4 under_row hi hz0 hz1 hz2 rfl (by decide) (.slice ao xs.length cap) Z.length (Z.map U) rfl (World.ownsRow.alloc HW2.out.2 _) ⟨wr.heap.size, 0, none⟩ 1 1 [.int .u32 (C : Int)] rfl rfl (cell_one_new _ _ _) (by intro u hu; simp at hu; subst hu; rfl) (by have := HZ.out; unfold maxLen; omega) (by have := HZ.out; omega) (by simp; omega) ?_; intro v4 w4 hown4 hgrow4 _; obtain ⟨g4, cap4, rfl, hg4, hc4, hm4, ⟨u4, hu4⟩, hf4⟩ := own_pos hown4 (M := xs.length) (by rw [HZ.out]); have ho4 : Hid (Ow w4 w.heap.size (.slice (some ⟨g4, 0, none⟩) (xs.length + 1) cap4) (Z ++ [C])) := ⟨Lim.append HW2.out.1 (Lim.cons (by omega) Lim.nil), by simpa [U] using hown4⟩; have hb4 : Below w.heap.size w w4 := (hbi.alloc (by omega) _).grown hgrow4 (by simp; omega) HW2.out.block; clear hown4 hgrow4 hu4 hf4))
                    go_roundw
                    case rel => exact ⟨k + 1, _, _, _, by omega, by go_num, rfl, by rw [HV.out, HD.out, HF.out]; exact ho4.out, by rw [HV.out, HD.out, HF.out, List.length_append, HZ.out]; exact h65, hb4⟩
                    case measure => simp [intOf]; omega
                  · go_wp2_with (first
                      | (at_builtin; refine wpList_append_own _ rfl _ _ 22 rfl w.heap.size 42 i0 (.int .u32 0) 1 4 under_row hi hz0 hz1 hz2 rfl (by decide) (.slice ao xs.length cap) Z.length (Z.map U) rfl (World.ownsRow.alloc HW2.out.2 _) ⟨wr.heap.size, 0, none⟩ 1 1 [.int .u32 (C : Int)] rfl rfl (cell_one_new _ _ _) (by intro u hu; simp at hu; subst hu; rfl) (by have := HZ.out; unfold maxLen; omega) (by have := HZ.out; omega) (by simp; omega) ?_; intro v4 w4 hown4 hgrow4 _; obtain ⟨g4, cap4, rfl, hg4, hc4, hm4, ⟨u4, hu4⟩, hf4⟩ := own_pos hown4 (M := xs.length) (by rw [HZ.out]); have ho4 : Hid (Ow w4 w.heap.size (.slice (some ⟨g4, 0, none⟩) (xs.length + 1) cap4) (Z ++ [C])) := ⟨Lim.append HW2.out.1 (Lim.cons (by omega) Lim.nil), by simpa [U] using hown4⟩; have hb4 : Below w.heap.size w w4 := (hbi.alloc (by omega) _).grown hgrow4 (by simp; omega) HW2.out.block; clear hown4 hgrow4 hu4 hf4))
                    go_ret2
                    have hbig := fin.out (Z ++ [C]) HF.out (by rw [List.length_append, HZ.out]; exact h65)
                    exact ⟨_, ret2i (by rw [parseE, if_pos HN.out, resE, if_neg hbig]), by rw [parseL, if_pos HN.out, resL, if_neg hbig]; exact Ow.nil _ _, hb4⟩
          · have hall : s.data.toList.take k = s.data.toList := List.take_of_length_le (by rw [str_len]; omega)
            rw [hall] at how h64
            have HOW : Hid (Ow wr w.heap.size (.slice ao n cap) (limbs (numV s.data.toList))) := how
            have H64 : Hid ((limbs (numV s.data.toList)).length ≤ 64) := h64
            clear how h64 hall
            go_wp2
            go_ret2
            exact ⟨_, ret2i (by rw [parseE, if_pos HN.out, resE, if_pos H64.out]), by rw [parseL, if_pos HN.out, resL, if_pos H64.out]; exact HOW.out, hbl⟩

set_option maxHeartbeats 400000 in
theorem refParse_any (s : ByteArray) (w : World) (hs : s.size ≤ maxLen) :
    Calls Try.prog 27 #[.string s] w fun e w' => ∃ v', e = .returned (.tuple #[v', .int .i64 (parseE s.data.toList)]) ∧ Ow w' w.heap.size v' (parseL s.data.toList) ∧ Below w.heap.size w w' := by
  have hs' := hs
  unfold maxLen at hs'
  have HE : Hid (numB s.data.toList = false → parseE s.data.toList = 11 ∧ parseL s.data.toList = []) := by
    intro h
    simp [parseE, parseL, h]
  by_cases h0 : s.size = 0
  · have hz : ((s.size : Int) == 0) = true := by rw [beq_iff_eq]; omega
    have hbad := HE.out (by
      unfold numB
      have : s.data.toList.length = 0 := by rw [str_len]; exact h0
      rw [this]; rfl)
    have HB : Hid (parseE s.data.toList = 11 ∧ parseL s.data.toList = []) := hbad
    clear hbad
    go_enter Try.func27, Try.ntmps27
    go_wp2
    go_ret2
    exact ⟨_, ret2i HB.out.1.symm, by rw [HB.out.2]; exact Ow.nil _ _, Below.refl _ _⟩
  have hpos : 0 < s.size := by omega
  by_cases h1 : 1 < s.size ∧ s[0].toNat = 48
  · have hz : ((s.size : Int) == 0) = false := by rw [beq_eq_false_iff_ne]; omega
    have h48 : ((s[0].toNat : Int) == 48) = true := by rw [beq_iff_eq]; omega
    have hbad := HE.out (numB_head (by rw [str_len]; exact h1.1) (str_get hpos) h1.2)
    have HB : Hid (parseE s.data.toList = 11 ∧ parseL s.data.toList = []) := hbad
    have h1' := h1.1
    clear h1 hbad
    go_enter Try.func27, Try.ntmps27
    go_wp2
    go_ret2
    exact ⟨_, ret2i HB.out.1.symm, by rw [HB.out.2]; exact Ow.nil _ _, Below.refl _ _⟩
  refine refParse_rest s w hs hpos ?_
  by_cases h2 : s.size = 1
  · exact .inr h2
  · refine .inl ⟨by omega, ?_⟩
    rw [beq_eq_false_iff_ne]
    intro h3
    exact h1 ⟨by omega, by omega⟩

end Go.Proofs.Ytaekpijpkblkgaa
