/- What Right, trimmed (trim) and inBounds (told) answer, of the program's and of the document's. -/
import Derived.Test.YtfifgmcjilkigaaBase
namespace Go.Proofs.Ytfifgmcjilkigaa
open Go.RowKit

theorem rightB_pos {xs : List Nat} {x : Nat} (h64 : xs.length ≤ 64) (h0 : ¬ xs.length = 0) (hl : xs[xs.length - 1]? = some x) : rightB xs = !((x : Int) == 0) := by
  unfold rightB
  rw [getLast_some hl]
  have : (xs.length == 0) = false := by simpa using h0
  rw [this]
  simp only [h64, decide_true, Bool.true_and, Bool.false_or]
  congr 1
  rw [Bool.eq_iff_iff]; simp

set_option maxHeartbeats 400000 in
theorem right_any (v : Value) (xs : List Nat) (w : World) (h : Sl w v xs) :
    Calls Try.prog 51 #[v] w fun e w' => e = .returned (.bool (rightB xs)) ∧ w' = w := by
  obtain ⟨ao, cap, rfl, hc, hm, hx⟩ := h.flat
  unfold maxLen at hm
  clear h
  by_cases h64 : xs.length ≤ 64
  · by_cases h0 : xs.length = 0
    · clear hx
      go_enter Try.func51, Try.ntmps51
      go_wp2
      go_ret
      exact ⟨by simp [rightB, h0], rfl⟩
    · obtain ⟨g, off, x, rfl, hxl, hx32, hcell⟩ := hx (xs.length - 1) (by omega)
      have hpos : 0 < xs.length := by omega
      have hb0 : ((xs.length : Int) == 0) = false := by rw [beq_eq_false_iff_ne]; omega
      have HE : Hid (rightB xs = !((x : Int) == 0)) := rightB_pos h64 h0 hxl
      clear hxl hx
      go_enter Try.func51, Try.ntmps51
      go_wp2
      go_ret
      exact ⟨by rw [HE.out]; rfl, rfl⟩
  · clear hx
    go_enter Try.func51, Try.ntmps51
    go_wp2
    go_ret
    exact ⟨by simp [rightB, h64], rfl⟩

set_option maxHeartbeats 400000 in
theorem refRight_any (v : Value) (xs : List Nat) (w : World) (h : Sl w v xs) :
    Calls Try.prog 55 #[v] w fun e w' => e = .returned (.bool (rightB xs)) ∧ w' = w := by
  obtain ⟨ao, cap, rfl, hc, hm, hx⟩ := h.flat
  unfold maxLen at hm
  clear h
  by_cases h64 : xs.length ≤ 64
  · by_cases h0 : xs.length = 0
    · clear hx
      go_enter Try.func55, Try.ntmps55
      go_wp2
      go_ret
      exact ⟨by simp [rightB, h0], rfl⟩
    · obtain ⟨g, off, x, rfl, hxl, hx32, hcell⟩ := hx (xs.length - 1) (by omega)
      have hpos : 0 < xs.length := by omega
      have hb0 : ((xs.length : Int) == 0) = false := by rw [beq_eq_false_iff_ne]; omega
      have HE : Hid (rightB xs = !((x : Int) == 0)) := rightB_pos h64 h0 hxl
      clear hxl hx
      go_enter Try.func55, Try.ntmps55
      go_wp2
      go_ret
      exact ⟨by rw [HE.out]; rfl, rfl⟩
  · clear hx
    go_enter Try.func55, Try.ntmps55
    go_wp2
    go_ret
    exact ⟨by simp [rightB, h64], rfl⟩

set_option maxHeartbeats 400000 in
theorem trimmed_any (v : Value) (xs : List Nat) (w : World) (base : Nat) (h : Ow w base v xs) :
    Calls Try.prog 80 #[v] w fun e w' => ∃ v', e = .returned v' ∧ Ow w base v' (limbs (val xs)) ∧ v'.ownBlock = v.ownBlock ∧ w' = w := by
  rcases h.shape with ⟨rfl, rfl⟩ | ⟨g, cap, rfl, hb, hg, hc, hm, hx, _⟩
  · go_enter Try.func80, Try.ntmps80
    go_wp2
    refine wp_loop_rounds 1 ?_
    rw [rounds_succ]
    go_wp2
    go_ret
    exact ⟨_, rfl, by rw [show limbs (val []) = [] from limbs_zero]; exact Ow.nil _ _, rfl, rfl⟩
  · unfold maxLen at hm
    have HO : Hid (Ow w base (.slice (some ⟨g, 0, none⟩) xs.length cap) xs) := h
    have HX : Hid (∀ (k x : Nat), xs[k]? = some x → w.cell? ⟨g, k, none⟩ = some (.int .u32 (x : Int))) := hx
    clear h hx
    go_enter Try.func80, Try.ntmps80
    go_wp2
    go_loop [3] (fun n => ∃ k : Nat, k ≤ xs.length ∧ n = .int .i64 k ∧ val (xs.take k) = val xs) (fun n => (intOf n).toNat)
    case atStart => exact ⟨xs.length, Nat.le_refl _, rfl, by rw [List.take_length]⟩
    case round =>
      obtain ⟨k, hk, rfl, hv⟩ := hrel
      have HV : Hid (val (xs.take k) = val xs) := hv
      clear hv
      by_cases h0 : 0 < k
      · obtain ⟨x, hxk⟩ := exists_get (xs := xs) (k := k - 1) (by omega)
        have hcell := HX.out _ _ hxk
        have HK : Hid (xs[k - 1]? = some x) := hxk
        clear hxk
        by_cases hx0 : x = 0
        · subst hx0
          go_wp2
          go_round
          case rel => exact ⟨k - 1, by omega, by go_num, by rw [trim_step h0 hk HK.out]; exact HV.out⟩
          case measure => simp [intOf]; omega
        · have hne : ((x : Int) == 0) = false := by rw [beq_eq_false_iff_ne]; omega
          go_wp2
          go_ret
          exact ⟨_, rfl, by rw [trim_done HO.out.1 HV.out hk (.inr ⟨x, HK.out, hx0⟩)]; exact HO.out.cut hk, rfl, rfl⟩
      · have hk0 : k = 0 := by omega
        subst hk0
        go_wp2
        go_ret
        exact ⟨_, rfl, by rw [trim_done HO.out.1 HV.out hk (.inl rfl)]; exact HO.out.cut hk, rfl, rfl⟩

set_option maxHeartbeats 400000 in
theorem refTrim_any (v : Value) (xs : List Nat) (w : World) (base : Nat) (h : Ow w base v xs) :
    Calls Try.prog 81 #[v] w fun e w' => ∃ v', e = .returned v' ∧ Ow w base v' (limbs (val xs)) ∧ v'.ownBlock = v.ownBlock ∧ w' = w := by
  rcases h.shape with ⟨rfl, rfl⟩ | ⟨g, cap, rfl, hb, hg, hc, hm, hx, _⟩
  · go_enter Try.func81, Try.ntmps81
    go_wp2
    refine wp_loop_rounds 1 ?_
    rw [rounds_succ]
    go_wp2
    go_ret
    exact ⟨_, rfl, by rw [show limbs (val []) = [] from limbs_zero]; exact Ow.nil _ _, rfl, rfl⟩
  · unfold maxLen at hm
    have HO : Hid (Ow w base (.slice (some ⟨g, 0, none⟩) xs.length cap) xs) := h
    have HX : Hid (∀ (k x : Nat), xs[k]? = some x → w.cell? ⟨g, k, none⟩ = some (.int .u32 (x : Int))) := hx
    clear h hx
    go_enter Try.func81, Try.ntmps81
    go_wp2
    go_loop [0] (fun n => ∃ k : Nat, k ≤ xs.length ∧ n = .slice (some ⟨g, 0, none⟩) k cap ∧ val (xs.take k) = val xs) (fun n => lenOfV n)
    case atStart => exact ⟨xs.length, Nat.le_refl _, rfl, by rw [List.take_length]⟩
    case round =>
      obtain ⟨k, hk, rfl, hv⟩ := hrel
      have HV : Hid (val (xs.take k) = val xs) := hv
      clear hv
      by_cases h0 : 0 < k
      · obtain ⟨x, hxk⟩ := exists_get (xs := xs) (k := k - 1) (by omega)
        have hcell := HX.out _ _ hxk
        have HK : Hid (xs[k - 1]? = some x) := hxk
        clear hxk
        by_cases hx0 : x = 0
        · subst hx0
          go_wp2
          go_round
          case rel => exact ⟨k - 1, by omega, rfl, by rw [trim_step h0 hk HK.out]; exact HV.out⟩
          case measure => simp [lenOfV]; omega
        · have hne : ((x : Int) == 0) = false := by rw [beq_eq_false_iff_ne]; omega
          go_wp2
          go_ret
          exact ⟨_, rfl, by rw [trim_done HO.out.1 HV.out hk (.inr ⟨x, HK.out, hx0⟩)]; exact HO.out.cut hk, rfl, rfl⟩
      · have hk0 : k = 0 := by omega
        subst hk0
        go_wp2
        go_ret
        exact ⟨_, rfl, by rw [trim_done HO.out.1 HV.out hk (.inl rfl)]; exact HO.out.cut hk, rfl, rfl⟩

set_option maxHeartbeats 400000 in
theorem inBounds_any (v : Value) (xs : List Nat) (w : World) (base : Nat) (h : Ow w base v xs) :
    Calls Try.prog 71 #[v] w fun e w' => ∃ v', e = .returned (.tuple #[v', .int .i64 (resE (val xs))]) ∧ Ow w base v' (resL (val xs)) ∧ w' = w := by
  go_enter Try.func71, Try.ntmps71
  go_wp2_with fail
  refine (trimmed_any v xs _ base h).mono ?_
  rintro e w' ⟨v', rfl, ho, _, rfl⟩
  rcases ho.shape with ⟨rfl, hn⟩ | ⟨g, cap, rfl, hb, hg, hc, hm, hx, _⟩
  · have HN : Hid (limbs (val xs) = []) := hn
    clear hn
    go_wp2
    go_ret2
    exact ⟨_, ret2i (by simp [resE, HN.out]), by simp [resL, HN.out]; exact Ow.nil _ _, rfl⟩
  · unfold maxLen at hm
    clear hx
    have HO : Hid (Ow w' base (.slice (some ⟨g, 0, none⟩) (limbs (val xs)).length cap) (limbs (val xs))) := ho
    clear ho
    by_cases h64 : (limbs (val xs)).length ≤ 64
    · go_wp2
      go_ret2
      exact ⟨_, ret2i (by simp [resE, h64]), by rw [resL, if_pos h64]; exact HO.out, rfl⟩
    · go_wp2
      go_ret2
      exact ⟨_, ret2i (by simp [resE, h64]), by rw [resL, if_neg h64]; exact Ow.nil _ _, rfl⟩

set_option maxHeartbeats 400000 in
theorem told_any (v : Value) (xs : List Nat) (w : World) (base : Nat) (h : Ow w base v xs) :
    Calls Try.prog 74 #[v] w fun e w' => ∃ v', e = .returned (.tuple #[v', .int .i64 (resE (val xs))]) ∧ Ow w base v' (resL (val xs)) ∧ w' = w := by
  go_enter Try.func74, Try.ntmps74
  go_wp2_with fail
  refine (refTrim_any v xs _ base h).mono ?_
  rintro e w' ⟨v', rfl, ho, _, rfl⟩
  rcases ho.shape with ⟨rfl, hn⟩ | ⟨g, cap, rfl, hb, hg, hc, hm, hx, _⟩
  · have HN : Hid (limbs (val xs) = []) := hn
    clear hn
    go_wp2
    go_ret2
    exact ⟨_, ret2i (by simp [resE, HN.out]), by simp [resL, HN.out]; exact Ow.nil _ _, rfl⟩
  · unfold maxLen at hm
    clear hx
    have HO : Hid (Ow w' base (.slice (some ⟨g, 0, none⟩) (limbs (val xs)).length cap) (limbs (val xs))) := ho
    clear ho
    by_cases h64 : (limbs (val xs)).length ≤ 64
    · go_wp2
      go_ret2
      exact ⟨_, ret2i (by simp [resE, h64]), by rw [resL, if_pos h64]; exact HO.out, rfl⟩
    · go_wp2
      go_ret2
      exact ⟨_, ret2i (by simp [resE, h64]), by rw [resL, if_neg h64]; exact Ow.nil _ _, rfl⟩

end Go.Proofs.Ytfifgmcjilkigaa
