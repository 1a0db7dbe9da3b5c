/- What Check answers: bounds, Check, checkAll. -/
import Derived.Test.YtfifgmcjilkigaaPCheckB
namespace Go.Proofs.Ytfifgmcjilkigaa
open Go.RowKit

theorem boundsB_no {p : List Mn} {k : Nat} {m : Mn} (hk : p[k]? = some m) (h : smallB m = false) : boundsB p = false := by
  have : p.all smallB = false := by rw [List.all_eq_false]; exact ⟨m, List.mem_of_getElem? hk, by simp [h]⟩
  simp [boundsB, this]

theorem smallB_no {c : List Nat} {es : List Int} {k : Nat} {x : Int} (hk : es[k]? = some x) (h : 64 < x) : smallB (c, es) = false := by
  have : es.all (fun n => decide (n ≤ 64)) = false := by rw [List.all_eq_false]; exact ⟨x, List.mem_of_getElem? hk, by simp; omega⟩
  simp [smallB, this]

theorem smallB_yes {c : List Nat} {es : List Int} (h0 : es.length ≤ 512) (h : ∀ (k : Nat) (x : Int), es[k]? = some x → x ≤ 64) : smallB (c, es) = true := by
  have : es.all (fun n => decide (n ≤ 64)) = true := by
    rw [List.all_eq_true]
    intro x hx
    obtain ⟨k, hk⟩ := List.mem_iff_getElem?.1 hx
    simpa using h k x hk
  simp [smallB, this, h0]

theorem boundsB_yes {p : List Mn} (h0 : p.length ≤ 256) (h : ∀ (k : Nat) (m : Mn), p[k]? = some m → smallB m = true) : boundsB p = true := by
  have : p.all smallB = true := by
    rw [List.all_eq_true]
    intro x hx
    obtain ⟨k, hk⟩ := List.mem_iff_getElem?.1 hx
    exact h k x hk
  simp [boundsB, this, h0]

set_option maxRecDepth 100000 in
set_option maxHeartbeats 1600000 in
theorem inBounds2_any (v : Value) (p : List Mn) (w : World) (h : Ms w v p) :
    Calls Try.prog 32 #[v] w fun e w' => e = .returned (.bool (boundsB p)) ∧ Below w.heap.size w w' := by
  obtain ⟨ao, cap, rfl, hao, hca, q0⟩ := h.flat
  unfold maxLen at hca
  have HM : Hid (Ms w (.slice ao p.length cap) p) := h
  clear h q0
  by_cases h256 : p.length ≤ 256
  · go_enter Try.func32, Try.ntmps32
    go_wp2
    go_loopw [12] (fun i wr => ∃ k : Nat, k ≤ p.length ∧ i = .int .i64 k ∧ (∀ (j : Nat) (m : Mn), j < k → p[j]? = some m → smallB m = true) ∧ Below w.heap.size w wr) (fun i _ => p.length - (intOf i).toNat)
    case atStart => exact ⟨0, by omega, rfl, fun j m hj => absurd hj (by omega), Below.refl _ _⟩
    case round =>
      obtain ⟨k, hk, rfl, hp, hbl⟩ := hrel
      have HP : Hid (∀ (j : Nat) (m : Mn), j < k → p[j]? = some m → smallB m = true) := hp
      clear hp
      by_cases hlt : k < p.length
      · have HMr : Hid (Ms wr (.slice ao p.length cap) p) := HM.out.kp (Kp.of_below hbl)
        obtain ⟨g, off, c, es, a1, c1, a2, c2, rfl, hm1, hc0, hc1, hmo, hl1, hl2, hl3, hl4⟩ := HMr.out.at hlt
        have HX : Hid (p[k]? = some (c, es)) := hm1
        have hB := below_alloc (w := wr) (.cells #[.slice a1 c.length c1, .slice a2 es.length c2] 46)
        have HB : Hid (Below w.heap.size w (wr.alloc (.cells #[.slice a1 c.length c1, .slice a2 es.length c2] 46))) := below_step hbl hB
        have hi := hmo.2.kp (Kp.of_below hB)
        clear hm1 hmo hB hbl
        by_cases h512 : es.length ≤ 512
        · go_wp2
          obtain ⟨wb, hwb⟩ : ∃ wb, wb = wr.alloc (.cells #[.slice a1 c.length c1, .slice a2 es.length c2] 46) := ⟨_, rfl⟩
          rw [← hwb] at HB hi ⊢
          obtain ⟨_, _, hq, _, _, hcl⟩ := Row.flat hi
          simp only [Value.slice.injEq, true_and] at hq
          obtain ⟨rfl, rfl⟩ := hq
          clear hwb hi hc0 hc1
          go_loopw [23] (fun i ws => ∃ l : Nat, l ≤ es.length ∧ i = .int .i64 l ∧ (∀ (j : Nat) (x : Int), j < l → es[j]? = some x → x ≤ 64) ∧ ws = wb) (fun i _ => es.length - (intOf i).toNat)
          case atStart => exact ⟨0, by omega, rfl, fun j x hj => absurd hj (by omega), rfl⟩
          case round =>
            obtain ⟨l, hl, rfl, hq, hw⟩ := hrel
            subst hw
            have HQ : Hid (∀ (j : Nat) (x : Int), j < l → es[j]? = some x → x ≤ 64) := hq
            clear hq
            by_cases hll : l < es.length
            · obtain ⟨g', off', x, rfl, hx1, hx2, hx3, hx4⟩ := hcl l hll
              have HXX : Hid (es[l]? = some x) := hx1
              rw [Nat.mul_one] at hx4
              clear hx1 hcl
              by_cases hx : x ≤ 64
              · go_wp2
                go_roundw
                case rel =>
                  refine ⟨l + 1, by omega, by go_num, fun j y hj hy => ?_, trivial⟩
                  by_cases hjk : j = l
                  · subst hjk; rw [HXX.out] at hy; cases hy; exact hx
                  · exact HQ.out j y (by omega) hy
                case measure => simp [intOf]; omega
              · have HF : Hid (boundsB p = false) := boundsB_no HX.out (smallB_no HXX.out (by omega))
                go_wp2
                go_ret
                exact ⟨ret1b HF.out.symm, HB.out⟩
            · have hle : l = es.length := by omega
              subst hle
              have HS : Hid (smallB (c, es) = true) := smallB_yes h512 (fun j x hx => HQ.out j x (List.getElem?_eq_some_iff.1 hx).1 hx)
              clear hcl
              go_wp2
              go_roundw
              case rel =>
                refine ⟨k + 1, by omega, by go_num, fun j m hj hm => ?_, HB.out⟩
                by_cases hjk : j = k
                · subst hjk; rw [HX.out] at hm; cases hm; exact HS.out
                · exact HP.out j m (by omega) hm
              case measure => simp [intOf]; omega
        · have HF : Hid (boundsB p = false) := boundsB_no HX.out (by simp [smallB, h512])
          go_wp2
          go_ret
          exact ⟨ret1b HF.out.symm, HB.out⟩
      · have hke : k = p.length := by omega
        subst hke
        have HF : Hid (boundsB p = true) := boundsB_yes h256 (fun j m hm => HP.out j m (List.getElem?_eq_some_iff.1 hm).1 hm)
        go_wp2
        go_ret
        exact ⟨ret1b HF.out.symm, hbl⟩
  · go_enter Try.func32, Try.ntmps32
    go_wp2
    go_ret
    exact ⟨ret1b (by simp [boundsB, h256]), Below.refl _ _⟩

set_option maxRecDepth 100000 in
theorem check_any (v : Value) (p : List Mn) (vars : Int) (w : World) (h : Ms w v p) (hv1 : -9223372036854775808 ≤ vars) (hv2 : vars ≤ 9223372036854775807) :
    Calls Try.prog 11 #[v, .int .i64 vars] w fun e w' => e = .returned (.int .i64 (checkE p vars)) ∧ Below w.heap.size w w' := by
  by_cases h0 : vars < 0
  · go_enter Try.func11, Try.ntmps11
    go_wp2
    go_ret
    exact ⟨ret1i (by simp [checkE, h0]), Below.refl _ _⟩
  have h0' : 0 ≤ vars := by omega
  go_enter Try.func11, Try.ntmps11
  go_wp2_with fail
  refine (isPolynomial_any v p vars _ h h0' hv2).mono ?_
  rintro e w1 ⟨rfl, hb1⟩
  cases hp : polyB p vars
  · have HP : Hid (polyB p vars = false) := hp
    clear hp
    go_wp2
    go_ret
    exact ⟨ret1i (by simp [checkE, h0, HP.out]), hb1⟩
  have HP : Hid (polyB p vars = true) := hp
  have H1 : Hid (Below w.heap.size w w1) := hb1
  have h1 := h.kp (Kp.of_below hb1)
  clear hp hb1 h
  go_wp2_with fail
  refine (inBounds2_any v p _ h1).mono ?_
  rintro e w2 ⟨rfl, hb2⟩
  have H2 : Hid (Below w.heap.size w w2) := below_step H1.out hb2
  clear hb2
  cases hq : boundsB p
  · have HQ : Hid (boundsB p = false) := hq
    clear hq
    go_wp2
    go_ret
    exact ⟨ret1i (by simp [checkE, h0, HP.out, HQ.out]), H2.out⟩
  have HQ : Hid (boundsB p = true) := hq
  clear hq
  go_wp2
  go_ret
  exact ⟨ret1i (by simp [checkE, h0, HP.out, HQ.out]), H2.out⟩

theorem checkAllE_take {ps : List (List Mn)} : ∀ k, (∀ (j : Nat) (p : List Mn), j < k → ps[j]? = some p → checkE p 9223372036854775807 = 0) → checkAllE ps = checkAllE (ps.drop k) := by
  induction ps with
  | nil => intro k _; simp
  | cons q r ih =>
    intro k h
    cases k with
    | zero => rfl
    | succ k =>
      rw [List.drop_succ_cons, checkAllE, if_pos (h 0 q (by omega) rfl)]
      exact ih k (fun j p hj hp => h (j + 1) p (by omega) hp)

set_option maxRecDepth 100000 in
set_option maxHeartbeats 800000 in
theorem checkAll_any (v : Value) (ps : List (List Mn)) (w : World) (h : Ps w v ps) :
    Calls Try.prog 36 #[v] w fun e w' => e = .returned (.int .i64 (checkAllE ps)) ∧ Below w.heap.size w w' := by
  obtain ⟨ao, cap, rfl, hao, hca, q0⟩ := Row.flat h
  unfold maxLen at hca
  have HM : Hid (Ps w (.slice ao ps.length cap) ps) := h
  clear h q0
  go_enter Try.func36, Try.ntmps36
  go_wp2
  go_loopw [8] (fun i wr => ∃ k : Nat, k ≤ ps.length ∧ i = .int .i64 k ∧ (∀ (j : Nat) (p : List Mn), j < k → ps[j]? = some p → checkE p 9223372036854775807 = 0) ∧ Below w.heap.size w wr) (fun i _ => ps.length - (intOf i).toNat)
  case atStart => exact ⟨0, by omega, rfl, fun j p hj => absurd hj (by omega), Below.refl _ _⟩
  case round =>
    obtain ⟨k, hk, rfl, hp, hbl⟩ := hrel
    have HP : Hid (∀ (j : Nat) (p : List Mn), j < k → ps[j]? = some p → checkE p 9223372036854775807 = 0) := hp
    clear hp
    by_cases hlt : k < ps.length
    · obtain ⟨g, off, p, a1, c1, rfl, hm1, hc0, hmo, hl1, hl2⟩ := (HM.out.kp (Kp.of_below hbl)).at hlt
      have HX : Hid (ps[k]? = some p) := hm1
      clear hm1
      go_wp2_with fail
      refine (check_any _ p 9223372036854775807 _ hmo (by omega) (by omega)).mono ?_
      rintro e w1 ⟨rfl, hb1⟩
      have HB : Hid (Below w.heap.size w w1) := below_step hbl hb1
      clear hb1 hbl hmo hc0
      obtain ⟨E, hE⟩ : ∃ E, E = checkE p 9223372036854775807 := ⟨_, rfl⟩
      have HE : Hid (E = checkE p 9223372036854775807) := hE
      rw [← hE]
      clear hE
      by_cases h0 : E = 0
      · subst h0
        go_wp2
        go_roundw
        case rel =>
          refine ⟨k + 1, by omega, by go_num, fun j q hj hq => ?_, HB.out⟩
          by_cases hjk : j = k
          · subst hjk; rw [HX.out] at hq; cases hq; exact HE.out.symm
          · exact HP.out j q (by omega) hq
        case measure => simp [intOf]; omega
      · have hb0 : (E != 0) = true := by rw [bne_iff_ne]; exact h0
        have HF : Hid (checkAllE ps = E) := by
          show checkAllE ps = E
          rw [checkAllE_take k HP.out, drop_get HX.out, checkAllE, ← HE.out, if_neg h0]
        go_wp2
        go_ret
        exact ⟨ret1i HF.out.symm, HB.out⟩
    · have hke : k = ps.length := by omega
      subst hke
      have HF : Hid (checkAllE ps = 0) := by
        show checkAllE ps = 0
        rw [checkAllE_take ps.length HP.out, List.drop_of_length_le (Nat.le_refl _)]; rfl
      go_wp2
      go_ret
      exact ⟨ret1i HF.out.symm, hbl⟩

end Go.Proofs.Ytfifgmcjilkigaa
