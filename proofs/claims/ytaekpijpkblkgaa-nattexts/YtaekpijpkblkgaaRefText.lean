/- What the document's writing of a natural answers. -/
import Derived.Test.YtaekpijpkblkgaaText
namespace Go.Proofs.Ytaekpijpkblkgaa
open Go.RowKit

/-- A string value's length. -/
def strLen : Value → Nat
  | .string s => s.size
  | _ => 0

theorem cat_front (c : UInt8) (S : List UInt8) : ByteArray.mk #[c] ++ ByteArray.mk S.toArray = ByteArray.mk (c :: S).toArray := by
  apply ByteArray.ext
  simp

set_option maxHeartbeats 1600000 in
theorem refText_pos (v : Value) (xs : List Nat) (w : World) (h : Sl w v xs) (hr : rightB xs = true) (h0 : ¬ xs.length = 0) :
    Calls Try.prog 25 #[v] w fun e w' => e = .returned (.tuple #[.string ⟨(dec (val xs)).toArray⟩, .int .i64 0]) ∧ Below w.heap.size w w' := by
  obtain ⟨hl, ao, cap, rfl, hao, hca, hcl⟩ := id h
  obtain ⟨ga, offa, rfl, hga, hcl⟩ := hcl (by omega)
  unfold maxLen at hca
  obtain ⟨i0, hi, hz0, hz1, hz2⟩ := info_parts info_u32
  have h64 := length_le_of_right hr
  have HL : Hid (limbs (val xs) = xs) := limbs_val_of_right h.1 hr
  have HT : Hid ((tens (val xs)).length ≤ 640) := by have := tens_length_limbs h.1; show _ ≤ _; omega
  have HC : Hid (∀ (k x : Nat), xs[k]? = some x → w.cell? ⟨ga, offa + k, none⟩ = some (.int .u32 (x : Int))) := hcl
  have hb0 : ((xs.length : Int) == 0) = false := by rw [beq_eq_false_iff_ne]; omega
  clear hcl
  go_enter Try.func25, Try.ntmps25
  go_wp2_with fail
  refine (refRight_any _ xs _ h).mono ?_
  rintro e w1 ⟨rfl, hw1⟩
  subst hw1
  rw [hr]
  clear h hr
  go_wp2_with (first
    | (at_builtin; refine wpList_append_own _ rfl _ _ 22 rfl w1.heap.size 42 i0 (.int .u32 0) 1 4 under_row hi hz0 hz1 hz2 rfl (by decide) (.slice (some ⟨w1.heap.size, 0, none⟩) 0 0) 0 [] rfl ?c0 ⟨ga, offa, none⟩ xs.length cap (xs.map U) rfl (by simp) ?c1 (U_one xs) ?c3 ?c4 ?c5 ?_; rotate_right; intro v4 w4 hown4 hgrow4 _))
  case c0 => exact World.ownsRow_made w1 #[] 0 (Nat.le_refl _) (by simp [maxLen]) rfl
  case c1 =>
    intro j u hj
    simp only [List.getElem?_map, Option.map_eq_some_iff] at hj
    obtain ⟨x, hx1, rfl⟩ := hj
    rw [Addr.add_lit, World.cell?_alloc_past (hn := hga)]
    exact HC.out j x hx1
  case c3 => unfold maxLen; omega
  case c4 => omega
  case c5 => simp
  have ho4 : Ow w4 w1.heap.size v4 (limbs (val xs)) := by
    rw [HL.out]
    exact ⟨hl, by simpa using hown4⟩
  have hbl4 : Below w1.heap.size w1 w4 := ((Below.refl _ _).alloc (Nat.le_refl _) _).grown hgrow4 (by simp) (by intro k hk; simp [Value.ownBlock] at hk; omega)
  have HO : Hid (Ow w4 w1.heap.size v4 (limbs (val xs))) := ho4
  clear hown4 hgrow4 ho4
  go_loopw [4, 5] (fun r d wr => ∃ (m : Nat) (D : List Nat) (ao : Option Addr) (n c : Nat), r = .slice ao n c ∧ Ow wr w1.heap.size (.slice ao n c) (limbs m) ∧ d = .string ⟨(D.map letter).reverse.toArray⟩ ∧ tens (val xs) = D ++ tens m ∧ Below w1.heap.size w1 wr)
    (fun _ d _ => (tens (val xs)).length - strLen d)
  case atStart =>
    obtain ⟨a5, c5, rfl, _⟩ := HO.out.sl.flat
    exact ⟨val xs, [], _, _, _, rfl, HO.out, rfl, rfl, hbl4⟩
  case round =>
    obtain ⟨m, D, a1, n1, c1, rfl, how, rfl, htens, hbl⟩ := hrel
    have HD : Hid (tens (val xs) = D ++ tens m) := htens
    clear HO hbl4 htens
    have hn1 := how.len
    by_cases hm : m = 0
    · subst hm
      rw [limbs_zero] at how hn1
      simp only [List.length_nil] at hn1
      subst hn1
      have hD : tens (val xs) = D := by rw [HD.out, tens_zero, List.append_nil]
      have hv0 : val xs ≠ 0 := by
        intro hv
        have := HL.out
        rw [hv, limbs_zero] at this
        rw [← this] at h0
        simp at h0
      have hdec : dec (val xs) = (D.map letter).reverse := by unfold dec; rw [if_neg hv0, hD, List.map_reverse]
      have HDEC : Hid (dec (val xs) = (D.map letter).reverse) := hdec
      clear how hD hv0 hdec HL HD HT
      go_wp2
      go_ret2
      exact ⟨by rw [HDEC.out]; rfl, hbl⟩
    · have hpos := limbs_length_pos hm
      subst hn1
      rcases how.shape with ⟨_, hnil⟩ | ⟨g, cp, hv, hg1, hg2, hg3, hg4, q1, q2⟩
      · rw [hnil] at hpos; simp at hpos
      simp only [Value.slice.injEq] at hv
      obtain ⟨rfl, _, rfl⟩ := hv
      unfold maxLen at hg4
      have HOW : Hid (Ow wr w1.heap.size (.slice (some ⟨g, 0, none⟩) (limbs m).length c1) (limbs m)) := how
      have HDL : Hid (D.length + 1 ≤ 640) := by
        have h1 := HT.out
        rw [HD.out, tens_pos hm, List.length_append] at h1
        simp at h1
        show _ ≤ _
        omega
      have HTL : Hid (D.length + 1 ≤ (tens (val xs)).length) := by
        show _ ≤ _
        rw [HD.out, tens_pos hm, List.length_append]
        simp
      have HVM : Hid (val (limbs m) = m) := val_limbs m
      have HLM : Hid (Lim (limbs m)) := limbs_lim m
      clear how q1 q2
      generalize hys : limbs m = ys at *
      clear hys
      go_wp2
      go_loopw [6, 7] (fun o i wi => ∃ (k R : Nat) (Q : List Nat), k ≤ ys.length ∧ i = .int .i64 ((k : Int) - 1) ∧ o = .int .u64 R ∧ R < 10 ∧ Q.length + k = ys.length ∧ val (ys.drop k) = 10 * val Q + R ∧
          Ow wi w1.heap.size (.slice (some ⟨g, 0, none⟩) ys.length c1) (ys.take k ++ Q) ∧ Below w1.heap.size w1 wi) (fun _ i _ => (intOf i + 1).toNat)
      case atStart => exact ⟨ys.length, 0, [], Nat.le_refl _, rfl, rfl, by omega, by simp, by simp [val], by simpa using HOW.out, hbl⟩
      case round =>
        obtain ⟨k, R, Q, hk, rfl, rfl, hR, hQ, hval, hown, hbi⟩ := hrel
        have HV : Hid (val (ys.drop k) = 10 * val Q + R) := hval
        have HQ : Hid (Q.length + k = ys.length) := hQ
        have HW : Hid (Ow wr w1.heap.size (.slice (some ⟨g, 0, none⟩) ys.length c1) (ys.take k ++ Q)) := hown
        clear hval hQ hown
        by_cases hk0 : k = 0
        · subst hk0
          have hvq : val Q = m / 10 ∧ R = m % 10 := by
            have hv := HV.out
            rw [List.drop_zero, HVM.out] at hv
            omega
          have how2 : Ow wr w1.heap.size (.slice (some ⟨g, 0, none⟩) ys.length c1) Q := by
            have := HW.out
            rw [List.take_zero, List.nil_append] at this
            exact this
          have HR : Hid (R = m % 10) := hvq.2
          have HVQ : Hid (val Q = m / 10) := hvq.1
          have HOW2 : Hid (Ow wr w1.heap.size (.slice (some ⟨g, 0, none⟩) ys.length c1) Q) := how2
          have hlen : (D.map letter).reverse.length ≤ 640 := by have := HDL.out; simp; omega
          have hconv := conv_one wr R (by omega)
          have HSL : Hid ((D.map letter).reverse.length = D.length) := by show _ = _; simp
          clear hvq how2 HW HV HQ
          generalize hS : (D.map letter).reverse = S at *
          have HS : Hid ((D.map letter).reverse = S) := hS
          clear hS
          go_wp2_with fail
          refine (refTrim_any _ Q _ _ (HOW2.out.kept (World.grownBy_alloc wr _ none) (.inr (by simp [Value.ownBlock])))).mono ?_
          rintro e w5 ⟨v5, rfl, ho5, _, hw5⟩
          rw [HVQ.out] at ho5
          have hb5 : Below w1.heap.size w1 w5 := by rw [hw5]; exact hbi.alloc hbi.size _
          have ho6 : Ow w5 w1.heap.size v5 (limbs (m / 10)) := by rw [hw5]; exact ho5
          have HO5 : Hid (Ow w5 w1.heap.size v5 (limbs (m / 10))) := ho6
          clear ho5 ho6 hw5 hconv
          go_wp2
          go_roundw
          case rel =>
            obtain ⟨a5, c5, rfl, _⟩ := HO5.out.sl.flat
            exact ⟨m / 10, D ++ [m % 10], _, _, _, rfl, HO5.out, by rw [cat_front, HR.out, ← HS.out]; simp, by rw [HD.out, tens_pos hm]; simp, hb5⟩
          case measure =>
            have h2 := HSL.out
            have h3 := HTL.out
            simp [strLen, cat_front, ByteArray.size]
            omega
        · obtain ⟨j, rfl⟩ : ∃ j, k = j + 1 := ⟨k - 1, by omega⟩
          rw [show ((j + 1 : Nat) : Int) - 1 = (j : Int) by omega]
          obtain ⟨x, hx⟩ := exists_get (xs := ys) (k := j) (by omega)
          have hx32 : x < 4294967296 := HLM.out.get hx
          have hlj : (ys.take j).length = j := by simp; omega
          have hw := HW.out
          rw [take_snoc? hx, List.append_assoc] at hw
          obtain ⟨hcell, hfr⟩ := hw.at (k := j) (get_mid hlj)
          have hp := hw.put hbi hg1 (by simp; have := HQ.out; omega) (k := j) (z := (R * 4294967296 + x) / 10) (V := ((R : Int) * 4294967296 + x) / 10) (by omega) (by omega) (ys := ys.take j ++ (R * 4294967296 + x) / 10 :: Q) (by rw [show ys.take j ++ ([x] ++ Q) = ys.take j ++ x :: Q from rfl, set_mid _ _ _ _ _ hlj])
          have HX : Hid (ys[j]? = some x) := hx
          have hlt : j < ys.length := by omega
          have HP : Hid (Ow (wr.setCell ⟨g, j, none⟩ (.int .u32 (((R : Int) * 4294967296 + x) / 10))) w1.heap.size (.slice (some ⟨g, 0, none⟩) ys.length c1) (ys.take j ++ (R * 4294967296 + x) / 10 :: Q) ∧ Below w1.heap.size w1 (wr.setCell ⟨g, j, none⟩ (.int .u32 (((R : Int) * 4294967296 + x) / 10)))) := hp
          clear hp hw hx hlj
          go_wp2
          go_roundw
          case rel => exact ⟨j, (R * 4294967296 + x) % 10, (R * 4294967296 + x) / 10 :: Q, by omega, rfl, by go_num, by omega, by have := HQ.out; simp; omega, div_step HX.out HV.out, HP.out.1, HP.out.2⟩
          case measure => simp [intOf]

set_option maxHeartbeats 400000 in
theorem refText_any (v : Value) (xs : List Nat) (w : World) (h : Sl w v xs) :
    Calls Try.prog 25 #[v] w fun e w' => e = .returned (.tuple #[.string ⟨(textS xs).toArray⟩, .int .i64 (textE xs)]) ∧ Below w.heap.size w w' := by
  cases hr : rightB xs
  · go_enter Try.func25, Try.ntmps25
    go_wp2_with fail
    refine (refRight_any v xs _ h).mono ?_
    rintro e w1 ⟨rfl, rfl⟩
    rw [hr]
    go_wp2
    go_ret2
    exact ⟨by simp [textS, textE, hr], Below.refl _ _⟩
  · by_cases h0 : xs.length = 0
    · obtain rfl : xs = [] := List.eq_nil_of_length_eq_zero h0
      obtain ⟨ao, cap, rfl, hao, hca, hcl⟩ := h.flat
      clear hcl
      go_enter Try.func25, Try.ntmps25
      go_wp2_with fail
      refine (refRight_any _ [] _ h).mono ?_
      rintro e w1 ⟨rfl, rfl⟩
      rw [hr]
      go_wp2
      go_ret2
      exact ⟨by simp [textS, textE, hr, val, dec], Below.refl _ _⟩
    · refine (refText_pos v xs w h hr h0).mono ?_
      rintro e w1 ⟨rfl, hb⟩
      exact ⟨by simp [textS, textE, hr], hb⟩

end Go.Proofs.Ytaekpijpkblkgaa
