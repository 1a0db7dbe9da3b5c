/- Powers. -/
import Derived.Test.YtfifgmcjilkigaaPAdd
import Derived.Shelf.Small.Bits
import Derived.Ground.NamesProg
namespace Go.Proofs
open Go.Shelf Go.RowKit Go.Lib

def Try.bitsLen_ren : Go.Shelf.Ren := ⟨fun | 125 => 77 | 128 => 83 | 129 => 84 | n => n, fun | 46 => 88 | 3 => 3 | 51 => 43 | 53 => 87 | 4 => 4 | 5 => 5 | 9 => 9 | n => n, fun | n => n⟩
theorem Try.bitsLen : Go.Proofs.Lays.n125 Try.prog Try.bitsLen_ren := {
  mixed := by kernel_rfl
  f125 := Try.func77.trans (congrArg some (by kernel_rfl))
  f128 := Try.func83.trans (congrArg some (by kernel_rfl))
  f129 := Try.func84.trans (congrArg some (by kernel_rfl))
  t3 := Try.underlying3
  a3 := Try.isAgg3
  z3 := Try.sizeOf3
  v3 := Try.zeroValue3
  t4 := Try.underlying4
  a4 := Try.isAgg4
  z4 := Try.sizeOf4
  v4 := Try.zeroValue4
  t5 := Try.underlying5
  a5 := Try.isAgg5
  z5 := Try.sizeOf5
  v5 := Try.zeroValue5
  t9 := Try.underlying9
  a9 := Try.isAgg9
  z9 := Try.sizeOf9
  v9 := Try.zeroValue9
  t46 := Try.underlying88
  a46 := Try.isAgg88
  z46 := Try.sizeOf88
  v46 := Try.zeroValue88
  t51 := Try.underlying43
  a51 := Try.isAgg43
  z51 := Try.sizeOf43
  v51 := Try.zeroValue43
  t53 := Try.underlying87
  a53 := Try.isAgg87
  z53 := Try.sizeOf87
  v53 := Try.zeroValue87 }

end Go.Proofs

namespace Go.Proofs.Ytfifgmcjilkigaa
open Go.RowKit Go.Maps

/-- A power, from the highest bit but one down. -/
def powGo {α : Type} (tL : α → α → α) (tE : α → α → Int) (nil a : α) (n : Nat) : Nat → α → α × Int
  | 0, out => (out, 0)
  | b + 1, out =>
    if tE out out = 0 then
      if n / 2 ^ b % 2 = 1 then
        if tE (tL out out) a = 0 then powGo tL tE nil a n b (tL (tL out out) a) else (nil, tE (tL out out) a)
      else powGo tL tE nil a n b (tL out out)
    else (nil, tE out out)

/-- A way to multiply that a call is handed: what it answers, in every world. -/
def Times {α : Type} (R : World → Value → α → Prop) (D : α → Prop) (tL : α → α → α) (tE : α → α → Int) (g : FuncId) : Prop :=
  ∀ (v u : Value) (a b : α) (w : World), R w v a → R w u b → D a → D b →
    Calls Try.prog g #[v, u] w fun e w' => ∃ v', e = .returned (.tuple #[v', .int .i64 (tE a b)]) ∧ R w' v' (tL a b) ∧ Below w.heap.size w w'

theorem bitsLen_any (n : Nat) (w : World) (h : n ≤ 18446744073709551615) : Calls Try.prog 77 #[.int .u64 (n : Int)] w fun e w' => e = .returned (.int .i64 (Lib.bitLen n : Nat)) ∧ w' = w :=
  Any.bits_Len Try.bitsLen n w (by omega) (by omega)

theorem bitLen_le {n : Nat} (h1 : 1 ≤ n) (h2 : n ≤ 64) : 1 ≤ Lib.bitLen n ∧ Lib.bitLen n ≤ 7 := by
  have h : ∀ k : Fin 65, 1 ≤ k.1 → 1 ≤ Lib.bitLen k.1 ∧ Lib.bitLen k.1 ≤ 7 := by decide +kernel
  exact h ⟨n, by omega⟩ h1

theorem bit_at (n c : Nat) (h : n ≤ 64) (hc : c ≤ 6) : bits BinOp.and IntKind.i64 ((n : Int) / 2 ^ c) 1 = ((n / 2 ^ c % 2 : Nat) : Int) := by
  have hh : ∀ (k : Fin 65) (j : Fin 7), bits BinOp.and IntKind.i64 ((k.1 : Int) / 2 ^ j.1) 1 = ((k.1 / 2 ^ j.1 % 2 : Nat) : Int) := by decide +kernel
  exact hh ⟨n, by omega⟩ ⟨c, by omega⟩

theorem Sl.nil (w : World) : Sl w (.slice none 0 0) [] := ⟨Lim.nil, none, 0, rfl, by simp, by simp [maxLen], fun h => absurd h (by simp)⟩

theorem Ms.nil (w : World) : Ms w (.slice none 0 0) [] := Row.nil (by simp [maxLen])

section
variable {tL : List Nat → List Nat → List Nat} {tE : List Nat → List Nat → Int} {D : List Nat → Prop}

set_option maxRecDepth 100000 in
set_option maxHeartbeats 1000000 in
theorem powerN_any (g : FuncId) (v : Value) (a : List Nat) (n : Nat) (w : World) (ht : Times Sl D tL tE g) (hD : ∀ x y, D x → D y → tE x y = 0 → D (tL x y)) (h : Sl w v a) (hda : D a) (h1 : 1 ≤ n) (h2 : n ≤ 64) (eg : ∀ args w, (callFunc g args).run Try.prog w = .ok (.enter g args) w) :
    Calls Try.prog 70 #[v, .int .i64 (n : Int), .func (.func g) #[] #[]] w fun e w' => ∃ v', e = .returned (.tuple #[v', .int .i64 (powGo tL tE [] a n (Lib.bitLen n - 1) a).2]) ∧ Sl w' v' (powGo tL tE [] a n (Lib.bitLen n - 1) a).1 ∧ Below w.heap.size w w' := by
  have HT : Hid (Times Sl D tL tE g) := ht
  have HD : Hid (∀ x y, D x → D y → tE x y = 0 → D (tL x y)) := hD
  have HA : Hid (Sl w v a) := h
  have HDa : Hid (D a) := hda
  obtain ⟨B, hB⟩ : ∃ B, B = Lib.bitLen n := ⟨_, rfl⟩
  have hB1 : 1 ≤ B ∧ B ≤ 7 := by rw [hB]; exact bitLen_le h1 h2
  clear ht h hD hda
  rw [← hB]
  have HB : Hid (B = Lib.bitLen n) := hB
  clear hB
  go_enter Try.func70, Try.ntmps70
  go_wp2_with (go_at_call 77; refine (bitsLen_any n _ (by omega)).mono ?_; rw [← HB.out]; rintro e w9 ⟨rfl, hw9⟩; have hw8 := hw9.symm; subst hw8; clear hw9)
  go_loopw [8, 9] (fun x i wr => ∃ (b : Nat) (out : List Nat), i = .int .i64 ((b : Int) - 1) ∧ b ≤ B - 1 ∧ Sl wr x out ∧ D out ∧ powGo tL tE [] a n (B - 1) a = powGo tL tE [] a n b out ∧ Below w.heap.size w wr) (fun _ i _ => (intOf i + 1).toNat)
  case atStart => exact ⟨B - 1, a, by congr 1; omega, Nat.le_refl _, HA.out, HDa.out, rfl, Below.refl _ _⟩
  case round =>
    obtain ⟨b, out, rfl, hb, hs, hdo, hpo, hbl⟩ := hrel
    have HS : Hid (Sl wr u8 out) := hs
    have HDo : Hid (D out) := hdo
    have HP : Hid (powGo tL tE [] a n (B - 1) a = powGo tL tE [] a n b out) := hpo
    have HBl : Hid (Below w.heap.size w wr) := hbl
    clear hs hpo hbl hdo
    by_cases hb0 : b = 0
    · subst hb0
      have HF : Hid (powGo tL tE [] a n (B - 1) a = (out, 0)) := HP.out
      go_wp2
      go_ret2
      exact ⟨_, ret2i (by rw [HF.out]), by rw [HF.out]; exact HS.out, HBl.out⟩
    · obtain ⟨c, rfl⟩ : ∃ c, b = c + 1 := ⟨b - 1, by omega⟩
      clear hb0
      rw [show ((c + 1 : Nat) : Int) - 1 = (c : Int) by omega]
      go_wp2_with fail
      refine (HT.out u8 u8 out out _ HS.out HS.out HDo.out HDo.out).mono ?_
      rintro e w1 ⟨v1, rfl, ho1, hb1⟩
      have HO1 : Hid (Sl w1 v1 (tL out out)) := ho1
      have HB1 : Hid (Below w.heap.size w w1) := below_step HBl.out hb1
      obtain ⟨E, hE⟩ : ∃ E, E = tE out out := ⟨_, rfl⟩
      have HE : Hid (E = tE out out) := hE
      rw [← hE]
      clear hE ho1 hb1
      by_cases hE0 : E = 0
      · subst hE0
        have HDq : Hid (D (tL out out)) := HD.out _ _ HDo.out HDo.out HE.out.symm
        have hbit := bit_at n c h2 (by omega)
        by_cases hodd : n / 2 ^ c % 2 = 1
        · have hbb : (bits BinOp.and IntKind.i64 ((n : Int) / 2 ^ c) 1 == 1) = true := by rw [hbit, hodd]; rfl
          have Hodd : Hid (n / 2 ^ c % 2 = 1) := hodd
          clear hbit hodd
          go_wp2_with fail
          refine (HT.out v1 v (tL out out) a _ HO1.out (HA.out.kp (Kp.of_below HB1.out)) HDq.out HDa.out).mono ?_
          rintro e w2 ⟨v2, rfl, ho2, hb2⟩
          have HO2 : Hid (Sl w2 v2 (tL (tL out out) a)) := ho2
          have HB2 : Hid (Below w.heap.size w w2) := below_step HB1.out hb2
          obtain ⟨F, hF⟩ : ∃ F, F = tE (tL out out) a := ⟨_, rfl⟩
          have HF : Hid (F = tE (tL out out) a) := hF
          rw [← hF]
          clear hF ho2 hb2
          by_cases hF0 : F = 0
          · subst hF0
            have HDr : Hid (D (tL (tL out out) a)) := HD.out _ _ HDq.out HDa.out HF.out.symm
            go_wp2
            go_roundw
            case rel =>
              refine ⟨c, tL (tL out out) a, by first | rfl | go_num, by omega, HO2.out, HDr.out, ?_, HB2.out⟩
              rw [HP.out, powGo, if_pos HE.out.symm, if_pos Hodd.out, if_pos HF.out.symm]
            case measure => simp [intOf]
          · have hb0 : (F != 0) = true := by rw [bne_iff_ne]; exact hF0
            have HFi : Hid (powGo tL tE [] a n (B - 1) a = ([], F)) := by
              show _ = _
              rw [HP.out, powGo, if_pos HE.out.symm, if_pos Hodd.out, if_neg (by rw [← HF.out]; exact hF0), ← HF.out]
            go_wp2
            go_ret2
            exact ⟨_, ret2i (by rw [HFi.out]), by rw [HFi.out]; exact Sl.nil _, HB2.out⟩
        · have hbb : (bits BinOp.and IntKind.i64 ((n : Int) / 2 ^ c) 1 == 1) = false := by
            rw [hbit, beq_eq_false_iff_ne]
            omega
          have Hodd : Hid (¬ n / 2 ^ c % 2 = 1) := hodd
          clear hbit hodd
          go_wp2
          go_roundw
          case rel =>
            refine ⟨c, tL out out, by first | rfl | go_num, by omega, HO1.out, HDq.out, ?_, HB1.out⟩
            rw [HP.out, powGo, if_pos HE.out.symm, if_neg Hodd.out]
          case measure => simp [intOf]
      · have hb0 : (E != 0) = true := by rw [bne_iff_ne]; exact hE0
        have hb1 : (E == 0) = false := by rw [beq_eq_false_iff_ne]; exact hE0
        have HFi : Hid (powGo tL tE [] a n (B - 1) a = ([], E)) := by
          show _ = _
          rw [HP.out, powGo, if_neg (by rw [← HE.out]; exact hE0), ← HE.out]
        go_wp2
        go_ret2
        exact ⟨_, ret2i (by rw [HFi.out]), by rw [HFi.out]; exact Sl.nil _, HB1.out⟩

end

section
variable {tL : List Mn → List Mn → List Mn} {tE : List Mn → List Mn → Int} {D : List Mn → Prop}

set_option maxRecDepth 100000 in
set_option maxHeartbeats 1000000 in
theorem powerM_any (g : FuncId) (v : Value) (a : List Mn) (n : Nat) (w : World) (ht : Times Ms D tL tE g) (hD : ∀ x y, D x → D y → tE x y = 0 → D (tL x y)) (h : Ms w v a) (hda : D a) (h1 : 1 ≤ n) (h2 : n ≤ 64) (eg : ∀ args w, (callFunc g args).run Try.prog w = .ok (.enter g args) w) :
    Calls Try.prog 65 #[v, .int .i64 (n : Int), .func (.func g) #[] #[]] w fun e w' => ∃ v', e = .returned (.tuple #[v', .int .i64 (powGo tL tE [] a n (Lib.bitLen n - 1) a).2]) ∧ Ms w' v' (powGo tL tE [] a n (Lib.bitLen n - 1) a).1 ∧ Below w.heap.size w w' := by
  have HT : Hid (Times Ms D tL tE g) := ht
  have HD : Hid (∀ x y, D x → D y → tE x y = 0 → D (tL x y)) := hD
  have HA : Hid (Ms w v a) := h
  have HDa : Hid (D a) := hda
  obtain ⟨B, hB⟩ : ∃ B, B = Lib.bitLen n := ⟨_, rfl⟩
  have hB1 : 1 ≤ B ∧ B ≤ 7 := by rw [hB]; exact bitLen_le h1 h2
  clear ht h hD hda
  rw [← hB]
  have HB : Hid (B = Lib.bitLen n) := hB
  clear hB
  go_enter Try.func65, Try.ntmps65
  go_wp2_with (go_at_call 77; refine (bitsLen_any n _ (by omega)).mono ?_; rw [← HB.out]; rintro e w9 ⟨rfl, hw9⟩; have hw8 := hw9.symm; subst hw8; clear hw9)
  go_loopw [8, 9] (fun x i wr => ∃ (b : Nat) (out : List Mn), i = .int .i64 ((b : Int) - 1) ∧ b ≤ B - 1 ∧ Ms wr x out ∧ D out ∧ powGo tL tE [] a n (B - 1) a = powGo tL tE [] a n b out ∧ Below w.heap.size w wr) (fun _ i _ => (intOf i + 1).toNat)
  case atStart => exact ⟨B - 1, a, by congr 1; omega, Nat.le_refl _, HA.out, HDa.out, rfl, Below.refl _ _⟩
  case round =>
    obtain ⟨b, out, rfl, hb, hs, hdo, hpo, hbl⟩ := hrel
    have HS : Hid (Ms wr u8 out) := hs
    have HDo : Hid (D out) := hdo
    have HP : Hid (powGo tL tE [] a n (B - 1) a = powGo tL tE [] a n b out) := hpo
    have HBl : Hid (Below w.heap.size w wr) := hbl
    clear hs hpo hbl hdo
    by_cases hb0 : b = 0
    · subst hb0
      have HF : Hid (powGo tL tE [] a n (B - 1) a = (out, 0)) := HP.out
      go_wp2
      go_ret2
      exact ⟨_, ret2i (by rw [HF.out]), by rw [HF.out]; exact HS.out, HBl.out⟩
    · obtain ⟨c, rfl⟩ : ∃ c, b = c + 1 := ⟨b - 1, by omega⟩
      clear hb0
      rw [show ((c + 1 : Nat) : Int) - 1 = (c : Int) by omega]
      go_wp2_with fail
      refine (HT.out u8 u8 out out _ HS.out HS.out HDo.out HDo.out).mono ?_
      rintro e w1 ⟨v1, rfl, ho1, hb1⟩
      have HO1 : Hid (Ms w1 v1 (tL out out)) := ho1
      have HB1 : Hid (Below w.heap.size w w1) := below_step HBl.out hb1
      obtain ⟨E, hE⟩ : ∃ E, E = tE out out := ⟨_, rfl⟩
      have HE : Hid (E = tE out out) := hE
      rw [← hE]
      clear hE ho1 hb1
      by_cases hE0 : E = 0
      · subst hE0
        have HDq : Hid (D (tL out out)) := HD.out _ _ HDo.out HDo.out HE.out.symm
        have hbit := bit_at n c h2 (by omega)
        by_cases hodd : n / 2 ^ c % 2 = 1
        · have hbb : (bits BinOp.and IntKind.i64 ((n : Int) / 2 ^ c) 1 == 1) = true := by rw [hbit, hodd]; rfl
          have Hodd : Hid (n / 2 ^ c % 2 = 1) := hodd
          clear hbit hodd
          go_wp2_with fail
          refine (HT.out v1 v (tL out out) a _ HO1.out (HA.out.kp (Kp.of_below HB1.out)) HDq.out HDa.out).mono ?_
          rintro e w2 ⟨v2, rfl, ho2, hb2⟩
          have HO2 : Hid (Ms w2 v2 (tL (tL out out) a)) := ho2
          have HB2 : Hid (Below w.heap.size w w2) := below_step HB1.out hb2
          obtain ⟨F, hF⟩ : ∃ F, F = tE (tL out out) a := ⟨_, rfl⟩
          have HF : Hid (F = tE (tL out out) a) := hF
          rw [← hF]
          clear hF ho2 hb2
          by_cases hF0 : F = 0
          · subst hF0
            have HDr : Hid (D (tL (tL out out) a)) := HD.out _ _ HDq.out HDa.out HF.out.symm
            go_wp2
            go_roundw
            case rel =>
              refine ⟨c, tL (tL out out) a, by first | rfl | go_num, by omega, HO2.out, HDr.out, ?_, HB2.out⟩
              rw [HP.out, powGo, if_pos HE.out.symm, if_pos Hodd.out, if_pos HF.out.symm]
            case measure => simp [intOf]
          · have hb0 : (F != 0) = true := by rw [bne_iff_ne]; exact hF0
            have HFi : Hid (powGo tL tE [] a n (B - 1) a = ([], F)) := by
              show _ = _
              rw [HP.out, powGo, if_pos HE.out.symm, if_pos Hodd.out, if_neg (by rw [← HF.out]; exact hF0), ← HF.out]
            go_wp2
            go_ret2
            exact ⟨_, ret2i (by rw [HFi.out]), by rw [HFi.out]; exact Ms.nil _, HB2.out⟩
        · have hbb : (bits BinOp.and IntKind.i64 ((n : Int) / 2 ^ c) 1 == 1) = false := by
            rw [hbit, beq_eq_false_iff_ne]
            omega
          have Hodd : Hid (¬ n / 2 ^ c % 2 = 1) := hodd
          clear hbit hodd
          go_wp2
          go_roundw
          case rel =>
            refine ⟨c, tL out out, by first | rfl | go_num, by omega, HO1.out, HDq.out, ?_, HB1.out⟩
            rw [HP.out, powGo, if_pos HE.out.symm, if_neg Hodd.out]
          case measure => simp [intOf]
      · have hb0 : (E != 0) = true := by rw [bne_iff_ne]; exact hE0
        have hb1 : (E == 0) = false := by rw [beq_eq_false_iff_ne]; exact hE0
        have HFi : Hid (powGo tL tE [] a n (B - 1) a = ([], E)) := by
          show _ = _
          rw [HP.out, powGo, if_neg (by rw [← HE.out]; exact hE0), ← HE.out]
        go_wp2
        go_ret2
        exact ⟨_, ret2i (by rw [HFi.out]), by rw [HFi.out]; exact Ms.nil _, HB1.out⟩

end

end Go.Proofs.Ytfifgmcjilkigaa
