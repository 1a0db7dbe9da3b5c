/- Texts of the proof, one behind the other. -/
import Derived.Test.YtdjmjhlbjcgoiaaGreatDoorOwn9
import Derived.Shelf.Small.Bits
import Derived.Ground.NamesProg
set_option maxRecDepth 1000000
set_option maxHeartbeats 6400000
namespace Go.Proofs.YtdjmjhlbjcgoiaaGreatDoor
open Go.RowKit Go.Maps
theorem xCN {p : List Mn} {vars : Int} (h : checkE p vars = 0) : ∀ (k : Nat) (m : Mn), p[k]? = some m → Small m.2 := by
 intro k m hk
 unfold checkE at h
 split at h
 ·omega
 split at h
 ·omega
 rename_i hp
 split at h
 ·omega
 rename_i hb
 have hk2 := (zB.1 hk).1
 have hp' : polyB p vars = true := by simpa using hp
 have hb' : boundsB p = true := by simpa using hb
 have h1 := xBD.1 hp' k hk2
 unfold okAt at h1
 rw [hk] at h1
 simp only [Bool.and_eq_true] at h1
 have hm := h1.1.1
 unfold monB at hm
 simp only [Bool.and_eq_true, List.all_eq_true, yY] at hm
 unfold boundsB at hb'
 simp only [Bool.and_eq_true, List.all_eq_true, yY] at hb'
 have hs := hb'.2 m (zD hk)
 unfold smallB at hs
 simp only [Bool.and_eq_true, List.all_eq_true, yY] at hs
 exact ⟨hs.1, fun j x hj => ⟨hm.1.2 x (zD hj), hs.2 x (zD hj)⟩⟩
theorem ps2 {w : World} {v u : Value} {p q : List Mn} (h : Ms w v p) (h' : Ms w u q) : Ps (w.alloc (.cells #[v, u] 31)) (.slice (some ⟨w.heap.size, 0, none⟩) 2 2) [p, q] := by
 have hk := zK (zA (w := w) (.cells #[v, u] 31))
 refine ⟨_, 2, rfl, by simp, by simp [maxLen], fun _ => ⟨w.heap.size, 0, rfl, by simp, ?_⟩⟩
 intro k x hk2
 have hlt := (zB.1 hk2).1
 match k, hlt with
 | 0, _ =>
  simp only [yQ, zX] at hk2
  subst hk2
  exact ⟨v, by simp, h.kp hk⟩
 | 1, _ =>
  simp only [yP, yQ, zX] at hk2
  subst hk2
  exact ⟨u, by simp, h'.kp hk⟩
theorem ps1 {w : World} {v : Value} {p : List Mn} (h : Ms w v p) : Ps (w.alloc (.cells #[v] 31)) (.slice (some ⟨w.heap.size, 0, none⟩) 1 1) [p] := by
 have hk := zK (zA (w := w) (.cells #[v] 31))
 refine ⟨_, 1, rfl, by simp, by simp [maxLen], fun _ => ⟨w.heap.size, 0, rfl, by simp, ?_⟩⟩
 intro k x hk2
 have hlt := (zB.1 hk2).1
 match k, hlt with
 | 0, _ =>
  simp only [yQ, zX] at hk2
  subst hk2
  exact ⟨v, by simp, h.kp hk⟩
def addPE (p q : List Mn) : Int := if checkAllE [p, q] = 0 then sumE p q else checkAllE [p, q]
def addPL (p q : List Mn) : List Mn := if checkAllE [p, q] = 0 then sumL p q else []
def mulPE (p q : List Mn) : Int := if checkAllE [p, q] = 0 then prodE p q else checkAllE [p, q]
def mulPL (p q : List Mn) : List Mn := if checkAllE [p, q] = 0 then prodL p q else []
def varsN (p : List Mn) : Nat := p.foldl (fun a m => max a m.2.length) 0
theorem varsN_step {p : List Mn} {k : Nat} {m : Mn} (h : p[k]? = some m) : varsN (p.take (k + 1)) = max (varsN (p.take k)) m.2.length := by
 rw [xAY h]; simp [varsN]
theorem varsN_le {p : List Mn} {B : Nat} (h : ∀ (k : Nat) (m : Mn), p[k]? = some m → m.2.length ≤ B) : ∀ k, varsN (p.take k) ≤ B := by
 intro k
 induction k with
 | zero => simp [varsN]
 | succ k ih =>
  cases hk : p[k]? with
  | none => rw [List.take_add_one, hk]; simpa using ih
  | some m => rw [varsN_step hk]; have := h k m hk; omega
theorem variables_any (v : Value) (p : List Mn) (w : World) (h : Ms w v p) :
  Calls Tryz.prog 63 #[v] w fun e w' => e = .returned (.int .i64 (varsN p : Nat)) ∧ Below w.heap.size w w' := by
 obtain ⟨ao, cap, rfl, hao, hca, q0⟩ := Row.flat h
 unfold maxLen at hca
 have HM : Hid (Ms w (.slice ao p.length cap) p) := h
 have HV : Hid (∀ k, varsN (p.take k) ≤ 9223372036854775807) := varsN_le (fun k m hk => by
  obtain ⟨_, _, c, es, _, _, _, _, _, hk2, _, _, _, _, _, h3, h4⟩ := h.at (zB.1 hk).1
  rw [hk] at hk2
  cases hk2
  show es.length ≤ _
  omega)
 clear h q0
 go_enter Tryz.func63, Tryz.ntmps63
 go_wp2
 go_loopw [3, 8] (fun x i wr => ∃ k : Nat, k ≤ p.length ∧ i = .int .i64 k ∧ x = .int .i64 (varsN (p.take k) : Nat) ∧ Below w.heap.size w wr) (fun _ i _ => p.length - (intOf i).toNat)
 case atStart => exact ⟨0, by omega, rfl, rfl, Below.refl _ _⟩
 case round =>
  obtain ⟨k, hk, rfl, rfl, hbl⟩ := hrel
  by_cases hlt : k < p.length
  ·obtain ⟨g, off, c, es, a1, c1, a2, c2, rfl, hm1, hc0, hc1, hmo, hl1, hl2, hl3, hl4⟩ := (HM.out.kp (zK hbl)).at hlt
   have HS : Hid (varsN (p.take (k + 1)) = max (varsN (p.take k)) es.length) := varsN_step hm1
   have HB : Hid (Below w.heap.size w (wr.alloc (.cells #[.slice a1 c.length c1, .slice a2 es.length c2] 37))) := zS hbl (zA _)
   have hvk := HV.out k
   obtain ⟨V, hV⟩ : ∃ V, V = varsN (p.take k) := ⟨_, rfl⟩
   rw [← hV] at hvk HS ⊢
   clear hm1 hmo hbl hV
   go_wp2
   go_roundw
   case rel => exact ⟨k + 1, by omega, by go_num, congrArg (Value.int .i64) (by rw [HS.out]; omega), HB.out⟩
   case measure => simp [intOf]; omega
  have hke : k = p.length := by omega
  subst hke
  rw [zO (Nat.le_refl _)]
  go_wp2
  go_ret
  exact ⟨rfl, hbl⟩
theorem xGI (v u : Value) (xs ys : List Nat) (w : World) (h : Sl w v xs) (h' : Sl w u ys) :
  Calls Tryz.prog 103 #[v, u] w fun e w' => e = .returned (.bool (decide (0 < cmpV xs ys))) ∧ ∃ n, w' = w.drewN n := by
 go_enter Tryz.func103, Tryz.ntmps103
 go_wp2_with (go_at_call 35; refine (cmp_any v u xs ys _ h h').mono ?_; rintro e w' ⟨rfl, n, rfl⟩)
 go_ret
 exact ⟨rfl, _, rfl⟩
end Go.Proofs.YtdjmjhlbjcgoiaaGreatDoor
namespace Go.Proofs
open Go.Shelf Go.RowKit Go.Lib
def Tryz.bitsLen_ren : Go.Shelf.Ren := ⟨fun | 125 => 156 | 128 => 179 | 129 => 180 | n => n, fun | 46 => 204 | 3 => 3 | 51 => 38 | 53 => 207 | 4 => 4 | 5 => 5 | 9 => 9 | n => n, fun | n => n⟩
theorem Tryz.bitsLen : Go.Proofs.Lays.n125 Tryz.prog Tryz.bitsLen_ren := {
  mixed := by kernel_rfl
  f125 := Tryz.func156.trans (congrArg some (by kernel_rfl))
  f128 := Tryz.func179.trans (congrArg some (by kernel_rfl))
  f129 := Tryz.func180.trans (congrArg some (by kernel_rfl))
  t3 := Tryz.underlying3
  a3 := Tryz.isAgg3
  z3 := Tryz.sizeOf3
  v3 := Tryz.zeroValue3
  t4 := Tryz.underlying4
  a4 := Tryz.isAgg4
  z4 := Tryz.sizeOf4
  v4 := Tryz.zeroValue4
  t5 := Tryz.underlying5
  a5 := Tryz.isAgg5
  z5 := Tryz.sizeOf5
  v5 := Tryz.zeroValue5
  t9 := Tryz.underlying9
  a9 := Tryz.isAgg9
  z9 := Tryz.sizeOf9
  v9 := Tryz.zeroValue9
  t46 := Tryz.underlying204
  a46 := Tryz.isAgg204
  z46 := Tryz.sizeOf204
  v46 := Tryz.zeroValue204
  t51 := Tryz.underlying38
  a51 := Tryz.isAgg38
  z51 := Tryz.sizeOf38
  v51 := Tryz.zeroValue38
  t53 := Tryz.underlying207
  a53 := Tryz.isAgg207
  z53 := Tryz.sizeOf207
  v53 := Tryz.zeroValue207 }
end Go.Proofs
namespace Go.Proofs.YtdjmjhlbjcgoiaaGreatDoor
open Go.RowKit Go.Maps
def powGo {α : Type} (tL : α → α → α) (tE : α → α → Int) (nil a : α) (n : Nat) : Nat → α → α × Int
 | 0, out => (out, 0)
 | b + 1, out =>
  if tE out out = 0 then
   if n / 2 ^ b % 2 = 1 then
    if tE (tL out out) a = 0 then powGo tL tE nil a n b (tL (tL out out) a) else (nil, tE (tL out out) a)
   else powGo tL tE nil a n b (tL out out)
  else (nil, tE out out)
def Times {α : Type} (R : World → Value → α → Prop) (D : α → Prop) (tL : α → α → α) (tE : α → α → Int) (g : FuncId) : Prop :=
 ∀ (v u : Value) (a b : α) (w : World), R w v a → R w u b → D a → D b →
  Calls Tryz.prog g #[v, u] w fun e w' => ∃ v', e = .returned (.tuple #[v', .int .i64 (tE a b)]) ∧ R w' v' (tL a b) ∧ Below w.heap.size w w'
theorem bitsLen_any (n : Nat) (w : World) (h : n ≤ 18446744073709551615) : Calls Tryz.prog 156 #[.int .u64 (n : Int)] w fun e w' => e = .returned (.int .i64 (Lib.bitLen n : Nat)) ∧ w' = w :=
 Any.bits_Len Tryz.bitsLen n w (by omega) (by omega)
theorem bitLen_le {n : Nat} (h1 : 1 ≤ n) (h2 : n ≤ 64) : 1 ≤ Lib.bitLen n ∧ Lib.bitLen n ≤ 7 := by
 have h : ∀ k : Fin 65, 1 ≤ k.1 → 1 ≤ Lib.bitLen k.1 ∧ Lib.bitLen k.1 ≤ 7 := by decide +kernel
 exact h ⟨n, by omega⟩ h1
theorem bit_at (n c : Nat) (h : n ≤ 64) (hc : c ≤ 6) : bits BinOp.and IntKind.i64 ((n : Int) / 2 ^ c) 1 = ((n / 2 ^ c % 2 : Nat) : Int) := by
 have hh : ∀ (k : Fin 65) (j : Fin 7), bits BinOp.and IntKind.i64 ((k.1 : Int) / 2 ^ j.1) 1 = ((k.1 / 2 ^ j.1 % 2 : Nat) : Int) := by decide +kernel
 exact hh ⟨n, by omega⟩ ⟨c, by omega⟩
theorem Sl.nil (w : World) : Sl w (.slice none 0 0) [] := ⟨Lim.nil, none, 0, rfl, by simp, by simp [maxLen], fun h => absurd h (by simp)⟩
theorem Ms.nil (w : World) : Ms w (.slice none 0 0) [] := Row.nil (by simp [maxLen])
section
variable {tL : List Nat → List Nat → List Nat} {tE : List Nat → List Nat → Int} {D : List Nat → Prop}
theorem powerN_any (g : FuncId) (v : Value) (a : List Nat) (n : Nat) (w : World) (ht : Times Sl D tL tE g) (hD : ∀ x y, D x → D y → tE x y = 0 → D (tL x y)) (h : Sl w v a) (hda : D a) (h1 : 1 ≤ n) (h2 : n ≤ 64) (eg : ∀ args w, (callFunc g args).run Tryz.prog w = .ok (.enter g args) w) :
  Calls Tryz.prog 122 #[v, .int .i64 (n : Int), .func (.func g) #[] #[]] w fun e w' => ∃ v', e = .returned (.tuple #[v', .int .i64 (powGo tL tE [] a n (Lib.bitLen n - 1) a).2]) ∧ Sl w' v' (powGo tL tE [] a n (Lib.bitLen n - 1) a).1 ∧ Below w.heap.size w w' := by
 have HT : Hid (Times Sl D tL tE g) := ht
 have HD : Hid (∀ x y, D x → D y → tE x y = 0 → D (tL x y)) := hD
 have HA : Hid (Sl w v a) := h
 have HDa : Hid (D a) := hda
 obtain ⟨B, hB⟩ : ∃ B, B = Lib.bitLen n := ⟨_, rfl⟩
 have hB1 : 1 ≤ B ∧ B ≤ 7 := by rw [hB]; exact bitLen_le h1 h2
 clear ht h hD hda
 rw [← hB]
 have HB : Hid (B = Lib.bitLen n) := hB
 clear hB
 go_enter Tryz.func122, Tryz.ntmps122
 go_wp2_with (go_at_call 156; refine (bitsLen_any n _ (by omega)).mono ?_; rw [← HB.out]; rintro e w9 ⟨rfl, hw9⟩; have hw8 := hw9.symm; subst hw8; clear hw9)
 go_loopw [8, 9] (fun x i wr => ∃ (b : Nat) (out : List Nat), i = .int .i64 ((b : Int) - 1) ∧ b ≤ B - 1 ∧ Sl wr x out ∧ D out ∧ powGo tL tE [] a n (B - 1) a = powGo tL tE [] a n b out ∧ Below w.heap.size w wr) (fun _ i _ => (intOf i + 1).toNat)
 case atStart => exact ⟨B - 1, a, by congr 1; omega, Nat.le_refl _, HA.out, HDa.out, rfl, Below.refl _ _⟩
 case round =>
  obtain ⟨b, out, rfl, hb, hs, hdo, hpo, hbl⟩ := hrel
  have HS : Hid (Sl wr u8 out) := hs
  have HDo : Hid (D out) := hdo
  have HP : Hid (powGo tL tE [] a n (B - 1) a = powGo tL tE [] a n b out) := hpo
  have HBl : Hid (Below w.heap.size w wr) := hbl
  clear hs hpo hbl hdo
  by_cases hb0 : b = 0
  ·subst hb0
   have HF : Hid (powGo tL tE [] a n (B - 1) a = (out, 0)) := HP.out
   go_wp2
   go_ret2
   exact ⟨_, ret2i (by rw [HF.out]), by rw [HF.out]; exact HS.out, HBl.out⟩
  obtain ⟨c, rfl⟩ : ∃ c, b = c + 1 := ⟨b - 1, by omega⟩
  clear hb0
  rw [show ((c + 1 : Nat) : Int) - 1 = (c : Int) by omega]
  go_wp2_with fail
  refine (HT.out u8 u8 out out _ HS.out HS.out HDo.out HDo.out).mono ?_
  rintro e w1 ⟨v1, rfl, ho1, hb1⟩
  have HO1 : Hid (Sl w1 v1 (tL out out)) := ho1
  have HB1 : Hid (Below w.heap.size w w1) := zS HBl.out hb1
  obtain ⟨E, hE⟩ : ∃ E, E = tE out out := ⟨_, rfl⟩
  have HE : Hid (E = tE out out) := hE
  rw [← hE]
  clear hE ho1 hb1
  by_cases hE0 : E = 0
  ·subst hE0
   have HDq : Hid (D (tL out out)) := HD.out _ _ HDo.out HDo.out HE.out.symm
   have hbit := bit_at n c h2 (by omega)
   by_cases hodd : n / 2 ^ c % 2 = 1
   ·have hbb : (bits BinOp.and IntKind.i64 ((n : Int) / 2 ^ c) 1 == 1) = true := by rw [hbit, hodd]; rfl
    have Hodd : Hid (n / 2 ^ c % 2 = 1) := hodd
    clear hbit hodd
    go_wp2_with fail
    refine (HT.out v1 v (tL out out) a _ HO1.out (HA.out.kp (zK HB1.out)) HDq.out HDa.out).mono ?_
    rintro e w2 ⟨v2, rfl, ho2, hb2⟩
    have HO2 : Hid (Sl w2 v2 (tL (tL out out) a)) := ho2
    have HB2 : Hid (Below w.heap.size w w2) := zS HB1.out hb2
    obtain ⟨F, hF⟩ : ∃ F, F = tE (tL out out) a := ⟨_, rfl⟩
    have HF : Hid (F = tE (tL out out) a) := hF
    rw [← hF]
    clear hF ho2 hb2
    by_cases hF0 : F = 0
    ·subst hF0
     have HDr : Hid (D (tL (tL out out) a)) := HD.out _ _ HDq.out HDa.out HF.out.symm
     go_wp2
     go_roundw
     case rel =>
      refine ⟨c, tL (tL out out) a, by first | rfl | go_num, by omega, HO2.out, HDr.out, ?_, HB2.out⟩
      rw [HP.out, powGo, if_pos HE.out.symm, if_pos Hodd.out, if_pos HF.out.symm]
     case measure => simp [intOf]
    have hb0 : (F != 0) = true := by rw [bne_iff_ne]; exact hF0
    have HFi : Hid (powGo tL tE [] a n (B - 1) a = ([], F)) := by
     show _ = _
     rw [HP.out, powGo, if_pos HE.out.symm, if_pos Hodd.out, if_neg (by rw [← HF.out]; exact hF0), ← HF.out]
    go_wp2
    go_ret2
    exact ⟨_, ret2i (by rw [HFi.out]), by rw [HFi.out]; exact Sl.nil _, HB2.out⟩
   have hbb : (bits BinOp.and IntKind.i64 ((n : Int) / 2 ^ c) 1 == 1) = false := by
    rw [hbit, zY]
    omega
   have Hodd : Hid (¬ n / 2 ^ c % 2 = 1) := hodd
   clear hbit hodd
   go_wp2
   go_roundw
   case rel =>
    refine ⟨c, tL out out, by first | rfl | go_num, by omega, HO1.out, HDq.out, ?_, HB1.out⟩
    rw [HP.out, powGo, if_pos HE.out.symm, if_neg Hodd.out]
   case measure => simp [intOf]
  have hb0 : (E != 0) = true := by rw [bne_iff_ne]; exact hE0
  have hb1 : (E == 0) = false := by rw [zY]; exact hE0
  have HFi : Hid (powGo tL tE [] a n (B - 1) a = ([], E)) := by
   show _ = _
   rw [HP.out, powGo, if_neg (by rw [← HE.out]; exact hE0), ← HE.out]
  go_wp2
  go_ret2
  exact ⟨_, ret2i (by rw [HFi.out]), by rw [HFi.out]; exact Sl.nil _, HB1.out⟩
end
section
variable {tL : List Mn → List Mn → List Mn} {tE : List Mn → List Mn → Int} {D : List Mn → Prop}
theorem powerM_any (g : FuncId) (v : Value) (a : List Mn) (n : Nat) (w : World) (ht : Times Ms D tL tE g) (hD : ∀ x y, D x → D y → tE x y = 0 → D (tL x y)) (h : Ms w v a) (hda : D a) (h1 : 1 ≤ n) (h2 : n ≤ 64) (eg : ∀ args w, (callFunc g args).run Tryz.prog w = .ok (.enter g args) w) :
  Calls Tryz.prog 114 #[v, .int .i64 (n : Int), .func (.func g) #[] #[]] w fun e w' => ∃ v', e = .returned (.tuple #[v', .int .i64 (powGo tL tE [] a n (Lib.bitLen n - 1) a).2]) ∧ Ms w' v' (powGo tL tE [] a n (Lib.bitLen n - 1) a).1 ∧ Below w.heap.size w w' := by
 have HT : Hid (Times Ms D tL tE g) := ht
 have HD : Hid (∀ x y, D x → D y → tE x y = 0 → D (tL x y)) := hD
 have HA : Hid (Ms w v a) := h
 have HDa : Hid (D a) := hda
 obtain ⟨B, hB⟩ : ∃ B, B = Lib.bitLen n := ⟨_, rfl⟩
 have hB1 : 1 ≤ B ∧ B ≤ 7 := by rw [hB]; exact bitLen_le h1 h2
 clear ht h hD hda
 rw [← hB]
 have HB : Hid (B = Lib.bitLen n) := hB
 clear hB
 go_enter Tryz.func114, Tryz.ntmps114
 go_wp2_with (go_at_call 156; refine (bitsLen_any n _ (by omega)).mono ?_; rw [← HB.out]; rintro e w9 ⟨rfl, hw9⟩; have hw8 := hw9.symm; subst hw8; clear hw9)
 go_loopw [8, 9] (fun x i wr => ∃ (b : Nat) (out : List Mn), i = .int .i64 ((b : Int) - 1) ∧ b ≤ B - 1 ∧ Ms wr x out ∧ D out ∧ powGo tL tE [] a n (B - 1) a = powGo tL tE [] a n b out ∧ Below w.heap.size w wr) (fun _ i _ => (intOf i + 1).toNat)
 case atStart => exact ⟨B - 1, a, by congr 1; omega, Nat.le_refl _, HA.out, HDa.out, rfl, Below.refl _ _⟩
 case round =>
  obtain ⟨b, out, rfl, hb, hs, hdo, hpo, hbl⟩ := hrel
  have HS : Hid (Ms wr u8 out) := hs
  have HDo : Hid (D out) := hdo
  have HP : Hid (powGo tL tE [] a n (B - 1) a = powGo tL tE [] a n b out) := hpo
  have HBl : Hid (Below w.heap.size w wr) := hbl
  clear hs hpo hbl hdo
  by_cases hb0 : b = 0
  ·subst hb0
   have HF : Hid (powGo tL tE [] a n (B - 1) a = (out, 0)) := HP.out
   go_wp2
   go_ret2
   exact ⟨_, ret2i (by rw [HF.out]), by rw [HF.out]; exact HS.out, HBl.out⟩
  obtain ⟨c, rfl⟩ : ∃ c, b = c + 1 := ⟨b - 1, by omega⟩
  clear hb0
  rw [show ((c + 1 : Nat) : Int) - 1 = (c : Int) by omega]
  go_wp2_with fail
  refine (HT.out u8 u8 out out _ HS.out HS.out HDo.out HDo.out).mono ?_
  rintro e w1 ⟨v1, rfl, ho1, hb1⟩
  have HO1 : Hid (Ms w1 v1 (tL out out)) := ho1
  have HB1 : Hid (Below w.heap.size w w1) := zS HBl.out hb1
  obtain ⟨E, hE⟩ : ∃ E, E = tE out out := ⟨_, rfl⟩
  have HE : Hid (E = tE out out) := hE
  rw [← hE]
  clear hE ho1 hb1
  by_cases hE0 : E = 0
  ·subst hE0
   have HDq : Hid (D (tL out out)) := HD.out _ _ HDo.out HDo.out HE.out.symm
   have hbit := bit_at n c h2 (by omega)
   by_cases hodd : n / 2 ^ c % 2 = 1
   ·have hbb : (bits BinOp.and IntKind.i64 ((n : Int) / 2 ^ c) 1 == 1) = true := by rw [hbit, hodd]; rfl
    have Hodd : Hid (n / 2 ^ c % 2 = 1) := hodd
    clear hbit hodd
    go_wp2_with fail
    refine (HT.out v1 v (tL out out) a _ HO1.out (HA.out.kp (zK HB1.out)) HDq.out HDa.out).mono ?_
    rintro e w2 ⟨v2, rfl, ho2, hb2⟩
    have HO2 : Hid (Ms w2 v2 (tL (tL out out) a)) := ho2
    have HB2 : Hid (Below w.heap.size w w2) := zS HB1.out hb2
    obtain ⟨F, hF⟩ : ∃ F, F = tE (tL out out) a := ⟨_, rfl⟩
    have HF : Hid (F = tE (tL out out) a) := hF
    rw [← hF]
    clear hF ho2 hb2
    by_cases hF0 : F = 0
    ·subst hF0
     have HDr : Hid (D (tL (tL out out) a)) := HD.out _ _ HDq.out HDa.out HF.out.symm
     go_wp2
     go_roundw
     case rel =>
      refine ⟨c, tL (tL out out) a, by first | rfl | go_num, by omega, HO2.out, HDr.out, ?_, HB2.out⟩
      rw [HP.out, powGo, if_pos HE.out.symm, if_pos Hodd.out, if_pos HF.out.symm]
     case measure => simp [intOf]
    have hb0 : (F != 0) = true := by rw [bne_iff_ne]; exact hF0
    have HFi : Hid (powGo tL tE [] a n (B - 1) a = ([], F)) := by
     show _ = _
     rw [HP.out, powGo, if_pos HE.out.symm, if_pos Hodd.out, if_neg (by rw [← HF.out]; exact hF0), ← HF.out]
    go_wp2
    go_ret2
    exact ⟨_, ret2i (by rw [HFi.out]), by rw [HFi.out]; exact Ms.nil _, HB2.out⟩
   have hbb : (bits BinOp.and IntKind.i64 ((n : Int) / 2 ^ c) 1 == 1) = false := by
    rw [hbit, zY]
    omega
   have Hodd : Hid (¬ n / 2 ^ c % 2 = 1) := hodd
   clear hbit hodd
   go_wp2
   go_roundw
   case rel =>
    refine ⟨c, tL out out, by first | rfl | go_num, by omega, HO1.out, HDq.out, ?_, HB1.out⟩
    rw [HP.out, powGo, if_pos HE.out.symm, if_neg Hodd.out]
   case measure => simp [intOf]
  have hb0 : (E != 0) = true := by rw [bne_iff_ne]; exact hE0
  have hb1 : (E == 0) = false := by rw [zY]; exact hE0
  have HFi : Hid (powGo tL tE [] a n (B - 1) a = ([], E)) := by
   show _ = _
   rw [HP.out, powGo, if_neg (by rw [← HE.out]; exact hE0), ← HE.out]
  go_wp2
  go_ret2
  exact ⟨_, ret2i (by rw [HFi.out]), by rw [HFi.out]; exact Ms.nil _, HB1.out⟩
end
def noughtB {β : Type} (es : List Int) (fs : List (List β)) : Bool := (List.zip es fs).any (fun p => decide (0 < p.1) && p.2.length == 0)
def worthGo {β : Type} (tL : List β → List β → List β) (tE : List β → List β → Int) : List Int → List (List β) → List β → List β × Int
 | [], _, c => (c, 0)
 | _ :: _, [], c => (c, 0)
 | n :: es, f :: fs, c =>
  if n = 0 then worthGo tL tE es fs c
  else if (powGo tL tE [] f n.toNat (Lib.bitLen n.toNat - 1) f).2 = 0 then
   if tE c (powGo tL tE [] f n.toNat (Lib.bitLen n.toNat - 1) f).1 = 0 then worthGo tL tE es fs (tL c (powGo tL tE [] f n.toNat (Lib.bitLen n.toNat - 1) f).1)
   else ([], tE c (powGo tL tE [] f n.toNat (Lib.bitLen n.toNat - 1) f).1)
  else ([], (powGo tL tE [] f n.toNat (Lib.bitLen n.toNat - 1) f).2)
def worthV {β : Type} (tL : List β → List β → List β) (tE : List β → List β → Int) (es : List Int) (fs : List (List β)) (c : List β) : List β × Int :=
 if noughtB es fs then ([], 0) else worthGo tL tE es fs c
theorem D_pow {α : Type} {tL : α → α → α} {tE : α → α → Int} {D : α → Prop} {nil a : α} {n : Nat} (hD : ∀ x y, D x → D y → tE x y = 0 → D (tL x y)) (ha : D a) : ∀ (b : Nat) (out : α), D out → (powGo tL tE nil a n b out).2 = 0 → D (powGo tL tE nil a n b out).1
 | 0, out, ho, _ => ho
 | b + 1, out, ho, h => by
  unfold powGo at h ⊢
  split at h
  ·rename_i h0
   rw [if_pos h0]
   split at h
   ·rename_i h1
    rw [if_pos h1]
    split at h
    ·rename_i h2
     rw [if_pos h2]
     exact D_pow hD ha b _ (hD _ _ (hD _ _ ho ho h0) ha h2) h
    rename_i h2
    exact absurd h h2
   rename_i h1
   rw [if_neg h1]
   exact D_pow hD ha b _ (hD _ _ ho ho h0) h
  rename_i h0
  exact absurd h h0
theorem nought_at {β : Type} {es : List Int} {fs : List (List β)} {k : Nat} {n : Int} {f : List β} (h : es[k]? = some n) (h' : fs[k]? = some f) (hn : 0 < n) (hf : f.length = 0) : noughtB es fs = true := by
 unfold noughtB
 rw [List.any_eq_true]
 refine ⟨(n, f), zD (i := k) ?_, by simp [hn, hf]⟩
 rw [List.getElem?_zip_eq_some]
 exact ⟨h, h'⟩
theorem nought_no {β : Type} {es : List Int} {fs : List (List β)} (h : ∀ (k : Nat) (n : Int) (f : List β), es[k]? = some n → fs[k]? = some f → 0 < n → ¬ f.length = 0) : noughtB es fs = false := by
 unfold noughtB
 rw [List.any_eq_false]
 intro p hp
 obtain ⟨k, hk⟩ := zW.1 hp
 rw [List.getElem?_zip_eq_some] at hk
 have := h k p.1 p.2 hk.1 hk.2
 simp
 intro h0 hnil
 exact this h0 (by rw [hnil]; rfl)
theorem xBW {β : Type} {tL : List β → List β → List β} {tE : List β → List β → Int} {es : List Int} {fs : List (List β)} {k : Nat} {n : Int} {f c : List β} (h : es[k]? = some n) (h' : fs[k]? = some f) :
  worthGo tL tE (es.drop k) (fs.drop k) c = worthGo tL tE (n :: es.drop (k + 1)) (f :: fs.drop (k + 1)) c := by rw [xAK h, xAK h']
section
variable {tL : List Nat → List Nat → List Nat} {tE : List Nat → List Nat → Int} {D : List Nat → Prop}
theorem worthN_any (g : FuncId) (v ev fv : Value) (c0 : List Nat) (es : List Int) (fs : List (List Nat)) (w : World) (ht : Times Sl D tL tE g) (hD : ∀ x y, D x → D y → tE x y = 0 → D (tL x y)) (h : Sl w v c0) (he : Is w ev es) (hf : RsY w fv fs) (hdc : D c0) (hdf : ∀ f ∈ fs, D f)
  (hs : Small es) (hlen : es.length ≤ fs.length) (eg : ∀ args w, (callFunc g args).run Tryz.prog w = .ok (.enter g args) w) :
  Calls Tryz.prog 69 #[v, ev, fv, .func (.func g) #[] #[]] w fun e w' => ∃ v', e = .returned (.tuple #[v', .int .i64 (worthV tL tE es fs c0).2]) ∧ Sl w' v' (worthV tL tE es fs c0).1 ∧ Below w.heap.size w w' := by
 obtain ⟨ao, cap, rfl, hao, hca, q0⟩ := Row.flat he
 obtain ⟨bo, cap', rfl, hbo, hcb, q0'⟩ := Row.flat hf
 unfold maxLen at hca hcb
 have HT : Hid (Times Sl D tL tE g) := ht
 have HD : Hid (∀ x y, D x → D y → tE x y = 0 → D (tL x y)) := hD
 have HC : Hid (Sl w v c0) := h
 have HI : Hid (Is w (.slice ao es.length cap) es) := he
 have HF : Hid (RsY w (.slice bo fs.length cap') fs) := hf
 have HDc : Hid (D c0) := hdc
 have HDf : Hid (∀ f ∈ fs, D f) := hdf
 have HS : Hid (Small es) := hs
 clear ht hD h he hf hdc hdf hs q0 q0'
 go_enter Tryz.func69, Tryz.ntmps69
 go_wp2
 go_loopw [18] (fun i wr => ∃ k : Nat, k ≤ es.length ∧ i = .int .i64 k ∧ (∀ (j : Nat) (n : Int) (f : List Nat), j < k → es[j]? = some n → fs[j]? = some f → 0 < n → ¬ f.length = 0) ∧ wr = w) (fun i _ => es.length - (intOf i).toNat)
 case atStart => exact ⟨0, by omega, rfl, fun j n f hj => absurd hj (by omega), rfl⟩
 case round =>
  obtain ⟨k, hk, rfl, hp, hw⟩ := hrel
  have hw8 := hw.symm
  subst hw8
  clear hw
  have HP : Hid (∀ (j : Nat) (n : Int) (f : List Nat), j < k → es[j]? = some n → fs[j]? = some f → 0 < n → ¬ f.length = 0) := hp
  clear hp
  by_cases hlt : k < es.length
  ·obtain ⟨g1, off1, n, rfl, hx1, hx2, hx3, hx4⟩ := HI.out.at hlt
   obtain ⟨g2, off2, f, a1, c1, rfl, hy1, hy2, hy3, hy4, hy5⟩ := HF.out.at (show k < fs.length by omega)
   have HX : Hid (es[k]? = some n) := hx1
   have HY : Hid (fs[k]? = some f) := hy1
   have hkf : k < fs.length := by omega
   clear hx1 hy1 hy3
   by_cases hn : 0 < n
   ·by_cases hf0 : f.length = 0
    ·have hfb : ((f.length : Int) == 0) = true := by rw [beq_iff_eq]; omega
     have HN : Hid (worthV tL tE es fs c0 = ([], 0)) := by
      show _ = _
      unfold worthV
      rw [if_pos (nought_at HX.out HY.out hn hf0)]
     clear hf0
     go_wp2
     go_ret2
     exact ⟨_, ret2i (by rw [HN.out]), by rw [HN.out]; exact Sl.nil _, Below.refl _ _⟩
    have hfb : ((f.length : Int) == 0) = false := by rw [zY]; omega
    go_wp2
    go_roundw
    case rel =>
     refine ⟨k + 1, by omega, by go_num, fun j m q hj h1 h2 h3 => ?_, trivial⟩
     by_cases hjk : j = k
     ·subst hjk; rw [HY.out] at h2; cases h2; exact hf0
     exact HP.out j m q (by omega) h1 h2 h3
    case measure => simp [intOf]; omega
   go_wp2
   go_roundw
   case rel =>
    refine ⟨k + 1, by omega, by go_num, fun j m q hj h1 h2 h3 => ?_, trivial⟩
    by_cases hjk : j = k
    ·subst hjk; rw [HX.out] at h1; cases h1; exact absurd h3 hn
    exact HP.out j m q (by omega) h1 h2 h3
   case measure => simp [intOf]; omega
  have hke : k = es.length := by omega
  subst hke
  have hno : noughtB es fs = false := nought_no (fun j n f h1 h2 h3 => HP.out j n f (zB.1 h1).1 h1 h2 h3)
  have HV : Hid (worthV tL tE es fs c0 = worthGo tL tE es fs c0) := by
   show _ = _
   unfold worthV
   rw [hno]
   rfl
  clear hno HP
  go_wp2
  go_loopw [0, 36] (fun x i wr => ∃ (l : Nat) (c : List Nat), l ≤ es.length ∧ i = .int .i64 l ∧ Sl wr x c ∧ D c ∧ worthGo tL tE es fs c0 = worthGo tL tE (es.drop l) (fs.drop l) c ∧ Below w.heap.size w wr) (fun _ i _ => es.length - (intOf i).toNat)
  case atStart => exact ⟨0, c0, by omega, rfl, HC.out, HDc.out, rfl, Below.refl _ _⟩
  case round =>
   obtain ⟨l, c, hl, rfl, hrc, hdc, hwg, hbl⟩ := hrel
   have HRc : Hid (Sl wr u0 c) := hrc
   have HDC : Hid (D c) := hdc
   have HW : Hid (worthGo tL tE es fs c0 = worthGo tL tE (es.drop l) (fs.drop l) c) := hwg
   have HBl : Hid (Below w.heap.size w wr) := hbl
   clear hrc hdc hwg hbl
   by_cases hll : l < es.length
   ·obtain ⟨g1, off1, n, rfl, hx1, hx2, hx3, hx4⟩ := (HI.out.kp (zK HBl.out)).at hll
    obtain ⟨g2, off2, f, a1, c1, rfl, hy1, hy2, hy3, hy4, hy5⟩ := (HF.out.kp (zK HBl.out)).at (show l < fs.length by omega)
    have HX : Hid (es[l]? = some n) := hx1
    have HY : Hid (fs[l]? = some f) := hy1
    have HFr : Hid (Sl wr (.slice a1 f.length c1) f) := hy3
    have hn64 := HS.out.2 l n hx1
    have hlf : l < fs.length := by omega
    have HDF : Hid (D f) := HDf.out f (zD hy1)
    clear hx1 hy1 hy3
    by_cases hn0 : n = 0
    ·subst hn0
     go_wp2
     go_roundw
     case rel =>
      refine ⟨l + 1, c, by omega, by go_num, HRc.out, HDC.out, ?_, HBl.out⟩
      rw [HW.out, xBW HX.out HY.out, worthGo, if_pos rfl]
     case measure => simp [intOf]; omega
    obtain ⟨N, rfl⟩ := Int.eq_ofNat_of_zero_le hn64.1
    have hnb : ((N : Int) == 0) = false := by rw [zY]; exact hn0
    have HN0 : Hid (¬ (N : Int) = 0) := hn0
    have hN1 : 1 ≤ N := by omega
    clear hn0
    go_wp2_with fail
    refine (powerN_any g _ f N _ HT.out HD.out HFr.out HDF.out hN1 (by omega) eg).mono ?_
    rintro e w1 ⟨v1, rfl, ho1, hb1⟩
    obtain ⟨PW, hPW⟩ : ∃ PW, PW = powGo tL tE [] f N (Lib.bitLen N - 1) f := ⟨_, rfl⟩
    rw [← hPW] at ho1 ⊢
    have HPW : Hid (PW = powGo tL tE [] f N (Lib.bitLen N - 1) f) := hPW
    have HO1 : Hid (Sl w1 v1 PW.1) := ho1
    have HB1 : Hid (Below w.heap.size w w1) := zS HBl.out hb1
    have HRc1 : Hid (Sl w1 u0 c) := HRc.out.kp (zK hb1)
    obtain ⟨E, hE⟩ : ∃ E, E = PW.2 := ⟨_, rfl⟩
    rw [← hE]
    have HE : Hid (E = PW.2) := hE
    clear hPW hE ho1 hb1
    by_cases hE0 : E = 0
    ·subst hE0
     have HDP : Hid (D PW.1) := by
      show D PW.1
      rw [HPW.out]
      exact D_pow HD.out HDF.out _ _ HDF.out (by rw [← HPW.out]; exact HE.out.symm)
     go_wp2_with fail
     refine (HT.out u0 v1 c PW.1 _ HRc1.out HO1.out HDC.out HDP.out).mono ?_
     rintro e w2 ⟨v2, rfl, ho2, hb2⟩
     have HO2 : Hid (Sl w2 v2 (tL c PW.1)) := ho2
     have HB2 : Hid (Below w.heap.size w w2) := zS HB1.out hb2
     obtain ⟨F, hF⟩ : ∃ F, F = tE c PW.1 := ⟨_, rfl⟩
     rw [← hF]
     have HFF : Hid (F = tE c PW.1) := hF
     clear hF ho2 hb2
     by_cases hF0 : F = 0
     ·subst hF0
      have HDn : Hid (D (tL c PW.1)) := HD.out _ _ HDC.out HDP.out HFF.out.symm
      go_wp2
      go_roundw
      case rel =>
       refine ⟨l + 1, tL c PW.1, by omega, by go_num, HO2.out, HDn.out, ?_, HB2.out⟩
       rw [HW.out, xBW HX.out HY.out, worthGo, if_neg HN0.out]
       simp only [Int.toNat_natCast]
       rw [← HPW.out, if_pos HE.out.symm, if_pos HFF.out.symm]
      case measure => simp [intOf]; omega
     have hb0 : (F != 0) = true := by rw [bne_iff_ne]; exact hF0
     have HFi : Hid (worthV tL tE es fs c0 = ([], F)) := by
      show _ = _
      rw [HV.out, HW.out, xBW HX.out HY.out, worthGo, if_neg HN0.out]
      simp only [Int.toNat_natCast]
      rw [← HPW.out, if_pos HE.out.symm, if_neg (by rw [← HFF.out]; exact hF0), ← HFF.out]
     go_wp2
     go_ret2
     exact ⟨_, ret2i (by rw [HFi.out]), by rw [HFi.out]; exact Sl.nil _, HB2.out⟩
    have hb0 : (E != 0) = true := by rw [bne_iff_ne]; exact hE0
    have hb1 : (E == 0) = false := by rw [zY]; exact hE0
    have HFi : Hid (worthV tL tE es fs c0 = ([], E)) := by
     show _ = _
     rw [HV.out, HW.out, xBW HX.out HY.out, worthGo, if_neg HN0.out]
     simp only [Int.toNat_natCast]
     rw [← HPW.out, if_neg (by rw [← HE.out]; exact hE0), ← HE.out]
    go_wp2
    go_ret2
    exact ⟨_, ret2i (by rw [HFi.out]), by rw [HFi.out]; exact Sl.nil _, HB1.out⟩
   have hle : l = es.length := by omega
   subst hle
   have HFi : Hid (worthV tL tE es fs c0 = (c, 0)) := by
    show _ = _
    rw [HV.out, HW.out, zP (Nat.le_refl _)]
    rfl
   go_wp2
   go_ret2
   exact ⟨_, ret2i (by rw [HFi.out]), by rw [HFi.out]; exact HRc.out, HBl.out⟩
end
section
variable {tL : List Mn → List Mn → List Mn} {tE : List Mn → List Mn → Int} {D : List Mn → Prop}
theorem worthM_any (g : FuncId) (v ev fv : Value) (c0 : List Mn) (es : List Int) (fs : List (List Mn)) (w : World) (ht : Times Ms D tL tE g) (hD : ∀ x y, D x → D y → tE x y = 0 → D (tL x y)) (h : Ms w v c0) (he : Is w ev es) (hf : Ps w fv fs) (hdc : D c0) (hdf : ∀ f ∈ fs, D f)
  (hs : Small es) (hlen : es.length ≤ fs.length) (eg : ∀ args w, (callFunc g args).run Tryz.prog w = .ok (.enter g args) w) :
  Calls Tryz.prog 64 #[v, ev, fv, .func (.func g) #[] #[]] w fun e w' => ∃ v', e = .returned (.tuple #[v', .int .i64 (worthV tL tE es fs c0).2]) ∧ Ms w' v' (worthV tL tE es fs c0).1 ∧ Below w.heap.size w w' := by
 obtain ⟨ao, cap, rfl, hao, hca, q0⟩ := Row.flat he
 obtain ⟨bo, cap', rfl, hbo, hcb, q0'⟩ := Row.flat hf
 unfold maxLen at hca hcb
 have HT : Hid (Times Ms D tL tE g) := ht
 have HD : Hid (∀ x y, D x → D y → tE x y = 0 → D (tL x y)) := hD
 have HC : Hid (Ms w v c0) := h
 have HI : Hid (Is w (.slice ao es.length cap) es) := he
 have HF : Hid (Ps w (.slice bo fs.length cap') fs) := hf
 have HDc : Hid (D c0) := hdc
 have HDf : Hid (∀ f ∈ fs, D f) := hdf
 have HS : Hid (Small es) := hs
 clear ht hD h he hf hdc hdf hs q0 q0'
 go_enter Tryz.func64, Tryz.ntmps64
 go_wp2
 go_loopw [18] (fun i wr => ∃ k : Nat, k ≤ es.length ∧ i = .int .i64 k ∧ (∀ (j : Nat) (n : Int) (f : List Mn), j < k → es[j]? = some n → fs[j]? = some f → 0 < n → ¬ f.length = 0) ∧ wr = w) (fun i _ => es.length - (intOf i).toNat)
 case atStart => exact ⟨0, by omega, rfl, fun j n f hj => absurd hj (by omega), rfl⟩
 case round =>
  obtain ⟨k, hk, rfl, hp, hw⟩ := hrel
  have hw8 := hw.symm
  subst hw8
  clear hw
  have HP : Hid (∀ (j : Nat) (n : Int) (f : List Mn), j < k → es[j]? = some n → fs[j]? = some f → 0 < n → ¬ f.length = 0) := hp
  clear hp
  by_cases hlt : k < es.length
  ·obtain ⟨g1, off1, n, rfl, hx1, hx2, hx3, hx4⟩ := HI.out.at hlt
   obtain ⟨g2, off2, f, a1, c1, rfl, hy1, hy2, hy3, hy4, hy5⟩ := HF.out.at (show k < fs.length by omega)
   have HX : Hid (es[k]? = some n) := hx1
   have HY : Hid (fs[k]? = some f) := hy1
   have hkf : k < fs.length := by omega
   clear hx1 hy1 hy3
   by_cases hn : 0 < n
   ·by_cases hf0 : f.length = 0
    ·have hfb : ((f.length : Int) == 0) = true := by rw [beq_iff_eq]; omega
     have HN : Hid (worthV tL tE es fs c0 = ([], 0)) := by
      show _ = _
      unfold worthV
      rw [if_pos (nought_at HX.out HY.out hn hf0)]
     clear hf0
     go_wp2
     go_ret2
     exact ⟨_, ret2i (by rw [HN.out]), by rw [HN.out]; exact Ms.nil _, Below.refl _ _⟩
    have hfb : ((f.length : Int) == 0) = false := by rw [zY]; omega
    go_wp2
    go_roundw
    case rel =>
     refine ⟨k + 1, by omega, by go_num, fun j m q hj h1 h2 h3 => ?_, trivial⟩
     by_cases hjk : j = k
     ·subst hjk; rw [HY.out] at h2; cases h2; exact hf0
     exact HP.out j m q (by omega) h1 h2 h3
    case measure => simp [intOf]; omega
   go_wp2
   go_roundw
   case rel =>
    refine ⟨k + 1, by omega, by go_num, fun j m q hj h1 h2 h3 => ?_, trivial⟩
    by_cases hjk : j = k
    ·subst hjk; rw [HX.out] at h1; cases h1; exact absurd h3 hn
    exact HP.out j m q (by omega) h1 h2 h3
   case measure => simp [intOf]; omega
  have hke : k = es.length := by omega
  subst hke
  have hno : noughtB es fs = false := nought_no (fun j n f h1 h2 h3 => HP.out j n f (zB.1 h1).1 h1 h2 h3)
  have HV : Hid (worthV tL tE es fs c0 = worthGo tL tE es fs c0) := by
   show _ = _
   unfold worthV
   rw [hno]
   rfl
  clear hno HP
  go_wp2
  go_loopw [0, 36] (fun x i wr => ∃ (l : Nat) (c : List Mn), l ≤ es.length ∧ i = .int .i64 l ∧ Ms wr x c ∧ D c ∧ worthGo tL tE es fs c0 = worthGo tL tE (es.drop l) (fs.drop l) c ∧ Below w.heap.size w wr) (fun _ i _ => es.length - (intOf i).toNat)
  case atStart => exact ⟨0, c0, by omega, rfl, HC.out, HDc.out, rfl, Below.refl _ _⟩
  case round =>
   obtain ⟨l, c, hl, rfl, hrc, hdc, hwg, hbl⟩ := hrel
   have HRc : Hid (Ms wr u0 c) := hrc
   have HDC : Hid (D c) := hdc
   have HW : Hid (worthGo tL tE es fs c0 = worthGo tL tE (es.drop l) (fs.drop l) c) := hwg
   have HBl : Hid (Below w.heap.size w wr) := hbl
   clear hrc hdc hwg hbl
   by_cases hll : l < es.length
   ·obtain ⟨g1, off1, n, rfl, hx1, hx2, hx3, hx4⟩ := (HI.out.kp (zK HBl.out)).at hll
    obtain ⟨g2, off2, f, a1, c1, rfl, hy1, hy2, hy3, hy4, hy5⟩ := (HF.out.kp (zK HBl.out)).at (show l < fs.length by omega)
    have HX : Hid (es[l]? = some n) := hx1
    have HY : Hid (fs[l]? = some f) := hy1
    have HFr : Hid (Ms wr (.slice a1 f.length c1) f) := hy3
    have hn64 := HS.out.2 l n hx1
    have hlf : l < fs.length := by omega
    have HDF : Hid (D f) := HDf.out f (zD hy1)
    clear hx1 hy1 hy3
    by_cases hn0 : n = 0
    ·subst hn0
     go_wp2
     go_roundw
     case rel =>
      refine ⟨l + 1, c, by omega, by go_num, HRc.out, HDC.out, ?_, HBl.out⟩
      rw [HW.out, xBW HX.out HY.out, worthGo, if_pos rfl]
     case measure => simp [intOf]; omega
    obtain ⟨N, rfl⟩ := Int.eq_ofNat_of_zero_le hn64.1
    have hnb : ((N : Int) == 0) = false := by rw [zY]; exact hn0
    have HN0 : Hid (¬ (N : Int) = 0) := hn0
    have hN1 : 1 ≤ N := by omega
    clear hn0
    go_wp2_with fail
    refine (powerM_any g _ f N _ HT.out HD.out HFr.out HDF.out hN1 (by omega) eg).mono ?_
    rintro e w1 ⟨v1, rfl, ho1, hb1⟩
    obtain ⟨PW, hPW⟩ : ∃ PW, PW = powGo tL tE [] f N (Lib.bitLen N - 1) f := ⟨_, rfl⟩
    rw [← hPW] at ho1 ⊢
    have HPW : Hid (PW = powGo tL tE [] f N (Lib.bitLen N - 1) f) := hPW
    have HO1 : Hid (Ms w1 v1 PW.1) := ho1
    have HB1 : Hid (Below w.heap.size w w1) := zS HBl.out hb1
    have HRc1 : Hid (Ms w1 u0 c) := HRc.out.kp (zK hb1)
    obtain ⟨E, hE⟩ : ∃ E, E = PW.2 := ⟨_, rfl⟩
    rw [← hE]
    have HE : Hid (E = PW.2) := hE
    clear hPW hE ho1 hb1
    by_cases hE0 : E = 0
    ·subst hE0
     have HDP : Hid (D PW.1) := by
      show D PW.1
      rw [HPW.out]
      exact D_pow HD.out HDF.out _ _ HDF.out (by rw [← HPW.out]; exact HE.out.symm)
     go_wp2_with fail
     refine (HT.out u0 v1 c PW.1 _ HRc1.out HO1.out HDC.out HDP.out).mono ?_
     rintro e w2 ⟨v2, rfl, ho2, hb2⟩
     have HO2 : Hid (Ms w2 v2 (tL c PW.1)) := ho2
     have HB2 : Hid (Below w.heap.size w w2) := zS HB1.out hb2
     obtain ⟨F, hF⟩ : ∃ F, F = tE c PW.1 := ⟨_, rfl⟩
     rw [← hF]
     have HFF : Hid (F = tE c PW.1) := hF
     clear hF ho2 hb2
     by_cases hF0 : F = 0
     ·subst hF0
      have HDn : Hid (D (tL c PW.1)) := HD.out _ _ HDC.out HDP.out HFF.out.symm
      go_wp2
      go_roundw
      case rel =>
       refine ⟨l + 1, tL c PW.1, by omega, by go_num, HO2.out, HDn.out, ?_, HB2.out⟩
       rw [HW.out, xBW HX.out HY.out, worthGo, if_neg HN0.out]
       simp only [Int.toNat_natCast]
       rw [← HPW.out, if_pos HE.out.symm, if_pos HFF.out.symm]
      case measure => simp [intOf]; omega
     have hb0 : (F != 0) = true := by rw [bne_iff_ne]; exact hF0
     have HFi : Hid (worthV tL tE es fs c0 = ([], F)) := by
      show _ = _
      rw [HV.out, HW.out, xBW HX.out HY.out, worthGo, if_neg HN0.out]
      simp only [Int.toNat_natCast]
      rw [← HPW.out, if_pos HE.out.symm, if_neg (by rw [← HFF.out]; exact hF0), ← HFF.out]
     go_wp2
     go_ret2
     exact ⟨_, ret2i (by rw [HFi.out]), by rw [HFi.out]; exact Ms.nil _, HB2.out⟩
    have hb0 : (E != 0) = true := by rw [bne_iff_ne]; exact hE0
    have hb1 : (E == 0) = false := by rw [zY]; exact hE0
    have HFi : Hid (worthV tL tE es fs c0 = ([], E)) := by
     show _ = _
     rw [HV.out, HW.out, xBW HX.out HY.out, worthGo, if_neg HN0.out]
     simp only [Int.toNat_natCast]
     rw [← HPW.out, if_neg (by rw [← HE.out]; exact hE0), ← HE.out]
    go_wp2
    go_ret2
    exact ⟨_, ret2i (by rw [HFi.out]), by rw [HFi.out]; exact Ms.nil _, HB1.out⟩
   have hle : l = es.length := by omega
   subst hle
   have HFi : Hid (worthV tL tE es fs c0 = (c, 0)) := by
    show _ = _
    rw [HV.out, HW.out, zP (Nat.le_refl _)]
    rfl
   go_wp2
   go_ret2
   exact ⟨_, ret2i (by rw [HFi.out]), by rw [HFi.out]; exact HRc.out, HBl.out⟩
end
def DomM (p : List Mn) : Prop := ∀ (k : Nat) (m : Mn), p[k]? = some m → Small m.2
def KeysLe (L : LkY) : Prop := ∀ p ∈ L, p.1.length = 512 ∧ ∀ x ∈ p.1, x ≤ 64
theorem mem_insK' {L : LkY} {k c : List Nat} {q : List Nat × List Nat} (h : q ∈ insK L k c) : q = (k, c) ∨ q ∈ L := by
 induction L with
 | nil => simp [insK] at h; exact .inl h
 | cons p r ih =>
  unfold insK at h
  split at h
  ·rcases yB.1 h with h | h
   ·exact .inl h
   exact .inr (by simp [h])
  split at h
  ·rcases yB.1 h with h | h
   ·exact .inl h
   exact .inr h
  rcases yB.1 h with h | h
  ·exact .inr (by simp [h])
  rcases ih h with h | h
  ·exact .inl h
  exact .inr (by simp [h])
theorem xGH {L : LkY} {k c : List Nat} (h : KeysLe L) (hk : k.length = 512 ∧ ∀ x ∈ k, x ≤ 64) : KeysLe (putL L k c) := by
 unfold putL
 split
 ·intro q hq
  rcases mem_insK' hq with rfl | hq
  ·exact hk
  exact h q hq
 exact h
theorem raised_le {ks : List Nat} {es : List Int} (hk : ks.length = 512) (hs : Small es) (h0 : raisedE ks es = 0) : (raisedK ks es).length = 512 ∧ ∀ x ∈ raisedK ks es, x ≤ 64 := by
 refine ⟨len_raised hk hs, ?_⟩
 have ha : (addK ks (keyX es)).all (fun n => decide (n ≤ 64)) = true := by
  unfold raisedE at h0
  split at h0
  ·assumption
  omega
 unfold raisedK
 rw [if_pos ha]
 rw [List.all_eq_true] at ha
 intro x hx
 simpa using ha x hx
theorem keysLe_prodIn {m : Mn} (hm : Small m.2) {q : List Mn} : DomM q → ∀ {L : LkY}, KeysLe L → KeysLe (prodIn m L q).1 := by
 induction q with
 | nil => intro _ L h; exact h
 | cons n r ih =>
  intro hq L h
  have hn : Small n.2 := hq 0 n rfl
  have hr : DomM r := fun k m hk => hq (k + 1) m hk
  unfold prodIn
  split
  ·rename_i h0
   have hk := xGH (c := mulL m.1 n.1) h (raised_le (xBB hm.1) hn h0)
   split
   ·split
    ·exact ih hr hk
    exact hk
   exact h
  exact h
theorem keysLe_prods {q : List Mn} (hq : DomM q) {p : List Mn} : DomM p → ∀ {L : LkY}, KeysLe L → KeysLe (prods q L p).1 := by
 induction p with
 | nil => intro _ L h; exact h
 | cons m r ih =>
  intro hp L h
  have hm : Small m.2 := hp 0 m rfl
  have hr : DomM r := fun k m hk => hp (k + 1) m hk
  unfold prods
  split
  ·exact ih hr (keysLe_prodIn hm hq h)
  exact keysLe_prodIn hm hq h
theorem small_unX {ks : List Nat} (h : ks.length = 512 ∧ ∀ x ∈ ks, x ≤ 64) : Small (unX ks) := by
 refine ⟨by unfold unX; simp; omega, fun k x hk => ?_⟩
 unfold unX at hk
 rw [zU] at hk
 cases hy : (ks.take (topK ks))[k]? with
 | none => rw [hy] at hk; cases hk
 | some y =>
  rw [hy] at hk
  have hy2 := h.2 y (List.mem_of_mem_take (zD hy))
  simp at hk
  omega
theorem domM_row {L : LkY} (h : KeysLe L) : DomM (rowLY L) := by
 intro k m hk
 unfold rowLY at hk
 rw [zU] at hk
 cases hp : L[k]? with
 | none => rw [hp] at hk; cases hk
 | some p =>
  rw [hp] at hk
  simp at hk
  subst hk
  exact small_unX (h p (zD hp))
theorem domM_nil : DomM [] := fun k m h => by simp at h
theorem domM_prod (p q : List Mn) (hp : DomM p) (hq : DomM q) (h0 : prodE p q = 0) : DomM (prodL p q) := by
 unfold prodL
 rw [if_pos h0]
 exact domM_row (keysLe_prods hq hp (fun p h => by cases h))
theorem timesM : Times Ms DomM prodL prodE 65 := fun v u a b w h h' ha hb =>
 (pprod_any v u a b w h h' ha hb).mono fun _ _ ⟨v', he, ho, hbl⟩ => ⟨v', he, ho.ms, hbl⟩
theorem timesN : Times Sl (fun _ => True) mulL mulE 70 := fun v u a b w h h' _ _ =>
 (mul_any v u a b w h h').mono fun _ _ ⟨v', he, ho, hbl⟩ => ⟨v', he, ho.sl, hbl⟩
theorem enterM : ∀ args w, (callFunc 65 args).run Tryz.prog w = .ok (.enter 65 args) w := enters_of Tryz.func65 (by kernel_rfl) rfl
theorem enterN : ∀ args w, (callFunc 70 args).run Tryz.prog w = .ok (.enter 70 args) w := enters_of Tryz.func70 (by kernel_rfl) rfl
theorem D_worth {β : Type} {tL : List β → List β → List β} {tE : List β → List β → Int} {D : List β → Prop} (hD : ∀ x y, D x → D y → tE x y = 0 → D (tL x y)) : ∀ (es : List Int) (fs : List (List β)) (c : List β), (∀ f ∈ fs, D f) → D c → (worthGo tL tE es fs c).2 = 0 → D (worthGo tL tE es fs c).1
 | [], _, c, _, hc, _ => by unfold worthGo; exact hc
 | _ :: _, [], c, _, hc, _ => by unfold worthGo; exact hc
 | n :: es, f :: fs, c, hf, hc, h => by
  unfold worthGo at h ⊢
  split at h
  ·rename_i h0
   rw [if_pos h0]
   exact D_worth hD es fs c (fun x hx => hf x (by simp [hx])) hc h
  rename_i h0
  rw [if_neg h0]
  split at h
  ·rename_i h1
   rw [if_pos h1]
   split at h
   ·rename_i h2
    rw [if_pos h2]
    have hff := hf f (by simp)
    exact D_worth hD es fs _ (fun x hx => hf x (by simp [hx])) (hD _ _ hc (D_pow hD hff _ _ hff h1) h2) h
   rename_i h2
   exact absurd h h2
  rename_i h1
  exact absurd h h1
def compGo (args : List (List Mn)) : LkY → List Mn → LkY × Int
 | L, [] => (L, 0)
 | L, m :: r =>
  if (worthV prodL prodE m.2 args [(m.1, [])]).2 = 0 then
   if (puts L (worthV prodL prodE m.2 args [(m.1, [])]).1).2 = 0 then compGo args (puts L (worthV prodL prodE m.2 args [(m.1, [])]).1).1 r
   else puts L (worthV prodL prodE m.2 args [(m.1, [])]).1
  else (L, (worthV prodL prodE m.2 args [(m.1, [])]).2)
def compE (p : List Mn) (args : List (List Mn)) : Int :=
 if checkAllE [p] = 0 then if checkAllE args = 0 then if varsN p ≤ args.length then (compGo args [] p).2 else 21 else checkAllE args else checkAllE [p]
def compL (p : List Mn) (args : List (List Mn)) : List Mn := if compE p args = 0 then rowLY (compGo args [] p).1 else []
def valGo (at_ : List (List Nat)) : List Nat → List Mn → List Nat × Int
 | t, [] => (t, 0)
 | t, m :: r =>
  if (worthV mulL mulE m.2 at_ m.1).2 = 0 then
   if addE t (worthV mulL mulE m.2 at_ m.1).1 = 0 then valGo at_ (addL t (worthV mulL mulE m.2 at_ m.1).1) r
   else ([], addE t (worthV mulL mulE m.2 at_ m.1).1)
  else ([], (worthV mulL mulE m.2 at_ m.1).2)
def valE (p : List Mn) (at_ : List (List Nat)) : Int :=
 if checkAllE [p] = 0 then if varsN p ≤ at_.length then if at_.all rightB then (valGo at_ [] p).2 else 10 else 21 else checkAllE [p]
def valL (p : List Mn) (at_ : List (List Nat)) : List Nat := if valE p at_ = 0 then (valGo at_ [] p).1 else []
theorem checkAll1 {p : List Mn} (h : checkAllE [p] = 0) : checkE p 9223372036854775807 = 0 := by
 unfold checkAllE at h
 split at h
 ·assumption
 rename_i h1
 exact absurd h h1
theorem xFD : ∀ {ps : List (List Mn)}, checkAllE ps = 0 → ∀ p ∈ ps, DomM p
 | [], _, p, hp => by cases hp
 | q :: r, h, p, hp => by
  unfold checkAllE at h
  split at h
  ·rename_i h1
   rcases yB.1 hp with rfl | hp
   ·exact xCN h1
   exact xFD h p hp
  rename_i h1
  exact absurd h h1
theorem varsN_ge {p : List Mn} : ∀ {k : Nat} {m : Mn}, p[k]? = some m → m.2.length ≤ varsN p := by
 intro k m hk
 have h1 := varsN_step hk
 have h2 : ∀ (l : List Mn) (a : Nat), a ≤ l.foldl (fun a m => max a m.2.length) a := by
  intro l
  induction l with
  | nil => intro a; simp
  | cons x r ih => intro a; simp only [List.foldl_cons]; exact Nat.le_trans (by omega) (ih _)
 have h3 : varsN (p.take (k + 1)) ≤ varsN p := by
  conv => rhs; rw [← zQ (k + 1) p]
  unfold varsN
  rw [List.foldl_append]
  exact h2 _ _
 omega
end Go.Proofs.YtdjmjhlbjcgoiaaGreatDoor
