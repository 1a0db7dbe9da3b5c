/- Texts of the proof, one behind the other. -/
import Derived.Test.YtdjmjhlbjcgoiaaGreatDoorOwn21
import Derived.Test.YtdjmjhlbjcgoiaaGreatDoorOwn22
import Derived.Test.YtdjmjhlbjcgoiaaGreatDoorOwn4
import Derived.Shelf.Strings.Prefix
import Derived.Test.YtdjmjhlbjcgoiaaGreatDoorOwn15
import Derived.Test.YtdjmjhlbjcgoiaaGreatDoorOwn6
import Derived.Test.YtdjmjhlbjcgoiaaGreatDoorOwn18
import Derived.Ground.Names2Prog
import Derived.Shelf.Slices.CompactI
set_option maxRecDepth 1000000
set_option maxHeartbeats 6400000
namespace Go.Proofs.YtdjmjhlbjcgoiaaGreatDoor
open Go.RowKit Go.Maps
theorem seg_same {X M S Y : List Rx} (h : M.length = S.length) {k : Nat} (hk : k < X.length ∨ X.length + S.length ≤ k) : (X ++ M ++ Y)[k]? = (X ++ S ++ Y)[k]? := by
 rw [zR, zR]
 rcases hk with hk | hk
 ·rw [zN hk, zN hk]
 rw [zM (by omega), zM (by omega), zM (by omega), zM (by omega), h]
theorem seg_up {X M Y : List Rx} (h : UpS M) : UpI (X ++ M ++ Y) X.length (X.length + M.length) := fun i j x y hi hij hj hx hy => by
 rw [zR, zM hi, zN (by omega)] at hx
 rw [zR, zM (by omega), zN (by omega)] at hy
 obtain ⟨h1, rfl⟩ := zB.1 hx
 obtain ⟨h2, rfl⟩ := zB.1 hy
 exact (List.pairwise_iff_getElem.1 h) _ _ h1 h2 (by omega)
theorem up_of_seg {X S Y : List Rx} (h : UpI (X ++ S ++ Y) X.length (X.length + S.length)) : UpS S := by
 unfold UpS
 rw [List.pairwise_iff_getElem]
 intro i j hi hj hij
 refine h (X.length + i) (X.length + j) _ _ (by omega) (by omega) (by omega) ?_ ?_
 ·rw [zR, zM (by omega), zN (by omega), Nat.add_sub_cancel_left]
  exact zC hi
 rw [zR, zM (by omega), zN (by omega), Nat.add_sub_cancel_left]
 exact zC hj
theorem three {d : List Rx} {a b : Nat} (h1 : a ≤ b) (h2 : b ≤ d.length) : ∃ X S Y, d = X ++ S ++ Y ∧ X.length = a ∧ a + S.length = b ∧ b + Y.length = d.length := by
 obtain ⟨X, U, V, Y, hd, hX, hU, hV, _⟩ := four (d := d) h1 (Nat.le_refl b) h2
 have hV0 : V = [] := zE (by omega)
 subst hV0
 refine ⟨X, U, Y, by simpa using hd, hX, by omega, ?_⟩
 rw [hd]
 simp
 omega
def Bd1 (d : List Rx) (w T : Nat) : Prop := ∀ t, t < T → UpI d (t * w) (t * w + w)
def Bl (d : List Rx) (w : Nat) : Prop := ∀ t, UpI d (t * w) (t * w + w)
theorem beyond {d : List Rx} {a b : Nat} (h : d.length ≤ a) : UpI d a b := fun i j x y hi hij hj hx hy => by
 have := (zB.1 hx).1
 omega
theorem one_left {d : List Rx} {a b c : Nat} (h : UpI d a c) (h2 : d.length ≤ c) : UpI d a b := fun i j x y hi hij hj hx hy => by
 have := (zB.1 hy).1
 exact h i j x y hi hij (by omega) hx hy
theorem bd1_step {X M S Y : List Rx} {w T : Nat} (h : Bd1 (X ++ S ++ Y) w T) (hX : X.length = T * w) (hl : M.length = S.length) (hS : S.length = w) (hM : UpS M) : Bd1 (X ++ M ++ Y) w (T + 1) := fun t ht => by
 by_cases e : t = T
 ·subst e
  have h9 := seg_up (X := X) (Y := Y) hM
  rw [hX, hl, hS] at h9
  exact h9
 have hle : t * w + w ≤ T * w := by
  have := Nat.mul_le_mul_right w (show t + 1 ≤ T by omega)
  rw [Nat.add_mul, Nat.one_mul] at this
  exact this
 exact (h t (by omega)).same (fun k h1 h2 => seg_same hl (.inl (by omega)))
theorem bd1_last {X M S : List Rx} {w T : Nat} (h : Bd1 (X ++ S) w T) (hX : X.length = T * w) (hl : M.length = S.length) (hS : S.length < w) (hM : UpS M) : Bl (X ++ M) w := fun t => by
 rcases Nat.lt_trichotomy t T with e | e | e
 ·have hle : t * w + w ≤ T * w := by
   have := Nat.mul_le_mul_right w (show t + 1 ≤ T by omega)
   rw [Nat.add_mul, Nat.one_mul] at this
   exact this
  refine (h t e).same (fun k h1 h2 => ?_)
  have h9 := seg_same (X := X) (Y := []) hl (k := k) (.inl (by omega))
  simpa using h9
 ·subst e
  have h9 := seg_up (X := X) (Y := []) hM
  rw [hX, zV] at h9
  exact one_left h9 (by rw [zF, hX]; exact Nat.le_refl _)
 have hle : T * w + w ≤ t * w := by
  have := Nat.mul_le_mul_right w (show T + 1 ≤ t by omega)
  rw [Nat.add_mul, Nat.one_mul] at this
  exact this
 exact beyond (by rw [zF, hX, hl]; omega)
structure Ph (d : List Rx) (w T : Nat) : Prop where
 done : Bd1 d (2 * w) T
 rest : ∀ t, 2 * T ≤ t → UpI d (t * w) (t * w + w)
theorem ph_start {d : List Rx} {w : Nat} (h : Bl d w) : Ph d w 0 := ⟨fun _ ht => absurd ht (Nat.not_lt_zero _), fun t _ => h t⟩
theorem ph_up {X U V Y : List Rx} {w T : Nat} (h : Ph (X ++ U ++ V ++ Y) w T) (hX : X.length = T * (2 * w)) (hU : U.length = w) (hV : V.length ≤ w) : UpS U ∧ UpS V := by
 have e1 : (2 * T) * w = T * (2 * w) := by rw [Nat.mul_comm 2 T, Nat.mul_assoc]
 have e2 : (2 * T + 1) * w = T * (2 * w) + w := by rw [Nat.add_mul, e1, Nat.one_mul]
 have h1 := h.rest (2 * T) (Nat.le_refl _)
 have h2 := h.rest (2 * T + 1) (by omega)
 rw [e1, ← hX] at h1
 rw [e2, ← hX] at h2
 constructor
 ·refine up_of_seg (X := X) (Y := V ++ Y) ?_
  rw [hU, ← zR]
  exact h1
 refine up_of_seg (X := X ++ U) (Y := Y) ?_
 rw [zF, hU]
 exact h2.sub (Nat.le_refl _) (by omega)
theorem ph_step {X M S Y : List Rx} {w T : Nat} (h : Ph (X ++ S ++ Y) w T) (hX : X.length = T * (2 * w)) (hl : M.length = S.length) (hS : S.length = 2 * w) (hM : UpS M) : Ph (X ++ M ++ Y) w (T + 1) := by
 refine ⟨bd1_step h.done hX hl hS hM, fun t ht => (h.rest t (by omega)).same (fun k h1 _ => seg_same hl (.inr ?_))⟩
 have e1 : (2 * T) * w = T * (2 * w) := by rw [Nat.mul_comm 2 T, Nat.mul_assoc]
 have e2 : (2 * (T + 1)) * w = T * (2 * w) + 2 * w := by rw [Nat.mul_add, Nat.add_mul, e1]
 have := Nat.mul_le_mul_right w ht
 omega
theorem ph_last {X M S : List Rx} {w T : Nat} (h : Ph (X ++ S) w T) (hX : X.length = T * (2 * w)) (hl : M.length = S.length) (hS : S.length < 2 * w) (hM : UpS M) : Bl (X ++ M) (2 * w) := bd1_last h.done hX hl hS hM
theorem ph_alone {X S : List Rx} {w T : Nat} (h : Ph (X ++ S) w T) (hX : X.length = T * (2 * w)) (hS : S.length ≤ w) (hw : 0 < w) : Bl (X ++ S) (2 * w) := by
 refine ph_last h hX rfl (by omega) ?_
 have e1 : (2 * T) * w = T * (2 * w) := by rw [Nat.mul_comm 2 T, Nat.mul_assoc]
 have h1 := h.rest (2 * T) (Nat.le_refl _)
 rw [e1, ← hX] at h1
 refine up_of_seg (X := X) (Y := []) ?_
 rw [zV]
 exact h1.sub (Nat.le_refl _) (by omega)
theorem bl_up {d : List Rx} {w : Nat} (h : Bl d w) (hw : d.length ≤ w) : UpS d := by
 have h1 := h 0
 rw [Nat.zero_mul, Nat.zero_add] at h1
 exact (h1.sub (Nat.le_refl _) hw).up
end Go.Proofs.YtdjmjhlbjcgoiaaGreatDoor
namespace Go.Proofs.YtdjmjhlbjcgoiaaGreatDoor
open Go.RowKit Go.Maps Go.BigFrame
theorem xEM (v cv : Value) (a : Nat) (w : World) (ha : a ≤ 1152921504606846976) :
  Calls Tryz.prog 162 #[v, .int .i64 (a : Int), .int .i64 (a : Int), cv] w fun e w' => e = .returned (.tuple #[]) ∧ w' = w := by
 have ha1 : IntKind.i64.wrap ((a : Int) + 1) = ((a + 1 : Nat) : Int) := by rw [yA _ ⟨by omega, by omega⟩]; omega
 have hd : decide (((a + 1 : Nat) : Int) < (a : Int)) = false := by simpa using (show ¬ ((a + 1 : Nat) : Int) < (a : Int) by omega)
 obtain ⟨B, hB⟩ : ∃ B, B = a + 1 := ⟨_, rfl⟩
 rw [← hB] at ha1 hd
 have hn : ¬ B < a := by omega
 clear hB
 go_enter Tryz.func162, Tryz.ntmps162
 go_wp2
 go_loopw [8] (fun iv wr => iv = .int .i64 (B : Int) ∧ wr = w) (fun _ _ => 0)
 case atStart => exact ⟨rfl, rfl⟩
 case round =>
  obtain ⟨rfl, hw⟩ := hrel
  have hw8 := hw.symm
  subst hw8
  go_wp2
  go_end0
  exact ⟨rfl, rfl⟩
theorem xFW (g cap base a b L : Nat) (X U Y : List Rx) (w : World) (hX : X.length = a) (hU : a + U.length = b) (hL : b + Y.length = L) (h : OX w base (.slice (some ⟨g, 0, none⟩) L cap) (X ++ U ++ Y)) (hc : L ≤ cap) (hc2 : cap ≤ 9223372036854775807) (hc3 : L ≤ 1152921504606846976) :
  Calls Tryz.prog 162 #[.slice (some ⟨g, 0, none⟩) L cap, .int .i64 (a : Int), .int .i64 (b : Int), cmpF] w fun e w' => ∃ M, e = .returned (.tuple #[]) ∧ Mg U [] M ∧ OX w' base (.slice (some ⟨g, 0, none⟩) L cap) (X ++ M ++ Y) ∧ w.grownBy w' (some g) := by
 by_cases h0 : U.length = 0
 ·obtain rfl : U = [] := zE h0
  obtain rfl : a = b := by simpa using hU
  refine (xEM _ _ a w (by omega)).mono ?_
  rintro e w' ⟨rfl, rfl⟩
  exact ⟨[], rfl, xDO List.Pairwise.nil, by simpa using h, World.grownBy.refl _ _⟩
 exact insertion_any g cap base a b L X U Y w hX hU hL (by omega) h hc hc2 hc3
theorem stable_any (g cap base L : Nat) (d : List Rx) (w : World) (h : OX w base (.slice (some ⟨g, 0, none⟩) L cap) d) (hc : L ≤ cap) (hc2 : cap ≤ 9223372036854775807) (hc3 : L ≤ 1152921504606846976) :
  Calls Tryz.prog 130 #[.slice (some ⟨g, 0, none⟩) L cap, .int .i64 (L : Int), cmpF] w fun e w' => ∃ M, e = .returned (.tuple #[]) ∧ (UpS M ∧ Fil M d) ∧ OX w' base (.slice (some ⟨g, 0, none⟩) L cap) M ∧ w.grownBy w' (some g) := by
 have HO := hid h
 have HSy := hid (symMerge_all g cap base L hc hc2 hc3)
 clear h
 go_enter Tryz.func130, Tryz.ntmps130
 go_wp2
 go_loopw [7, 8] (fun av bv wr => ∃ (T A B : Nat) (d' : List Rx), av = .int .i64 A ∧ bv = .int .i64 B ∧ A = T * 20 ∧ B = A + 20 ∧ A ≤ L ∧ Bd1 d' 20 T ∧ Fil d' d ∧ OX wr base (.slice (some ⟨g, 0, none⟩) L cap) d' ∧ w.grownBy wr (some g)) (fun _ bv _ => L + 20 - (intOf bv).toNat)
 case atStart => exact ⟨0, 0, 20, d, rfl, rfl, rfl, rfl, Nat.zero_le _, fun t ht => absurd ht (Nat.not_lt_zero _), Fil.refl _, HO.out, World.grownBy.refl _ _⟩
 case round =>
  obtain ⟨T, A, B, d', rfl, rfl, hA, hB, hAL, hbd, hfil, how, hgr⟩ := hrel
  have HE := hid (show A = T * 20 ∧ B = A + 20 from ⟨hA, hB⟩)
  have HBd := hid hbd
  have HF := hid hfil
  have HW := hid how
  have HG := hid hgr
  have hAB : A ≤ B := by omega
  clear hbd hfil how hgr
  by_cases hlt : B ≤ L
  ·have hd : decide ((B : Int) ≤ (L : Int)) = true := by simpa using hlt
   obtain ⟨X, S, Y, hd', hX, hS, hY⟩ := three (d := d') hAB (by rw [HW.out.len]; exact hlt)
   rw [HW.out.len] at hY
   rw [hd'] at HW HBd HF
   have HI := hid (xFW g cap base A B L X S Y wr hX hS hY HW.out hc hc2 hc3)
   have HS := hid (show X.length = A ∧ A + S.length = B ∧ B + Y.length = L from ⟨hX, hS, hY⟩)
   have hBw : IntKind.i64.wrap ((B : Int) + 20) = ((B + 20 : Nat) : Int) := by rw [yA _ ⟨by omega, by omega⟩]; omega
   clear hd' hX hS hY hA hB
   go_wp2_with fail
   refine HI.out.mono ?_
   rintro e w1 ⟨M, rfl, m1, o1, g1⟩
   have hml := m1.len
   have HN := hid (bd1_step (X := X) (M := M) (S := S) (Y := Y) HBd.out (by have := HS.out; have := HE.out; omega) (by simpa using hml) (by have := HS.out; have := HE.out; omega) m1.1)
   have HNf : Hid (Fil (X ++ M ++ Y) d) := (((Fil.refl X).app (by have h9 := m1.2; rw [zV] at h9; exact h9)).app (Fil.refl Y)).trans HF.out
   have O1 := hid o1
   have G1 := hid (HG.out.trans g1)
   clear m1 o1 g1 hml HI
   go_wp2
   go_roundw
   case rel => exact ⟨T + 1, B, B + 20, _, rfl, by go_num, by have := HE.out; omega, rfl, hlt, HN.out, HNf.out, O1.out, G1.out⟩
   case measure => simp only [intOf]; omega
  have hd : decide ((B : Int) ≤ (L : Int)) = false := by simpa using (show ¬ (B : Int) ≤ (L : Int) by omega)
  obtain ⟨X, S, Y, hd', hX, hS, hY⟩ := three (d := d') hAL (by rw [HW.out.len]; exact Nat.le_refl _)
  rw [HW.out.len] at hY
  obtain rfl : Y = [] := zE (by omega)
  rw [hd'] at HW HBd HF
  have HI := hid (xFW g cap base A L L X S [] wr hX hS (by simp) HW.out hc hc2 hc3)
  have HS := hid (show X.length = A ∧ A + S.length = L from ⟨hX, hS⟩)
  clear hd' hX hS hY hA hB
  go_wp2_with fail
  refine HI.out.mono ?_
  rintro e w1 ⟨M, rfl, m1, o1, g1⟩
  have hml := m1.len
  have HN : Hid (Bl (X ++ M) 20) := by
   have h9 := HBd.out
   rw [zV] at h9
   exact bd1_last h9 (by have := HS.out; have := HE.out; omega) (by simpa using hml) (by have := HS.out; have := HE.out; omega) m1.1
  have HNf : Hid (Fil (X ++ M) d) := by
   have h9 := m1.2
   have h8 := HF.out
   rw [zV] at h9 h8
   exact ((Fil.refl X).app h9).trans h8
  have O1 : Hid (OX w1 base (.slice (some ⟨g, 0, none⟩) L cap) (X ++ M)) := by have h9 := o1; rw [zV] at h9; exact h9
  have G1 := hid (HG.out.trans g1)
  clear m1 o1 g1 hml HI HBd HF HW HG HE HS hAB hlt hd
  generalize X ++ M = d1 at HN HNf O1
  go_wp2
  go_loopw [6] (fun bv wr => ∃ (bs : Nat) (d' : List Rx), bv = .int .i64 bs ∧ 0 < bs ∧ bs ≤ 2 * L + 20 ∧ Bl d' bs ∧ Fil d' d ∧ OX wr base (.slice (some ⟨g, 0, none⟩) L cap) d' ∧ w.grownBy wr (some g)) (fun bv _ => L - (intOf bv).toNat)
  case atStart => exact ⟨20, d1, rfl, by omega, by omega, HN.out, HNf.out, O1.out, G1.out⟩
  case round =>
   obtain ⟨bs, d', rfl, hbs, hbs2, hbl, hfil, how, hgr⟩ := hrel
   have HBl := hid hbl
   have HF := hid hfil
   have HW := hid how
   have HG := hid hgr
   clear hbl hfil how hgr HN HNf O1 G1
   by_cases hlt : bs < L
   ·have hd : decide ((bs : Int) < (L : Int)) = true := by simpa using hlt
    obtain ⟨W2, hW2⟩ : ∃ W2, W2 = 2 * bs := ⟨_, rfl⟩
    have hw2 : IntKind.i64.wrap (2 * (bs : Int)) = (W2 : Int) := by rw [yA _ ⟨by omega, by omega⟩]; omega
    have hw3 : IntKind.i64.wrap ((bs : Int) * 2) = (W2 : Int) := by rw [yA _ ⟨by omega, by omega⟩]; omega
    have HW2 := hid hW2
    have hW2a : bs < W2 := by omega
    have hW2b : W2 ≤ 2 * L := by omega
    clear hW2
    go_wp2
    go_loopw [7, 8] (fun av bv wr => ∃ (T A B : Nat) (d' : List Rx), av = .int .i64 A ∧ bv = .int .i64 B ∧ A = T * (2 * bs) ∧ B = A + W2 ∧ A ≤ L ∧ Ph d' bs T ∧ Fil d' d ∧ OX wr base (.slice (some ⟨g, 0, none⟩) L cap) d' ∧ w.grownBy wr (some g)) (fun _ bv _ => L + W2 - (intOf bv).toNat)
    case atStart => exact ⟨0, 0, W2, d', rfl, rfl, by rw [Nat.zero_mul], by omega, Nat.zero_le _, ph_start HBl.out, HF.out, HW.out, HG.out⟩
    case round =>
     clear HBl HF HW HG
     obtain ⟨T, A, B, d2, rfl, rfl, hA, hB, hAL, hph, hfil, how, hgr⟩ := hrel
     have HE := hid (show A = T * (2 * bs) ∧ B = A + W2 from ⟨hA, hB⟩)
     have HPh := hid hph
     have HF := hid hfil
     have HW := hid how
     have HG := hid hgr
     have hAB : A + bs ≤ B := by omega
     have hAbs : IntKind.i64.wrap ((A : Int) + (bs : Int)) = ((A + bs : Nat) : Int) := by rw [yA _ ⟨by omega, by omega⟩]; omega
     obtain ⟨C, hC⟩ : ∃ C, C = A + bs := ⟨_, rfl⟩
     rw [← hC] at hAbs hAB
     have HC := hid hC
     have hAC : A ≤ C := by omega
     have hB3 : B ≤ 3 * L := by omega
     clear hph hfil how hgr hA hC
     by_cases hlt3 : B ≤ L
     ·have hd3 : decide ((B : Int) ≤ (L : Int)) = true := by simpa using hlt3
      obtain ⟨X, U, V, Y, hd', hX, hU, hV, _⟩ := four (d := d2) hAC hAB (by rw [HW.out.len]; exact hlt3)
      have hlen := HW.out.len
      rw [hd'] at HW HPh HF hlen
      have hY : B + Y.length = L := by simp at hlen; omega
      have hUl : U.length = bs := by have := HC.out; omega
      have hVl : V.length = bs := by have := HC.out; have := HE.out; have := HW2.out; omega
      obtain ⟨u1, u2⟩ := ph_up HPh.out (by rw [hX]; exact HE.out.1) hUl (by omega)
      have HI := hid (HSy.out (2 * bs) X U V Y A C B wr hX (by omega) (by omega) hY (by omega) (by omega) (by omega) u1 u2 HW.out)
      have HS := hid (show X.length = A ∧ U.length = bs ∧ V.length = bs from ⟨hX, hUl, hVl⟩)
      have hBw : IntKind.i64.wrap ((B : Int) + (W2 : Int)) = ((B + W2 : Nat) : Int) := by rw [yA _ ⟨by omega, by omega⟩]; omega
      clear hd' hX hU hV hY hUl hVl u1 u2 hlen hB
      go_wp2_with fail
      refine HI.out.mono ?_
      rintro e w1 ⟨M, rfl, m1, o1, g1⟩
      have hml := m1.len
      have HN := hid (ph_step (X := X) (M := M) (S := U ++ V) (Y := Y) (w := bs) (T := T) (by have h9 := HPh.out; rw [zR X U V] at h9; exact h9) (by rw [HS.out.1]; exact HE.out.1) (by rw [hml, zF]) (by have := HS.out; rw [zF]; omega) m1.1)
      have HNf : Hid (Fil (X ++ M ++ Y) d) := (((Fil.refl X).app m1.2).app (Fil.refl Y)).trans (by have h9 := HF.out; rw [zR X U V] at h9; exact h9)
      have O1 := hid o1
      have G1 := hid (HG.out.trans g1)
      clear m1 o1 g1 hml HI
      go_wp2
      go_roundw
      case rel => exact ⟨T + 1, B, B + W2, _, rfl, by go_num, by rw [Nat.add_mul, Nat.one_mul, ← HE.out.1, HE.out.2, HW2.out], rfl, hlt3, HN.out, HNf.out, O1.out, G1.out⟩
      case measure => simp only [intOf]; omega
     have hd3 : decide ((B : Int) ≤ (L : Int)) = false := by simpa using (show ¬ (B : Int) ≤ (L : Int) by omega)
     have hbn : W2 ≤ 2 * L + 20 := by omega
     by_cases hm : C < L
     ·have hd4 : decide ((C : Int) < (L : Int)) = true := by simpa using hm
      obtain ⟨X, U, V, Y, hd', hX, hU, hV, _⟩ := four (d := d2) hAC (Nat.le_of_lt hm) (by rw [HW.out.len]; exact Nat.le_refl _)
      have hlen := HW.out.len
      rw [hd'] at HW HPh HF hlen
      obtain rfl : Y = [] := zE (by simp at hlen; omega)
      have hUl : U.length = bs := by have := HC.out; omega
      have hVl : V.length < bs := by have := HC.out; have := HE.out; have := HW2.out; omega
      obtain ⟨u1, u2⟩ := ph_up HPh.out (by rw [hX]; exact HE.out.1) hUl (by omega)
      have HI := hid (HSy.out (2 * bs) X U V [] A C L wr hX (by omega) (by omega) (by simp) (by omega) (by omega) (by omega) u1 u2 HW.out)
      have HS := hid (show X.length = A ∧ U.length = bs ∧ V.length < bs from ⟨hX, hUl, hVl⟩)
      clear hd' hX hU hV hUl hVl u1 u2 hlen hB
      go_wp2_with fail
      refine HI.out.mono ?_
      rintro e w1 ⟨M, rfl, m1, o1, g1⟩
      have hml := m1.len
      have HN : Hid (Bl (X ++ M) W2) := by
       have h9 := HPh.out
       rw [zV, zR X U V] at h9
       have h8 := ph_last h9 (M := M) (by rw [HS.out.1]; exact HE.out.1) (by rw [hml, zF]) (by have := HS.out; rw [zF]; omega) m1.1
       rw [← HW2.out] at h8
       exact h8
      have HNf : Hid (Fil (X ++ M) d) := ((Fil.refl X).app m1.2).trans (by have h9 := HF.out; rw [zV, zR X U V] at h9; exact h9)
      have O1 : Hid (OX w1 base (.slice (some ⟨g, 0, none⟩) L cap) (X ++ M)) := by have h9 := o1; rw [zV] at h9; exact h9
      have G1 := hid (HG.out.trans g1)
      clear m1 o1 g1 hml HI
      go_wp2
      go_roundw
      case rel => exact ⟨W2, _, rfl, by omega, hbn, HN.out, HNf.out, O1.out, G1.out⟩
      case measure => simp only [intOf]; omega
     have hd4 : decide ((C : Int) < (L : Int)) = false := by simpa using (show ¬ (C : Int) < (L : Int) by omega)
     obtain ⟨X, S, Y, hd', hX, hS, hY⟩ := three (d := d2) hAL (by rw [HW.out.len]; exact Nat.le_refl _)
     rw [HW.out.len] at hY
     obtain rfl : Y = [] := zE (by omega)
     have HN : Hid (Bl d2 W2) := by
      have h9 := HPh.out
      have h7 : d2 = X ++ S := by simpa using hd'
      rw [h7] at h9 ⊢
      have h8 := ph_alone h9 (by rw [hX]; exact HE.out.1) (by have := HC.out; omega) hbs
      rw [← HW2.out] at h8
      exact h8
     clear hd' hX hS hY hB
     go_wp2
     go_roundw
     case rel => exact ⟨W2, _, rfl, by omega, hbn, HN.out, HF.out, HW.out, HG.out⟩
     case measure => simp only [intOf]; omega
   have hd : decide ((bs : Int) < (L : Int)) = false := by simpa using (show ¬ (bs : Int) < (L : Int) by omega)
   go_wp2
   go_end0
   exact ⟨d', rfl, ⟨bl_up HBl.out (by rw [HW.out.len]; omega), HF.out⟩, HW.out, HG.out⟩
end Go.Proofs.YtdjmjhlbjcgoiaaGreatDoor
namespace Go.Proofs
open Go.Shelf Go.RowKit Go.Lib
def Tryz.sufLay_ren : Go.Shelf.Ren := ⟨fun | 100 => 203 | 207 => 195 | n => n, fun | 9 => 9 | 4 => 4 | 3 => 3 | n => n, fun | n => n⟩
theorem Tryz.sufLay : Go.Proofs.Lays.n100 Tryz.prog Tryz.sufLay_ren := {
  mixed := by kernel_rfl
  f100 := Tryz.func203.trans (congrArg some (by kernel_rfl))
  f207 := Tryz.func195.trans (congrArg some (by kernel_rfl))
  t3 := Tryz.underlying3
  a3 := Tryz.isAgg3
  z3 := Tryz.sizeOf3
  v3 := Tryz.zeroValue3
  t4 := Tryz.underlying4
  a4 := Tryz.isAgg4
  z4 := Tryz.sizeOf4
  v4 := Tryz.zeroValue4
  t9 := Tryz.underlying9
  a9 := Tryz.isAgg9
  z9 := Tryz.sizeOf9
  v9 := Tryz.zeroValue9 }
end Go.Proofs
namespace Go.Proofs.YtdjmjhlbjcgoiaaGreatDoor
open Go.RowKit Go.Maps Go.BigFrame
def sufB (s : ByteArray) : Bool := Lib.hasSuffix s.data.toList "#".toUTF8.data.toList
theorem isMarked_any (s : ByteArray) (a : Int) (w : World) (hs : s.size ≤ maxLen) :
  Calls Tryz.prog 189 #[.agg #[.string s, .int .i64 a]] w fun e w' => e = .returned (.bool (sufB s)) ∧ Below w.heap.size w w' := by
 have cT : ∀ W, Calls Tryz.prog 203 #[.string s, .string "#".toUTF8] W fun e w' => e = .returned (.bool (sufB s)) ∧ w' = W := fun W => Any.strings_HasSuffix Tryz.sufLay s "#".toUTF8 W hs
 have HT := hid cT
 clear cT
 generalize sufB s = B at HT ⊢
 go_enter Tryz.func189, Tryz.ntmps189
 go_wp2_with fail
 refine (HT.out _).mono ?_
 rintro e w9 ⟨rfl, hw9⟩
 have hw8 := hw9.symm
 subst hw8
 clear hw9
 go_wp2
 go_ret
 exact ⟨rfl, zA _⟩
theorem indexMarked_any (sv : Value) (sig : List Sy) (w : World) (hs : Sg w sv sig) :
  Calls Tryz.prog 176 #[sv, .func (.func 189) #[] #[]] w fun e w' => ∃ n : Int, e = .returned (.int .i64 n) ∧ decide (0 ≤ n) = (sig.any fun s => sufB s.1) ∧ Below w.heap.size w w' := by
 obtain ⟨so, sc, rfl, hso, hsc, _⟩ := Row.flat hs
 unfold maxLen at hsc
 have HS := hid hs
 clear hs
 go_enter Tryz.func176, Tryz.ntmps176
 go_wp2
 go_loopw [8] (fun i wr => ∃ k : Nat, k ≤ sig.length ∧ i = .int .i64 k ∧ (sig.take k).any (fun s => sufB s.1) = false ∧ Below w.heap.size w wr) (fun i _ => sig.length - (intOf i).toNat)
 case atStart => exact ⟨0, Nat.zero_le _, rfl, by simp, Below.refl _ _⟩
 case round =>
  obtain ⟨k, hk, rfl, hno, hbl⟩ := hrel
  have HNo := hid hno
  have HB := hid hbl
  clear hno
  by_cases hlt : k < sig.length
  ·obtain ⟨g, off, s, a, rfl, hm, hc0, hc1, ha1, ha2, hs3⟩ := (HS.out.kp (zK hbl)).at hlt
   have HM := hid hm
   clear hm hbl
   go_wp2_with fail
   refine (isMarked_any s a wr (by unfold maxLen; omega)).mono ?_
   rintro e w2 ⟨rfl, hb2⟩
   have HB2 := hid (zS HB.out hb2)
   clear hb2 hc0 hc1
   cases hmk : sufB s with
   | true =>
    have HF : Hid ((sig.any fun s => sufB s.1) = true) := by
     show _ = _
     rw [List.any_eq_true]
     exact ⟨_, zD HM.out, hmk⟩
    clear hmk
    go_wp2
    go_ret
    exact ⟨_, rfl, by rw [HF.out]; simp, HB2.out⟩
   | false =>
    have HF : Hid ((sig.take (k + 1)).any (fun s => sufB s.1) = false) := by
     show _ = _
     rw [xAM HM.out, List.any_append, HNo.out]
     simp [hmk]
    clear hmk
    go_wp2
    go_roundw
    case rel => exact ⟨k + 1, by omega, by go_num, HF.out, HB2.out⟩
    case measure => simp only [intOf]; omega
  have HF : Hid ((sig.any fun s => sufB s.1) = false) := by
   have h9 := HNo.out
   rw [zO (by omega)] at h9
   exact h9
  go_wp2
  go_ret
  exact ⟨-1, rfl, by rw [HF.out]; rfl, HB.out⟩
theorem containsMarked_any (sv : Value) (sig : List Sy) (w : World) (hs : Sg w sv sig) :
  Calls Tryz.prog 141 #[sv, .func (.func 189) #[] #[]] w fun e w' => e = .returned (.bool (sig.any fun s => sufB s.1)) ∧ Below w.heap.size w w' := by
 have HC := hid (indexMarked_any sv sig w hs)
 clear hs
 generalize (sig.any fun s => sufB s.1) = B at HC ⊢
 go_enter Tryz.func141, Tryz.ntmps141
 go_wp2_with fail
 refine HC.out.mono ?_
 rintro e w2 ⟨n, rfl, hn, hb2⟩
 have HN := hid hn
 clear hn
 go_wp2
 go_ret
 exact ⟨ret1b HN.out, hb2⟩
def aheadE (sig : List Sy) (n : Nat) : Int := if sigE sig = 0 then (if 64 < sig.length then 37 else if (sig.any fun s => sufB s.1) then 34 else if 64 < n then 70 else 0) else sigE sig
theorem checkAhead_any (sv : Value) (ro : Option Addr) (n rc : Nat) (sig : List Sy) (w : World) (hs : Sg w sv sig) (hT : Tabs w) (hn : n ≤ 9223372036854775807) :
  Calls Tryz.prog 160 #[.agg #[sv, .slice ro n rc]] w fun e w' => e = .returned (.int .i64 (aheadE sig n)) ∧ Below w.heap.size w w' := by
 obtain ⟨so, sc, rfl, hso, hsc, _⟩ := Row.flat hs
 unfold maxLen at hsc
 have HS := hid hs
 have HT := hid hT
 clear hs hT
 go_enter Tryz.func160, Tryz.ntmps160
 go_wp2_with fail
 refine (xDQ _ sig _ (HS.out.kp (zK (zA _))) (HT.out.below (zA _))).mono ?_
 rintro e w1 ⟨rfl, hb1⟩
 obtain ⟨hd0, hd1, hbl1⟩ := box2 hb1
 have HB1 := hid hbl1
 clear hb1 hbl1
 by_cases he : sigE sig = 0
 ·rw [he]
  by_cases h64 : 64 < sig.length
  ·have HF : Hid (aheadE sig n = 37) := by show _ = _; unfold aheadE; rw [if_pos he, if_pos h64]
   clear he
   have hd : decide ((64 : Int) < (sig.length : Int)) = true := by simpa using (show (64 : Int) < (sig.length : Int) by omega)
   go_wp2
   go_ret
   exact ⟨ret1i HF.out.symm, HB1.out⟩
  have hd : decide ((64 : Int) < (sig.length : Int)) = false := by simpa using (show ¬ (64 : Int) < (sig.length : Int) by omega)
  have HE := hid he
  have H64 := hid h64
  clear he
  go_wp2_with fail
  refine (containsMarked_any _ sig w1 (HS.out.kp (zK HB1.out))).mono ?_
  rintro e w2 ⟨rfl, hb2⟩
  have HB2 := hid (zS HB1.out hb2)
  have hd1' := (zK hb2).cell _ _ hd1
  clear hb2 hd0 hd1
  cases hm : (sig.any fun s => sufB s.1) with
  | true =>
   have HF : Hid (aheadE sig n = 34) := by show _ = _; unfold aheadE; rw [if_pos HE.out, if_neg H64.out, if_pos hm]
   go_wp2
   go_ret
   exact ⟨ret1i HF.out.symm, HB2.out⟩
  | false =>
   by_cases hn64 : 64 < n
   ·have HF : Hid (aheadE sig n = 70) := by show _ = _; unfold aheadE; rw [if_pos HE.out, if_neg H64.out, hm, if_neg (by simp), if_pos hn64]
    have hdn : decide ((64 : Int) < (n : Int)) = true := by simpa using (show (64 : Int) < (n : Int) by omega)
    go_wp2
    go_ret
    exact ⟨ret1i HF.out.symm, HB2.out⟩
   have HF : Hid (aheadE sig n = 0) := by show _ = _; unfold aheadE; rw [if_pos HE.out, if_neg H64.out, hm, if_neg (by simp), if_neg hn64]
   have hdn : decide ((64 : Int) < (n : Int)) = false := by simpa using (show ¬ (64 : Int) < (n : Int) by omega)
   go_wp2
   go_ret
   exact ⟨ret1i HF.out.symm, HB2.out⟩
 have HF : Hid (aheadE sig n = sigE sig) := by show _ = _; unfold aheadE; rw [if_neg he]
 generalize sigE sig = E at he HF ⊢
 have hne : (E != 0) = true := by simpa using he
 go_wp2
 go_ret
 exact ⟨ret1i HF.out.symm, HB1.out⟩
theorem freeClosure_any (x : Int) (c b : Nat) (L : List (Int × Value)) (w : World) (hc : w.cell? ⟨c, 0, none⟩ = some (.map (some b))) (hm : MapV w b L) (hu : ∀ n v, L.lookup n = some v → v = .agg #[]) (h1 : -9223372036854775808 ≤ x) (h2 : x ≤ 9223372036854775807) :
  Calls Tryz.prog 204 #[.int .i64 x, .pointer (some ⟨c, 0, none⟩)] w fun e w' => e = .returned (.bool (!(L.lookup x).isSome)) ∧ Below w.heap.size w w' := by
 have hlk := hm.look xER (zero_unit w) h1 h2
 have hg : (L.lookup x).getD (.agg #[]) = .agg #[] := by
  cases hx : L.lookup x with
  | none => rfl
  | some v => exact hu x v hx
 rw [hg] at hlk
 have HLk := hid hlk
 clear hm hlk hg hu
 cases hl : (L.lookup x).isSome with
 | true =>
  rw [hl] at HLk
  go_enter Tryz.func204, Tryz.ntmps204
  go_wp2_with (first
   | (at_lookup; refine xAT rfl _ _ _ _ rfl _ _ _ rfl rfl HLk.out ?_))
  all_goals (go_ret; exact ⟨rfl, zA _⟩)
 | false =>
  rw [hl] at HLk
  go_enter Tryz.func204, Tryz.ntmps204
  go_wp2_with (first
   | (at_lookup; refine xAT rfl _ _ _ _ rfl _ _ _ rfl rfl HLk.out ?_))
  all_goals (go_ret; exact ⟨rfl, zA _⟩)
theorem indexFree_any (vv : Value) (xs : List Int) (c b : Nat) (L : List (Int × Value)) (w : World) (hv : Is w vv xs) (hc : w.cell? ⟨c, 0, none⟩ = some (.map (some b))) (hm : MapV w b L) (hu : ∀ n v, L.lookup n = some v → v = .agg #[]) :
  Calls Tryz.prog 150 #[vv, .func (.func 204) #[] #[.pointer (some ⟨c, 0, none⟩)]] w fun e w' => ∃ n : Int, e = .returned (.int .i64 n) ∧ decide (0 ≤ n) = (xs.any fun x => !(L.lookup x).isSome) ∧ Below w.heap.size w w' := by
 obtain ⟨ao, cap, rfl, hao, hca, _⟩ := Row.flat hv
 unfold maxLen at hca
 have HV := hid hv
 have HC := hid hc
 have HM := hid hm
 have HU := hid hu
 clear hv hc hm hu
 go_enter Tryz.func150, Tryz.ntmps150
 go_wp2
 go_loopw [8] (fun i wr => ∃ k : Nat, k ≤ xs.length ∧ i = .int .i64 k ∧ (xs.take k).any (fun x => !(L.lookup x).isSome) = false ∧ Below w.heap.size w wr) (fun i _ => xs.length - (intOf i).toNat)
 case atStart => exact ⟨0, Nat.zero_le _, rfl, by simp, Below.refl _ _⟩
 case round =>
  obtain ⟨k, hk, rfl, hno, hbl⟩ := hrel
  have HNo := hid hno
  have HB := hid hbl
  clear hno
  by_cases hlt : k < xs.length
  ·obtain ⟨g, off, x, rfl, hx1, hx2, hx3, hx4⟩ := (HV.out.kp (zK hbl)).at hlt
   have HX := hid hx1
   clear hx1 hbl
   go_wp2_with fail
   refine (freeClosure_any x c b L wr ((zK HB.out).cell _ _ HC.out) (HM.out.later HB.out) HU.out hx3 hx4).mono ?_
   rintro e w2 ⟨rfl, hb2⟩
   have HB2 := hid (zS HB.out hb2)
   clear hb2 hx2
   cases hl : (L.lookup x).isSome with
   | false =>
    have HF : Hid ((xs.any fun x => !(L.lookup x).isSome) = true) := by
     show _ = _
     rw [List.any_eq_true]
     exact ⟨x, zD HX.out, by rw [hl]; rfl⟩
    clear hl
    go_wp2
    go_ret
    exact ⟨_, rfl, by rw [HF.out]; simp, HB2.out⟩
   | true =>
    have HF : Hid ((xs.take (k + 1)).any (fun x => !(L.lookup x).isSome) = false) := by
     show _ = _
     rw [xAM HX.out, List.any_append, HNo.out]
     simp [hl]
    clear hl
    go_wp2
    go_roundw
    case rel => exact ⟨k + 1, by omega, by go_num, HF.out, HB2.out⟩
    case measure => simp only [intOf]; omega
  have HF : Hid ((xs.any fun x => !(L.lookup x).isSome) = false) := by
   have h9 := HNo.out
   rw [zO (by omega)] at h9
   exact h9
  go_wp2
  go_ret
  exact ⟨-1, rfl, by rw [HF.out]; rfl, HB.out⟩
theorem containsFree_any (vv : Value) (xs : List Int) (c b : Nat) (L : List (Int × Value)) (w : World) (hv : Is w vv xs) (hc : w.cell? ⟨c, 0, none⟩ = some (.map (some b))) (hm : MapV w b L) (hu : ∀ n v, L.lookup n = some v → v = .agg #[]) :
  Calls Tryz.prog 96 #[vv, .func (.func 204) #[] #[.pointer (some ⟨c, 0, none⟩)]] w fun e w' => e = .returned (.bool (xs.any fun x => !(L.lookup x).isSome)) ∧ Below w.heap.size w w' := by
 have HC := hid (indexFree_any vv xs c b L w hv hc hm hu)
 clear hv hc hm hu
 generalize (xs.any fun x => !(L.lookup x).isSome) = B at HC ⊢
 go_enter Tryz.func96, Tryz.ntmps96
 go_wp2_with fail
 refine HC.out.mono ?_
 rintro e w2 ⟨n, rfl, hn, hb2⟩
 have HN := hid hn
 clear hn
 go_wp2
 go_ret
 exact ⟨ret1b HN.out, hb2⟩
def freeB (l r : List Int) : Bool := (varsL r).any fun x => !decide (x ∈ varsL l)
theorem varsL_len (t : List Int) : (varsL t).length ≤ t.length := by
 unfold varsL
 rw [zJ]
 have h : ∀ (t m : List Int), (metA m t).length ≤ m.length + t.length := fun t => by
  induction t with
  | nil => intro m; simp [metA]
  | cons c t ih =>
   intro m
   unfold metA
   split
   ·have := ih m
    simp only [zG]
    omega
   have := ih (m ++ [c])
   simp only [zF, zG, List.length_nil] at this ⊢
   omega
 simpa using h t []
theorem vars_onceS (t : List Int) : (varsL t).Nodup := by
 unfold varsL
 refine List.Pairwise.map _ ?_ (met_once t [] (by simp))
 intro a b hab e
 omega
theorem hasFree_any (lv rv : Value) (l r : List Int) (w : World) (hl : Is w lv l) (hr : Is w rv r) (h1 : l.length * 8 ≤ 140737488351232) (h2 : r.length * 8 ≤ 140737488351232) :
  Calls Tryz.prog 190 #[.agg #[lv, rv]] w fun e w' => e = .returned (.bool (freeB l r)) ∧ Below w.heap.size w w' := by
 obtain ⟨a1, c1, e1, _⟩ := hl.flatI
 subst e1
 obtain ⟨a2, c2, e2, _⟩ := hr.flatI
 subst e2
 have HL := hid hl
 have HR := hid hr
 clear hl hr
 have hmm := @run_makeMap Tryz.prog
 obtain ⟨w0, hw0⟩ : ∃ X, X = ((w.alloc (.cells #[.slice a1 l.length c1, .slice a2 r.length c2] 41)).alloc (.map #[] 0)).alloc (.cells #[.map (some (w.heap.size + 1))] 98) := ⟨_, rfl⟩
 have hn1 : (w.alloc (.cells #[.slice a1 l.length c1, .slice a2 r.length c2] 41)).heap.size = w.heap.size + 1 := World.size_alloc _ _
 have hn2 : ((w.alloc (.cells #[.slice a1 l.length c1, .slice a2 r.length c2] 41)).alloc (.map #[] 0)).heap.size = w.heap.size + 1 + 1 := by rw [World.size_alloc, hn1]
 have C0 : Hid (Below w.heap.size w w0) := by rw [hw0]; exact zS (zS (zA _) (zA _)) (zA _)
 have HM0 : Hid (MapV w0 (w.heap.size + 1) []) := by
  have h9 := (MapV.made (w.alloc (.cells #[.slice a1 l.length c1, .slice a2 r.length c2] 41))).later (zA (.cells #[.map (some (w.heap.size + 1))] 98))
  rw [hn1, ← hw0] at h9
  exact h9
 have HCm : Hid (w0.cell? ⟨w.heap.size + 1 + 1, 0, none⟩ = some (.map (some (w.heap.size + 1)))) := by
  show _ = _
  rw [hw0, ← hn2]
  exact xAB rfl
 have HC1 : Hid (w0.cell? ⟨w.heap.size, 1, none⟩ = some (.slice a2 r.length c2)) := by
  show _ = _
  rw [hw0]
  exact (zK (zS (zA (.map #[] 0)) (zA _))).cell _ _ (xAB rfl)
 clear hn1 hn2
 go_enter Tryz.func190, Tryz.ntmps190
 go_wp2_with fail
 rw [← hw0]
 clear hw0
 refine (vars_any _ l w0 (HL.out.kp (zK C0.out)) h1).mono ?_
 rintro e w1 ⟨v1, rfl, ho1, hb1⟩
 obtain ⟨vo, vc, hv1, hvc1, hvc2⟩ := ho1.shape
 subst hv1
 unfold maxLen at hvc2
 have C1 := hid (zS C0.out hb1)
 have HM1 := hid (HM0.out.later hb1)
 have HCm1 := hid ((zK hb1).cell _ _ HCm.out)
 have HC11 := hid ((zK hb1).cell _ _ HC1.out)
 have HV1 := hid ho1.is
 have HOn := hid (vars_onceS l)
 have HMe : Hid (freeB l r = ((varsL r).any fun x => !decide (x ∈ varsL l))) := rfl
 have hvl : (varsL l).length ≤ 17592186043904 := by have := varsL_len l; omega
 clear ho1 hb1 HM0 HCm HC1 hmm
 generalize varsL l = V at HV1 HOn HMe hvl hvc1 ⊢
 go_wp2
 go_loopw [11] (fun iv wr => ∃ (k : Nat) (L : List (Int × Value)), k ≤ V.length ∧ L.length = k ∧ iv = .int .i64 k ∧ MapV wr (w.heap.size + 1) L ∧ (∀ n, (L.lookup n).isSome = decide (n ∈ V.take k)) ∧ (∀ n v, L.lookup n = some v → v = .agg #[]) ∧ Kp w1 wr ∧ Below w.heap.size w wr) (fun iv _ => V.length - (intOf iv).toNat)
 case atStart => exact ⟨0, [], Nat.zero_le _, rfl, rfl, HM1.out, fun n => (by simp), fun n v h => (by cases h), Kp.refl _, C1.out⟩
 case round =>
  obtain ⟨k, L, hk, hLk, rfl, hm, hlo, hu, hkp, hbl⟩ := hrel
  have HM := hid hm
  have HLo := hid hlo
  have HU := hid hu
  have HKp := hid hkp
  have HB := hid hbl
  have HLk := hid hLk
  have hcm := hkp.cell _ _ HCm1.out
  clear hm hlo hu hLk
  by_cases hlt : k < V.length
  ·obtain ⟨g, off, x, rfl, hx1, hx2, hx3, hx4⟩ := (HV1.out.kp hkp).at hlt
   have hno : L.lookup x = none := by
    cases hq : L.lookup x with
    | none => rfl
    | some v =>
     have h9 := HLo.out x
     rw [hq] at h9
     have h8 : x ∈ V.take k := by simpa using h9.symm
     obtain ⟨j, hj⟩ := List.getElem?_of_mem h8
     have hjl := (zB.1 hj).1
     rw [zH] at hjl
     rw [List.getElem?_take_of_lt (by omega)] at hj
     exfalso
     have h7 := (List.getElem_inj HOn.out (h₀ := (zB.1 hj).1) (h₁ := (zB.1 hx1).1)).1 (by rw [(zB.1 hj).2, (zB.1 hx1).2])
     omega
   obtain ⟨w4, hr4, hm4, hg4⟩ := HM.out.store xER hx3 hx4 hno (by rw [HLk.out]; unfold maxLen; omega) (.agg #[])
   have HR4 := hid hr4
   have HM4 := hid hm4
   obtain ⟨es, clock, hes⟩ := HM.out.isMap
   have HK4 := hid (hkp.trans (Kp.of_map hg4 hes))
   have HB4 : Hid (Below w.heap.size w w4) := hbl.grown hg4 hbl.size (fun j hj => by cases hj; exact Nat.le_succ _)
   have HLo4 : Hid (∀ n, (List.lookup n ((x, Value.agg #[]) :: L)).isSome = decide (n ∈ V.take (k + 1))) := fun n => by
    rw [List.lookup_cons, xAM hx1]
    by_cases e : n = x
    ·subst e
     simp
    rw [show (n == x) = false by simpa using e]
    simp only [yE, yR, e, or_false]
    exact HLo.out n
   have HU4 : Hid (∀ n v, List.lookup n ((x, Value.agg #[]) :: L) = some v → v = .agg #[]) := fun n v hv => by
    rw [List.lookup_cons] at hv
    by_cases e : n = x
    ·subst e
     simp at hv
     exact hv.symm
    rw [show (n == x) = false by simpa using e] at hv
    exact HU.out n v hv
   clear hr4 hm4 hg4 hes hx1 hno hbl hkp
   go_wp2_with (first
    | (at_mapUpdate; refine xBH rfl _ _ _ _ rfl _ _ _ rfl rfl rfl HR4.out ?_))
   go_roundw
   case rel => exact ⟨k + 1, _, hlt, by rw [zG, HLk.out], by go_num, HM4.out, HLo4.out, HU4.out, HK4.out, HB4.out⟩
   case measure => simp only [intOf]; omega
  have hc1' := hkp.cell _ _ HC11.out
  have HLo2 : Hid (∀ n, (!(L.lookup n).isSome) = !decide (n ∈ V)) := fun n => by
   have h9 := HLo.out n
   rw [zO (by omega)] at h9
   rw [h9]
  clear hbl hkp
  go_wp2_with fail
  refine (vars_any _ r wr (HR.out.kp (zK HB.out)) h2).mono ?_
  rintro e w5 ⟨v5, rfl, ho5, hb5⟩
  have HV5 := hid ho5.is
  have HB5 := hid (zS HB.out hb5)
  have HM5 := hid (HM.out.later hb5)
  have HC5 := hid ((zK hb5).cell _ _ hcm)
  clear ho5 hb5 hcm hc1'
  go_wp2_with fail
  refine (containsFree_any _ (varsL r) _ _ L w5 HV5.out HC5.out HM5.out HU.out).mono ?_
  rintro e w6 ⟨rfl, hb6⟩
  have HB6 := hid (zS HB5.out hb6)
  have HF : Hid (((varsL r).any fun x => !(L.lookup x).isSome) = freeB l r) := by
   show _ = _
   rw [HMe.out]
   congr 1
   funext x
   exact HLo2.out x
  rw [HF.out]
  clear hb6 HF
  go_wp2
  go_ret
  exact ⟨rfl, HB6.out⟩
theorem row_posS {sig : List Sy} {u : List Int} (h : rowE sig u = 0) : 0 < u.length := by
 cases u with
 | nil => simp [rowE, firstT] at h
 | cons c u => simp
abbrev Rl := List Int × List Int
def ruleE (sig : List Sy) (r : Rl) : Int :=
 if termE sig r.1 = 0 then (if termE sig r.2 = 0 then (if 512 < r.1.length ∨ 512 < r.2.length then 2 else if (r.1[0]?).getD 0 < 0 then 71 else if freeB r.1 r.2 then 72 else 0) else termE sig r.2) else termE sig r.1
theorem checkRule_any (sv lv rv : Value) (sig : List Sy) (l r : List Int) (w : World) (hs : Sg w sv sig) (hl : Is w lv l) (hr : Is w rv r) (hT : Tabs w) (h1 : l.length * 8 ≤ 140737488351232) (h2 : r.length * 8 ≤ 140737488351232) :
  Calls Tryz.prog 161 #[sv, .agg #[lv, rv]] w fun e w' => e = .returned (.int .i64 (ruleE sig (l, r))) ∧ Below w.heap.size w w' := by
 obtain ⟨a1, c1, e1, _⟩ := hl.flatI
 subst e1
 obtain ⟨a2, c2, e2, _⟩ := hr.flatI
 subst e2
 have HS := hid hs
 have HL := hid hl
 have HR := hid hr
 have HT := hid hT
 clear hs hl hr hT
 obtain ⟨w0, hw0⟩ : ∃ X, X = w.alloc (.cells #[.slice a1 l.length c1, .slice a2 r.length c2] 41) := ⟨_, rfl⟩
 have C0 : Hid (Below w.heap.size w w0) := by rw [hw0]; exact zA _
 have HC : Hid (∀ W, Below w0.heap.size w0 W → W.cell? ⟨w.heap.size, 0, none⟩ = some (.slice a1 l.length c1) ∧ W.cell? ⟨w.heap.size, 1, none⟩ = some (.slice a2 r.length c2)) := fun W hW => by
  have hk := zK hW
  rw [hw0] at hk
  exact ⟨hk.cell _ _ (xAB rfl), hk.cell _ _ (xAB rfl)⟩
 obtain ⟨E, hE⟩ : ∃ E, E = ruleE sig (l, r) := ⟨_, rfl⟩
 have HE := hid hE
 rw [← hE]
 clear hE
 unfold ruleE at HE
 go_enter Tryz.func161, Tryz.ntmps161
 go_wp2_with fail
 rw [← hw0]
 clear hw0
 refine (xBP sv _ sig l w0 (HS.out.kp (zK C0.out)) (HL.out.kp (zK C0.out)) (HT.out.below C0.out) h1).mono ?_
 rintro e w1 ⟨rfl, hb1⟩
 have C1 := hid (zS C0.out hb1)
 have D1 := hid hb1
 clear hb1
 by_cases hel : termE sig l = 0
 ·rw [hel]
  have HEl := hid hel
  rw [if_pos hel] at HE
  clear hel
  obtain ⟨x0, x1⟩ := HC.out w1 D1.out
  go_wp2_with fail
  refine (xBP sv _ sig r w1 (HS.out.kp (zK C1.out)) (HR.out.kp (zK C1.out)) (HT.out.below C1.out) h2).mono ?_
  rintro e w2 ⟨rfl, hb2⟩
  have C2 := hid (zS C1.out hb2)
  have D2 := hid (zS D1.out hb2)
  clear hb2 x0 x1
  by_cases her : termE sig r = 0
  ·rw [her]
   rw [if_pos her] at HE
   clear her
   obtain ⟨x0, x1⟩ := HC.out w2 D2.out
   have hlp := row_posS (xAE HEl.out).2
   obtain ⟨gl, ol, c, rfl, hc, hcx, _, _⟩ := (HL.out.kp (zK C2.out)).at hlp
   rw [hc] at HE
   simp only [Option.getD_some] at HE
   rw [Nat.add_zero] at hcx
   by_cases hb1 : 512 < l.length
   ·have hd1 : decide ((512 : Int) < (l.length : Int)) = true := by simpa using (show (512 : Int) < (l.length : Int) by omega)
    rw [if_pos (.inl hb1)] at HE
    go_wp2
    go_ret
    exact ⟨ret1i HE.out.symm, C2.out⟩
   have hd1 : decide ((512 : Int) < (l.length : Int)) = false := by simpa using (show ¬ (512 : Int) < (l.length : Int) by omega)
   by_cases hb2 : 512 < r.length
   ·have hd2 : decide ((512 : Int) < (r.length : Int)) = true := by simpa using (show (512 : Int) < (r.length : Int) by omega)
    rw [if_pos (.inr hb2)] at HE
    go_wp2
    go_ret
    exact ⟨ret1i HE.out.symm, C2.out⟩
   have hd2 : decide ((512 : Int) < (r.length : Int)) = false := by simpa using (show ¬ (512 : Int) < (r.length : Int) by omega)
   rw [if_neg (by omega)] at HE
   by_cases h0 : c < 0
   ·rw [if_pos h0] at HE
    have hd0 : decide (c < 0) = true := by simpa using h0
    clear hc
    go_wp2
    go_ret
    exact ⟨ret1i HE.out.symm, C2.out⟩
   rw [if_neg h0] at HE
   have hd0 : decide (c < 0) = false := by simpa using h0
   clear hc
   go_wp2_with fail
   refine (hasFree_any _ _ l r w2 (HL.out.kp (zK C2.out)) (HR.out.kp (zK C2.out)) h1 h2).mono ?_
   rintro e w3 ⟨rfl, hb3⟩
   have C3 := hid (zS C2.out hb3)
   clear hb3 x0 x1 hcx
   cases hf : freeB l r with
   | true =>
    rw [hf, if_pos rfl] at HE
    go_wp2
    go_ret
    exact ⟨ret1i HE.out.symm, C3.out⟩
   | false =>
    rw [hf, if_neg (by simp)] at HE
    go_wp2
    go_ret
    exact ⟨ret1i HE.out.symm, C3.out⟩
  rw [if_neg her] at HE
  generalize termE sig r = T at her HE ⊢
  have hne : (T != 0) = true := by simpa using her
  go_wp2
  go_ret
  exact ⟨ret1i HE.out.symm, C2.out⟩
 rw [if_neg hel] at HE
 generalize termE sig l = T at hel HE ⊢
 have hne : (T != 0) = true := by simpa using hel
 go_wp2
 go_ret
 exact ⟨ret1i HE.out.symm, C1.out⟩
def EU (w : World) (g o : Nat) (r : Rl) : Prop := r.1.length * 8 ≤ 140737488351232 ∧ r.2.length * 8 ≤ 140737488351232 ∧ ∃ v1 v2, w.cell? ⟨g, o, none⟩ = some v1 ∧ w.cell? ⟨g, o + 1, none⟩ = some v2 ∧ Is w v1 r.1 ∧ Is w v2 r.2
theorem EU.kp {w w' : World} (hk : Kp w w') (g o : Nat) (r : Rl) (h : EU w g o r) : EU w' g o r := by
 obtain ⟨h1, h2, v1, v2, h3, h4, h5, h6⟩ := h
 exact ⟨h1, h2, v1, v2, hk.cell _ _ h3, hk.cell _ _ h4, h5.kp hk, h6.kp hk⟩
def RU (w : World) (v : Value) (rs : List Rl) : Prop := Row EU 2 w v rs
theorem RU.kp {w w' : World} {v : Value} {rs : List Rl} (h : RU w v rs) (hk : Kp w w') : RU w' v rs := Row.imp h hk.size (EU.kp hk)
theorem RU.at {w : World} {ao : Option Addr} {n cap : Nat} {rs : List Rl} (h : RU w (.slice ao n cap) rs) {k : Nat} (hk : k < rs.length) :
  ∃ g off l r a1 c1 a2 c2, ao = some ⟨g, off, none⟩ ∧ rs[k]? = some (l, r) ∧ w.cell? ⟨g, off + k * 2, none⟩ = some (.slice a1 l.length c1) ∧ w.cell? ⟨g, off + k * 2 + 1, none⟩ = some (.slice a2 r.length c2) ∧
   Is w (.slice a1 l.length c1) l ∧ Is w (.slice a2 r.length c2) r ∧ l.length * 8 ≤ 140737488351232 ∧ r.length * 8 ≤ 140737488351232 := by
 obtain ⟨ao', cap', hv, _, _, hx⟩ := Row.flat h
 simp only [zZ] at hv
 obtain ⟨rfl, rfl, rfl⟩ := hv
 obtain ⟨g, off, ⟨l, r⟩, rfl, hm, h1, h2, v1, v2, h3, h4, h5, h6⟩ := hx k hk
 obtain ⟨a1, c1, rfl, _⟩ := Row.flat h5
 obtain ⟨a2, c2, rfl, _⟩ := Row.flat h6
 exact ⟨g, off, l, r, a1, c1, a2, c2, rfl, hm, h3, h4, h5, h6, h1, h2⟩
def rulesGo (sig : List Sy) : Nat → List Rl → Int × Int
 | _, [] => (0, 0)
 | k, r :: rs => if ruleE sig r = 0 then rulesGo sig (k + 1) rs else (ruleE sig r, k)
def sysE (sig : List Sy) (rs : List Rl) : Int × Int := if aheadE sig rs.length = 0 then rulesGo sig 0 rs else (aheadE sig rs.length, -1)
theorem ret2ii {a b c d : Int} (h : (a, c) = (b, d)) : Ending.returned (.tuple #[.int .i64 a, .int .i64 c]) = .returned (.tuple #[.int .i64 b, .int .i64 d]) := by cases h; rfl
theorem sysCheck_any (sv rv : Value) (sig : List Sy) (rs : List Rl) (w : World) (hs : Sg w sv sig) (hr : RU w rv rs) (hT : Tabs w) :
  Calls Tryz.prog 126 #[.agg #[sv, rv]] w fun e w' => e = .returned (.tuple #[.int .i64 (sysE sig rs).1, .int .i64 (sysE sig rs).2]) ∧ Below w.heap.size w w' := by
 obtain ⟨so, sc, rfl, hso, hsc, _⟩ := Row.flat hs
 obtain ⟨ro, rc, rfl, hro, hrc, _⟩ := Row.flat hr
 unfold maxLen at hsc hrc
 have HS := hid hs
 have HR := hid hr
 have HT := hid hT
 clear hs hr hT
 obtain ⟨w0, hw0⟩ : ∃ X, X = w.alloc (.cells #[.slice so sig.length sc, .slice ro rs.length rc] 64) := ⟨_, rfl⟩
 have C0 : Hid (Below w.heap.size w w0) := by rw [hw0]; exact zA _
 have HC : Hid (∀ W, Below w0.heap.size w0 W → W.cell? ⟨w.heap.size, 0, none⟩ = some (.slice so sig.length sc) ∧ W.cell? ⟨w.heap.size, 1, none⟩ = some (.slice ro rs.length rc)) := fun W hW => by
  have hk := zK hW
  rw [hw0] at hk
  exact ⟨hk.cell _ _ (xAB rfl), hk.cell _ _ (xAB rfl)⟩
 obtain ⟨E, hE⟩ : ∃ E, E = sysE sig rs := ⟨_, rfl⟩
 have HE := hid hE
 rw [← hE]
 clear hE
 unfold sysE at HE
 obtain ⟨x0, x1⟩ := HC.out w0 (Below.refl _ _)
 go_enter Tryz.func126, Tryz.ntmps126
 go_wp2_with fail
 rw [← hw0]
 clear hw0
 refine (checkAhead_any _ ro rs.length rc sig w0 (HS.out.kp (zK C0.out)) (HT.out.below C0.out) (by omega)).mono ?_
 rintro e w1 ⟨rfl, hb1⟩
 have C1 := hid (zS C0.out hb1)
 have D1 := hid hb1
 clear hb1 x0 x1
 by_cases hea : aheadE sig rs.length = 0
 ·rw [hea]
  rw [if_pos hea] at HE
  clear hea
  obtain ⟨x0, x1⟩ := HC.out w1 D1.out
  go_wp2
  go_loopw [16] (fun iv wr => ∃ k : Nat, k ≤ rs.length ∧ iv = .int .i64 k ∧ rulesGo sig 0 rs = rulesGo sig k (rs.drop k) ∧ Below w0.heap.size w0 wr) (fun iv _ => rs.length - (intOf iv).toNat)
  case atStart => exact ⟨0, Nat.zero_le _, rfl, rfl, D1.out⟩
  case round =>
   obtain ⟨k, hk, rfl, hgo, hbl⟩ := hrel
   have HG := hid hgo
   have HB := hid hbl
   have CB := hid (zS C0.out hbl)
   obtain ⟨z0, z1⟩ := HC.out wr hbl
   clear hgo hbl x0 x1
   by_cases hlt : k < rs.length
   ·obtain ⟨g, off, l, r, a1, c1, a2, c2, rfl, hm, hc0, hc1, hi1, hi2, hl1, hl2⟩ := (HR.out.kp (zK CB.out)).at hlt
    have HD : Hid (E = if ruleE sig (l, r) = 0 then rulesGo sig (k + 1) (rs.drop (k + 1)) else (ruleE sig (l, r), (k : Int))) := by
     show _ = _
     rw [HE.out, HG.out, xAR hm]
     rfl
    have HI1 := hid hi1
    have HI2 := hid hi2
    have hgw : g < wr.heap.size := yJ _ _ hc0
    have y0 := xAP (o := .cells #[.slice a1 l.length c1, .slice a2 r.length c2] 41) z0
    obtain ⟨W, hW⟩ : ∃ X, X = wr.alloc (.cells #[.slice a1 l.length c1, .slice a2 r.length c2] 41) := ⟨_, rfl⟩
    have BW : Hid (Below wr.heap.size wr W) := by rw [hW]; exact zA _
    clear hm hi1 hi2
    go_wp2_with fail
    rw [← hW]
    rw [← hW] at y0
    clear hW
    have CW := hid (zS CB.out BW.out)
    refine (checkRule_any _ _ _ sig l r W (HS.out.kp (zK CW.out)) (HI1.out.kp (zK BW.out)) (HI2.out.kp (zK BW.out)) (HT.out.below CW.out) hl1 hl2).mono ?_
    rintro e w3 ⟨rfl, hb3⟩
    have HB3 := hid (zS HB.out (zS BW.out hb3))
    clear hb3 y0 z0 z1 hc0 hc1
    by_cases her : ruleE sig (l, r) = 0
    ·rw [her]
     have HN : Hid (rulesGo sig 0 rs = rulesGo sig (k + 1) (rs.drop (k + 1))) := by
      show _ = _
      rw [← HE.out, HD.out, if_pos her]
     clear her HD
     go_wp2
     go_roundw
     case rel => exact ⟨k + 1, hlt, by go_num, HN.out, HB3.out⟩
     case measure => simp only [intOf]; omega
    have HN : Hid (E = (ruleE sig (l, r), (k : Int))) := by
     show _ = _
     rw [HD.out, if_neg her]
    generalize ruleE sig (l, r) = T at her HN ⊢
    have hne : (T != 0) = true := by simpa using her
    clear HD her
    go_wp2
    go_ret2
    exact ⟨ret2ii (a := T) (c := (k : Int)) (by rw [HN.out]), zS C0.out HB3.out⟩
   have HN : Hid (E = (0, 0)) := by
    show _ = _
    rw [HE.out, HG.out, zP (by omega)]
    rfl
   clear z0 z1
   go_wp2
   go_ret2
   exact ⟨ret2ii (a := 0) (c := 0) (by rw [HN.out]), CB.out⟩
 rw [if_neg hea] at HE
 generalize aheadE sig rs.length = T at hea HE ⊢
 have hne : (T != 0) = true := by simpa using hea
 go_wp2
 go_ret2
 exact ⟨ret2ii (a := T) (c := -1) (by rw [HE.out]), C1.out⟩
def sysB (sig : List Sy) (rs : List Rl) : Bool := decide ((sysE sig rs).1 = 0)
theorem rules_right {sig : List Sy} : ∀ (rs : List Rl) (k : Nat), (rulesGo sig k rs).1 = 0 → ∀ r ∈ rs, ruleE sig r = 0
 | [], _, _, r, hr => by simp at hr
 | a :: rs, k, h, r, hr => by
  unfold rulesGo at h
  by_cases ha : ruleE sig a = 0
  ·rw [if_pos ha] at h
   rcases yB.1 hr with rfl | hr
   ·exact ha
   exact rules_right rs (k + 1) h r hr
  rw [if_neg ha] at h
  exact absurd h ha
theorem sys_right {sig : List Sy} {rs : List Rl} (h : sysB sig rs = true) : aheadE sig rs.length = 0 ∧ ∀ r ∈ rs, ruleE sig r = 0 := by
 have h1 : (sysE sig rs).1 = 0 := by simpa [sysB] using h
 unfold sysE at h1
 by_cases ha : aheadE sig rs.length = 0
 ·rw [if_pos ha] at h1
  exact ⟨ha, rules_right rs 0 h1⟩
 rw [if_neg ha] at h1
 exact absurd h1 ha
theorem rule_parts {sig : List Sy} {r : Rl} (h : ruleE sig r = 0) : termE sig r.1 = 0 ∧ termE sig r.2 = 0 ∧ r.1.length ≤ 512 ∧ r.2.length ≤ 512 ∧ (0 : Int) ≤ (r.1[0]?).getD 0 ∧ freeB r.1 r.2 = false := by
 unfold ruleE at h
 by_cases h1 : termE sig r.1 = 0
 ·rw [if_pos h1] at h
  by_cases h2 : termE sig r.2 = 0
  ·rw [if_pos h2] at h
   by_cases h3 : 512 < r.1.length ∨ 512 < r.2.length
   ·rw [if_pos h3] at h; omega
   rw [if_neg h3] at h
   by_cases h4 : (r.1[0]?).getD 0 < 0
   ·rw [if_pos h4] at h; omega
   rw [if_neg h4] at h
   cases h5 : freeB r.1 r.2 with
   | true => rw [h5] at h; simp at h
   | false => exact ⟨h1, h2, by omega, by omega, by omega, rfl⟩
  rw [if_neg h2] at h
  exact absurd h h2
 rw [if_neg h1] at h
 exact absurd h h1
theorem xGL {sig : List Sy} {n : Nat} (h : aheadE sig n = 0) : sigE sig = 0 ∧ sig.length ≤ 64 ∧ (sig.any fun s => sufB s.1) = false ∧ n ≤ 64 := by
 unfold aheadE at h
 by_cases h1 : sigE sig = 0
 ·rw [if_pos h1] at h
  by_cases h2 : 64 < sig.length
  ·rw [if_pos h2] at h; omega
  rw [if_neg h2] at h
  cases h3 : (sig.any fun s => sufB s.1) with
  | true => rw [h3] at h; simp at h
  | false =>
   rw [h3] at h
   by_cases h4 : 64 < n
   ·simp [h4] at h
   exact ⟨h1, by omega, rfl, by omega⟩
 rw [if_neg h1] at h
 exact absurd h h1
end Go.Proofs.YtdjmjhlbjcgoiaaGreatDoor
