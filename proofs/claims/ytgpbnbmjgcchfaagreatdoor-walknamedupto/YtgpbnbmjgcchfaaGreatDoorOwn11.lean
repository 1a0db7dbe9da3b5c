/- Texts of the proof, one behind the other. -/
import Derived.Test.YtgpbnbmjgcchfaaGreatDoorOwn9
import Derived.Test.YtgpbnbmjgcchfaaGreatDoorOwn10
import Derived.Test.YtgpbnbmjgcchfaaGreatDoorOwn7
import Derived.Test.YtgpbnbmjgcchfaaGreatDoorOwn4
import Derived.Deep.Slices
import Derived.Test.YtgpbnbmjgcchfaaGreatDoorOwn3
/- Blocks that rise, merged two by two, plainly. -/
namespace Go.Proofs.YtgpbnbmjgcchfaaGreatDoor
open Go.RowKit Go.Maps

theorem seg_same {X M S Y : List Rx} (h : M.length = S.length) {k : Nat} (hk : k < X.length ∨ X.length + S.length ≤ k) : (X ++ M ++ Y)[k]? = (X ++ S ++ Y)[k]? := by
  rw [List.append_assoc, List.append_assoc]
  rcases hk with hk | hk
  · rw [List.getElem?_append_left hk, List.getElem?_append_left hk]
  · rw [List.getElem?_append_right (by omega), List.getElem?_append_right (by omega), List.getElem?_append_right (by omega), List.getElem?_append_right (by omega), h]

theorem seg_up {X M Y : List Rx} (h : Up M) : UpI (X ++ M ++ Y) X.length (X.length + M.length) := fun i j x y hi hij hj hx hy => by
  rw [List.append_assoc, List.getElem?_append_right hi, List.getElem?_append_left (by omega)] at hx
  rw [List.append_assoc, List.getElem?_append_right (by omega), List.getElem?_append_left (by omega)] at hy
  obtain ⟨h1, rfl⟩ := List.getElem?_eq_some_iff.1 hx
  obtain ⟨h2, rfl⟩ := List.getElem?_eq_some_iff.1 hy
  exact (List.pairwise_iff_getElem.1 h) _ _ h1 h2 (by omega)

theorem up_of_seg {X S Y : List Rx} (h : UpI (X ++ S ++ Y) X.length (X.length + S.length)) : Up S := by
  unfold Up
  rw [List.pairwise_iff_getElem]
  intro i j hi hj hij
  refine h (X.length + i) (X.length + j) _ _ (by omega) (by omega) (by omega) ?_ ?_
  · rw [List.append_assoc, List.getElem?_append_right (by omega), List.getElem?_append_left (by omega), Nat.add_sub_cancel_left]
    exact List.getElem?_eq_getElem hi
  · rw [List.append_assoc, List.getElem?_append_right (by omega), List.getElem?_append_left (by omega), Nat.add_sub_cancel_left]
    exact List.getElem?_eq_getElem hj

/-- A row in three parts by places. -/
theorem three {d : List Rx} {a b : Nat} (h1 : a ≤ b) (h2 : b ≤ d.length) : ∃ X S Y, d = X ++ S ++ Y ∧ X.length = a ∧ a + S.length = b ∧ b + Y.length = d.length := by
  obtain ⟨X, U, V, Y, hd, hX, hU, hV, _⟩ := four (d := d) h1 (Nat.le_refl b) h2
  have hV0 : V = [] := List.eq_nil_of_length_eq_zero (by omega)
  subst hV0
  refine ⟨X, U, Y, by simpa using hd, hX, by omega, ?_⟩
  rw [hd]
  simp
  omega

/-- The first T blocks rise, each of w; so far. -/
def Bd1 (d : List Rx) (w T : Nat) : Prop := ∀ t, t < T → UpI d (t * w) (t * w + w)

/-- All blocks of w rise. -/
def Bl (d : List Rx) (w : Nat) : Prop := ∀ t, UpI d (t * w) (t * w + w)

theorem beyond {d : List Rx} {a b : Nat} (h : d.length ≤ a) : UpI d a b := fun i j x y hi hij hj hx hy => by
  have := (List.getElem?_eq_some_iff.1 hx).1
  omega

theorem one_left {d : List Rx} {a b c : Nat} (h : UpI d a c) (h2 : d.length ≤ c) : UpI d a b := fun i j x y hi hij hj hx hy => by
  have := (List.getElem?_eq_some_iff.1 hy).1
  exact h i j x y hi hij (by omega) hx hy

/-- One block more. -/
theorem bd1_step {X M S Y : List Rx} {w T : Nat} (h : Bd1 (X ++ S ++ Y) w T) (hX : X.length = T * w) (hl : M.length = S.length) (hS : S.length = w) (hM : Up M) : Bd1 (X ++ M ++ Y) w (T + 1) := fun t ht => by
  by_cases e : t = T
  · subst e
    have h9 := seg_up (X := X) (Y := Y) hM
    rw [hX, hl, hS] at h9
    exact h9
  · have hle : t * w + w ≤ T * w := by
      have := Nat.mul_le_mul_right w (show t + 1 ≤ T by omega)
      rw [Nat.add_mul, Nat.one_mul] at this
      exact this
    exact (h t (by omega)).same (fun k h1 h2 => seg_same hl (.inl (by omega)))

/-- The rest. -/
theorem bd1_last {X M S : List Rx} {w T : Nat} (h : Bd1 (X ++ S) w T) (hX : X.length = T * w) (hl : M.length = S.length) (hS : S.length < w) (hM : Up M) : Bl (X ++ M) w := fun t => by
  rcases Nat.lt_trichotomy t T with e | e | e
  · have hle : t * w + w ≤ T * w := by
      have := Nat.mul_le_mul_right w (show t + 1 ≤ T by omega)
      rw [Nat.add_mul, Nat.one_mul] at this
      exact this
    refine (h t e).same (fun k h1 h2 => ?_)
    have h9 := seg_same (X := X) (Y := []) hl (k := k) (.inl (by omega))
    simpa using h9
  · subst e
    have h9 := seg_up (X := X) (Y := []) hM
    rw [hX, List.append_nil] at h9
    exact one_left h9 (by rw [List.length_append, hX]; exact Nat.le_refl _)
  · have hle : T * w + w ≤ t * w := by
      have := Nat.mul_le_mul_right w (show T + 1 ≤ t by omega)
      rw [Nat.add_mul, Nat.one_mul] at this
      exact this
    exact beyond (by rw [List.length_append, hX, hl]; omega)

/-- Two by two: T pairs are done, the rest as before. -/
structure Ph (d : List Rx) (w T : Nat) : Prop where
  done : Bd1 d (2 * w) T
  rest : ∀ t, 2 * T ≤ t → UpI d (t * w) (t * w + w)

theorem ph_start {d : List Rx} {w : Nat} (h : Bl d w) : Ph d w 0 := ⟨fun _ ht => absurd ht (Nat.not_lt_zero _), fun t _ => h t⟩

theorem ph_up {X U V Y : List Rx} {w T : Nat} (h : Ph (X ++ U ++ V ++ Y) w T) (hX : X.length = T * (2 * w)) (hU : U.length = w) (hV : V.length ≤ w) : Up U ∧ Up V := by
  have e1 : (2 * T) * w = T * (2 * w) := by rw [Nat.mul_comm 2 T, Nat.mul_assoc]
  have e2 : (2 * T + 1) * w = T * (2 * w) + w := by rw [Nat.add_mul, e1, Nat.one_mul]
  have h1 := h.rest (2 * T) (Nat.le_refl _)
  have h2 := h.rest (2 * T + 1) (by omega)
  rw [e1, ← hX] at h1
  rw [e2, ← hX] at h2
  constructor
  · refine up_of_seg (X := X) (Y := V ++ Y) ?_
    rw [hU, ← List.append_assoc]
    exact h1
  · refine up_of_seg (X := X ++ U) (Y := Y) ?_
    rw [List.length_append, hU]
    exact h2.sub (Nat.le_refl _) (by omega)

theorem ph_step {X M S Y : List Rx} {w T : Nat} (h : Ph (X ++ S ++ Y) w T) (hX : X.length = T * (2 * w)) (hl : M.length = S.length) (hS : S.length = 2 * w) (hM : Up M) : Ph (X ++ M ++ Y) w (T + 1) := by
  refine ⟨bd1_step h.done hX hl hS hM, fun t ht => (h.rest t (by omega)).same (fun k h1 _ => seg_same hl (.inr ?_))⟩
  have e1 : (2 * T) * w = T * (2 * w) := by rw [Nat.mul_comm 2 T, Nat.mul_assoc]
  have e2 : (2 * (T + 1)) * w = T * (2 * w) + 2 * w := by rw [Nat.mul_add, Nat.add_mul, e1]
  have := Nat.mul_le_mul_right w ht
  omega

theorem ph_last {X M S : List Rx} {w T : Nat} (h : Ph (X ++ S) w T) (hX : X.length = T * (2 * w)) (hl : M.length = S.length) (hS : S.length < 2 * w) (hM : Up M) : Bl (X ++ M) (2 * w) := bd1_last h.done hX hl hS hM

theorem ph_alone {X S : List Rx} {w T : Nat} (h : Ph (X ++ S) w T) (hX : X.length = T * (2 * w)) (hS : S.length ≤ w) (hw : 0 < w) : Bl (X ++ S) (2 * w) := by
  refine ph_last h hX rfl (by omega) ?_
  have e1 : (2 * T) * w = T * (2 * w) := by rw [Nat.mul_comm 2 T, Nat.mul_assoc]
  have h1 := h.rest (2 * T) (Nat.le_refl _)
  rw [e1, ← hX] at h1
  refine up_of_seg (X := X) (Y := []) ?_
  rw [List.append_nil]
  exact h1.sub (Nat.le_refl _) (by omega)

theorem bl_up {d : List Rx} {w : Nat} (h : Bl d w) (hw : d.length ≤ w) : Up d := by
  have h1 := h 0
  rw [Nat.zero_mul, Nat.zero_add] at h1
  exact (h1.sub (Nat.le_refl _) hw).up

end Go.Proofs.YtgpbnbmjgcchfaaGreatDoor

/- stable and SortStableFunc at redexes walked. -/
namespace Go.Proofs.YtgpbnbmjgcchfaaGreatDoor
open Go.RowKit Go.Maps Go.BigFrame

set_option maxRecDepth 100000 in
theorem insertionNil_any (v cv : Value) (a : Nat) (w : World) (ha : a ≤ 1152921504606846976) :
    Calls Tryz.prog 82 #[v, .int .i64 (a : Int), .int .i64 (a : Int), cv] w fun e w' => e = .returned (.tuple #[]) ∧ w' = w := by
  have ha1 : IntKind.i64.wrap ((a : Int) + 1) = ((a + 1 : Nat) : Int) := by rw [IntWalk.i64_in _ ⟨by omega, by omega⟩]; omega
  have hd : decide (((a + 1 : Nat) : Int) < (a : Int)) = false := by simpa using (show ¬ ((a + 1 : Nat) : Int) < (a : Int) by omega)
  obtain ⟨B, hB⟩ : ∃ B, B = a + 1 := ⟨_, rfl⟩
  rw [← hB] at ha1 hd
  have hn : ¬ B < a := by omega
  clear hB
  go_enter Tryz.func82, Tryz.ntmps82
  go_wp2
  go_loopw [8] (fun iv wr => iv = .int .i64 (B : Int) ∧ wr = w) (fun _ _ => 0)
  case atStart => exact ⟨rfl, rfl⟩
  case round =>
    obtain ⟨rfl, hw⟩ := hrel
    have hw8 := hw.symm
    subst hw8
    go_wp2
    go_end0
    exact ⟨rfl, rfl⟩

theorem insertion0_any (g cap base a b L : Nat) (X U Y : List Rx) (w : World) (hX : X.length = a) (hU : a + U.length = b) (hL : b + Y.length = L) (h : OX w base (.slice (some ⟨g, 0, none⟩) L cap) (X ++ U ++ Y)) (hc : L ≤ cap) (hc2 : cap ≤ 9223372036854775807) (hc3 : L ≤ 1152921504606846976) :
    Calls Tryz.prog 82 #[.slice (some ⟨g, 0, none⟩) L cap, .int .i64 (a : Int), .int .i64 (b : Int), cmpF] w fun e w' => ∃ M, e = .returned (.tuple #[]) ∧ Mg U [] M ∧ OX w' base (.slice (some ⟨g, 0, none⟩) L cap) (X ++ M ++ Y) ∧ w.grownBy w' (some g) := by
  by_cases h0 : U.length = 0
  · obtain rfl : U = [] := List.eq_nil_of_length_eq_zero h0
    obtain rfl : a = b := by simpa using hU
    refine (insertionNil_any _ _ a w (by omega)).mono ?_
    rintro e w' ⟨rfl, rfl⟩
    exact ⟨[], rfl, mg_nil_right List.Pairwise.nil, by simpa using h, World.grownBy.refl _ _⟩
  · exact insertion_any g cap base a b L X U Y w hX hU hL (by omega) h hc hc2 hc3

set_option maxRecDepth 100000 in
set_option maxHeartbeats 6400000 in
theorem stable_any (g cap base L : Nat) (d : List Rx) (w : World) (h : OX w base (.slice (some ⟨g, 0, none⟩) L cap) d) (hc : L ≤ cap) (hc2 : cap ≤ 9223372036854775807) (hc3 : L ≤ 1152921504606846976) :
    Calls Tryz.prog 60 #[.slice (some ⟨g, 0, none⟩) L cap, .int .i64 (L : Int), cmpF] w fun e w' => ∃ M, e = .returned (.tuple #[]) ∧ (Up M ∧ Fil M d) ∧ OX w' base (.slice (some ⟨g, 0, none⟩) L cap) M ∧ w.grownBy w' (some g) := by
  have HO := hid h
  have HSy := hid (symMerge_all g cap base L hc hc2 hc3)
  clear h
  go_enter Tryz.func60, Tryz.ntmps60
  go_wp2
  go_loopw [7, 8] (fun av bv wr => ∃ (T A B : Nat) (d' : List Rx), av = .int .i64 A ∧ bv = .int .i64 B ∧ A = T * 20 ∧ B = A + 20 ∧ A ≤ L ∧ Bd1 d' 20 T ∧ Fil d' d ∧ OX wr base (.slice (some ⟨g, 0, none⟩) L cap) d' ∧ w.grownBy wr (some g)) (fun _ bv _ => L + 20 - (intOf bv).toNat)
  case atStart => exact ⟨0, 0, 20, d, rfl, rfl, rfl, rfl, Nat.zero_le _, fun t ht => absurd ht (Nat.not_lt_zero _), Fil.refl _, HO.out, World.grownBy.refl _ _⟩
  case round =>
    obtain ⟨T, A, B, d', rfl, rfl, hA, hB, hAL, hbd, hfil, how, hgr⟩ := hrel
    have HE := hid (show A = T * 20 ∧ B = A + 20 from ⟨hA, hB⟩)
    have HBd := hid hbd
    have HF := hid hfil
    have HW := hid how
    have HG := hid hgr
    have hAB : A ≤ B := by omega
    clear hbd hfil how hgr
    by_cases hlt : B ≤ L
    · have hd : decide ((B : Int) ≤ (L : Int)) = true := by simpa using hlt
      obtain ⟨X, S, Y, hd', hX, hS, hY⟩ := three (d := d') hAB (by rw [HW.out.len]; exact hlt)
      rw [HW.out.len] at hY
      rw [hd'] at HW HBd HF
      have HI := hid (insertion0_any g cap base A B L X S Y wr hX hS hY HW.out hc hc2 hc3)
      have HS := hid (show X.length = A ∧ A + S.length = B ∧ B + Y.length = L from ⟨hX, hS, hY⟩)
      have hBw : IntKind.i64.wrap ((B : Int) + 20) = ((B + 20 : Nat) : Int) := by rw [IntWalk.i64_in _ ⟨by omega, by omega⟩]; omega
      clear hd' hX hS hY hA hB
      go_wp2_with fail
      refine HI.out.mono ?_
      rintro e w1 ⟨M, rfl, m1, o1, g1⟩
      have hml := m1.len
      have HN := hid (bd1_step (X := X) (M := M) (S := S) (Y := Y) HBd.out (by have := HS.out; have := HE.out; omega) (by simpa using hml) (by have := HS.out; have := HE.out; omega) m1.1)
      have HNf : Hid (Fil (X ++ M ++ Y) d) := (((Fil.refl X).app (by have h9 := m1.2; rw [List.append_nil] at h9; exact h9)).app (Fil.refl Y)).trans HF.out
      have O1 := hid o1
      have G1 := hid (HG.out.trans g1)
      clear m1 o1 g1 hml HI
      go_wp2
      go_roundw
      case rel => exact ⟨T + 1, B, B + 20, _, rfl, by go_num, by have := HE.out; omega, rfl, hlt, HN.out, HNf.out, O1.out, G1.out⟩
      case measure => simp only [intOf]; omega
    · have hd : decide ((B : Int) ≤ (L : Int)) = false := by simpa using (show ¬ (B : Int) ≤ (L : Int) by omega)
      obtain ⟨X, S, Y, hd', hX, hS, hY⟩ := three (d := d') hAL (by rw [HW.out.len]; exact Nat.le_refl _)
      rw [HW.out.len] at hY
      obtain rfl : Y = [] := List.eq_nil_of_length_eq_zero (by omega)
      rw [hd'] at HW HBd HF
      have HI := hid (insertion0_any g cap base A L L X S [] wr hX hS (by simp) HW.out hc hc2 hc3)
      have HS := hid (show X.length = A ∧ A + S.length = L from ⟨hX, hS⟩)
      clear hd' hX hS hY hA hB
      go_wp2_with fail
      refine HI.out.mono ?_
      rintro e w1 ⟨M, rfl, m1, o1, g1⟩
      have hml := m1.len
      have HN : Hid (Bl (X ++ M) 20) := by
        have h9 := HBd.out
        rw [List.append_nil] at h9
        exact bd1_last h9 (by have := HS.out; have := HE.out; omega) (by simpa using hml) (by have := HS.out; have := HE.out; omega) m1.1
      have HNf : Hid (Fil (X ++ M) d) := by
        have h9 := m1.2
        have h8 := HF.out
        rw [List.append_nil] at h9 h8
        exact ((Fil.refl X).app h9).trans h8
      have O1 : Hid (OX w1 base (.slice (some ⟨g, 0, none⟩) L cap) (X ++ M)) := by have h9 := o1; rw [List.append_nil] at h9; exact h9
      have G1 := hid (HG.out.trans g1)
      clear m1 o1 g1 hml HI HBd HF HW HG HE HS hAB hlt hd
      generalize X ++ M = d1 at HN HNf O1
      go_wp2
      go_loopw [6] (fun bv wr => ∃ (bs : Nat) (d' : List Rx), bv = .int .i64 bs ∧ 0 < bs ∧ bs ≤ 2 * L + 20 ∧ Bl d' bs ∧ Fil d' d ∧ OX wr base (.slice (some ⟨g, 0, none⟩) L cap) d' ∧ w.grownBy wr (some g)) (fun bv _ => L - (intOf bv).toNat)
      case atStart => exact ⟨20, d1, rfl, by omega, by omega, HN.out, HNf.out, O1.out, G1.out⟩
      case round =>
        obtain ⟨bs, d', rfl, hbs, hbs2, hbl, hfil, how, hgr⟩ := hrel
        have HBl := hid hbl
        have HF := hid hfil
        have HW := hid how
        have HG := hid hgr
        clear hbl hfil how hgr HN HNf O1 G1
        by_cases hlt : bs < L
        · have hd : decide ((bs : Int) < (L : Int)) = true := by simpa using hlt
          obtain ⟨W2, hW2⟩ : ∃ W2, W2 = 2 * bs := ⟨_, rfl⟩
          have hw2 : IntKind.i64.wrap (2 * (bs : Int)) = (W2 : Int) := by rw [IntWalk.i64_in _ ⟨by omega, by omega⟩]; omega
          have hw3 : IntKind.i64.wrap ((bs : Int) * 2) = (W2 : Int) := by rw [IntWalk.i64_in _ ⟨by omega, by omega⟩]; omega
          have HW2 := hid hW2
          have hW2a : bs < W2 := by omega
          have hW2b : W2 ≤ 2 * L := by omega
          clear hW2
          go_wp2
          go_loopw [7, 8] (fun av bv wr => ∃ (T A B : Nat) (d' : List Rx), av = .int .i64 A ∧ bv = .int .i64 B ∧ A = T * (2 * bs) ∧ B = A + W2 ∧ A ≤ L ∧ Ph d' bs T ∧ Fil d' d ∧ OX wr base (.slice (some ⟨g, 0, none⟩) L cap) d' ∧ w.grownBy wr (some g)) (fun _ bv _ => L + W2 - (intOf bv).toNat)
          case atStart => exact ⟨0, 0, W2, d', rfl, rfl, by rw [Nat.zero_mul], by omega, Nat.zero_le _, ph_start HBl.out, HF.out, HW.out, HG.out⟩
          case round =>
            clear HBl HF HW HG
            obtain ⟨T, A, B, d2, rfl, rfl, hA, hB, hAL, hph, hfil, how, hgr⟩ := hrel
            have HE := hid (show A = T * (2 * bs) ∧ B = A + W2 from ⟨hA, hB⟩)
            have HPh := hid hph
            have HF := hid hfil
            have HW := hid how
            have HG := hid hgr
            have hAB : A + bs ≤ B := by omega
            have hAbs : IntKind.i64.wrap ((A : Int) + (bs : Int)) = ((A + bs : Nat) : Int) := by rw [IntWalk.i64_in _ ⟨by omega, by omega⟩]; omega
            obtain ⟨C, hC⟩ : ∃ C, C = A + bs := ⟨_, rfl⟩
            rw [← hC] at hAbs hAB
            have HC := hid hC
            have hAC : A ≤ C := by omega
            have hB3 : B ≤ 3 * L := by omega
            clear hph hfil how hgr hA hC
            by_cases hlt3 : B ≤ L
            · have hd3 : decide ((B : Int) ≤ (L : Int)) = true := by simpa using hlt3
              obtain ⟨X, U, V, Y, hd', hX, hU, hV, _⟩ := four (d := d2) hAC hAB (by rw [HW.out.len]; exact hlt3)
              have hlen := HW.out.len
              rw [hd'] at HW HPh HF hlen
              have hY : B + Y.length = L := by simp at hlen; omega
              have hUl : U.length = bs := by have := HC.out; omega
              have hVl : V.length = bs := by have := HC.out; have := HE.out; have := HW2.out; omega
              obtain ⟨u1, u2⟩ := ph_up HPh.out (by rw [hX]; exact HE.out.1) hUl (by omega)
              have HI := hid (HSy.out (2 * bs) X U V Y A C B wr hX (by omega) (by omega) hY (by omega) (by omega) (by omega) u1 u2 HW.out)
              have HS := hid (show X.length = A ∧ U.length = bs ∧ V.length = bs from ⟨hX, hUl, hVl⟩)
              have hBw : IntKind.i64.wrap ((B : Int) + (W2 : Int)) = ((B + W2 : Nat) : Int) := by rw [IntWalk.i64_in _ ⟨by omega, by omega⟩]; omega
              clear hd' hX hU hV hY hUl hVl u1 u2 hlen hB
              go_wp2_with fail
              refine HI.out.mono ?_
              rintro e w1 ⟨M, rfl, m1, o1, g1⟩
              have hml := m1.len
              have HN := hid (ph_step (X := X) (M := M) (S := U ++ V) (Y := Y) (w := bs) (T := T) (by have h9 := HPh.out; rw [List.append_assoc X U V] at h9; exact h9) (by rw [HS.out.1]; exact HE.out.1) (by rw [hml, List.length_append]) (by have := HS.out; rw [List.length_append]; omega) m1.1)
              have HNf : Hid (Fil (X ++ M ++ Y) d) := (((Fil.refl X).app m1.2).app (Fil.refl Y)).trans (by have h9 := HF.out; rw [List.append_assoc X U V] at h9; exact h9)
              have O1 := hid o1
              have G1 := hid (HG.out.trans g1)
              clear m1 o1 g1 hml HI
              go_wp2
              go_roundw
              case rel => exact ⟨T + 1, B, B + W2, _, rfl, by go_num, by rw [Nat.add_mul, Nat.one_mul, ← HE.out.1, HE.out.2, HW2.out], rfl, hlt3, HN.out, HNf.out, O1.out, G1.out⟩
              case measure => simp only [intOf]; omega
            · have hd3 : decide ((B : Int) ≤ (L : Int)) = false := by simpa using (show ¬ (B : Int) ≤ (L : Int) by omega)
              have hbn : W2 ≤ 2 * L + 20 := by omega
              by_cases hm : C < L
              · have hd4 : decide ((C : Int) < (L : Int)) = true := by simpa using hm
                obtain ⟨X, U, V, Y, hd', hX, hU, hV, _⟩ := four (d := d2) hAC (Nat.le_of_lt hm) (by rw [HW.out.len]; exact Nat.le_refl _)
                have hlen := HW.out.len
                rw [hd'] at HW HPh HF hlen
                obtain rfl : Y = [] := List.eq_nil_of_length_eq_zero (by simp at hlen; omega)
                have hUl : U.length = bs := by have := HC.out; omega
                have hVl : V.length < bs := by have := HC.out; have := HE.out; have := HW2.out; omega
                obtain ⟨u1, u2⟩ := ph_up HPh.out (by rw [hX]; exact HE.out.1) hUl (by omega)
                have HI := hid (HSy.out (2 * bs) X U V [] A C L wr hX (by omega) (by omega) (by simp) (by omega) (by omega) (by omega) u1 u2 HW.out)
                have HS := hid (show X.length = A ∧ U.length = bs ∧ V.length < bs from ⟨hX, hUl, hVl⟩)
                clear hd' hX hU hV hUl hVl u1 u2 hlen hB
                go_wp2_with fail
                refine HI.out.mono ?_
                rintro e w1 ⟨M, rfl, m1, o1, g1⟩
                have hml := m1.len
                have HN : Hid (Bl (X ++ M) W2) := by
                  have h9 := HPh.out
                  rw [List.append_nil, List.append_assoc X U V] at h9
                  have h8 := ph_last h9 (M := M) (by rw [HS.out.1]; exact HE.out.1) (by rw [hml, List.length_append]) (by have := HS.out; rw [List.length_append]; omega) m1.1
                  rw [← HW2.out] at h8
                  exact h8
                have HNf : Hid (Fil (X ++ M) d) := ((Fil.refl X).app m1.2).trans (by have h9 := HF.out; rw [List.append_nil, List.append_assoc X U V] at h9; exact h9)
                have O1 : Hid (OX w1 base (.slice (some ⟨g, 0, none⟩) L cap) (X ++ M)) := by have h9 := o1; rw [List.append_nil] at h9; exact h9
                have G1 := hid (HG.out.trans g1)
                clear m1 o1 g1 hml HI
                go_wp2
                go_roundw
                case rel => exact ⟨W2, _, rfl, by omega, hbn, HN.out, HNf.out, O1.out, G1.out⟩
                case measure => simp only [intOf]; omega
              · have hd4 : decide ((C : Int) < (L : Int)) = false := by simpa using (show ¬ (C : Int) < (L : Int) by omega)
                obtain ⟨X, S, Y, hd', hX, hS, hY⟩ := three (d := d2) hAL (by rw [HW.out.len]; exact Nat.le_refl _)
                rw [HW.out.len] at hY
                obtain rfl : Y = [] := List.eq_nil_of_length_eq_zero (by omega)
                have HN : Hid (Bl d2 W2) := by
                  have h9 := HPh.out
                  have h7 : d2 = X ++ S := by simpa using hd'
                  rw [h7] at h9 ⊢
                  have h8 := ph_alone h9 (by rw [hX]; exact HE.out.1) (by have := HC.out; omega) hbs
                  rw [← HW2.out] at h8
                  exact h8
                clear hd' hX hS hY hB
                go_wp2
                go_roundw
                case rel => exact ⟨W2, _, rfl, by omega, hbn, HN.out, HF.out, HW.out, HG.out⟩
                case measure => simp only [intOf]; omega
        · have hd : decide ((bs : Int) < (L : Int)) = false := by simpa using (show ¬ (bs : Int) < (L : Int) by omega)
          go_wp2
          go_end0
          exact ⟨d', rfl, ⟨bl_up HBl.out (by rw [HW.out.len]; omega), HF.out⟩, HW.out, HG.out⟩

end Go.Proofs.YtgpbnbmjgcchfaaGreatDoor

/- areTerms of package match walked. -/
namespace Go.Proofs.YtgpbnbmjgcchfaaGreatDoor
open Go.RowKit Go.Maps

def termsB (sig : List Sy) (l : List (List Int)) : Bool := l.all fun t => decide (termE sig t = 0)

theorem termsB_take {sig : List Sy} {l : List (List Int)} {k : Nat} {t : List Int} (h : l[k]? = some t) : termsB sig (l.take (k + 1)) = (termsB sig (l.take k) && decide (termE sig t = 0)) := by
  unfold termsB
  rw [take_get h, List.all_append]
  simp

theorem termsB_no {sig : List Sy} {l : List (List Int)} {k : Nat} {t : List Int} (h : l[k]? = some t) (hn : termE sig t ≠ 0) : termsB sig l = false := by
  unfold termsB
  rw [List.all_eq_false]
  exact ⟨t, List.mem_of_getElem? h, by simpa using hn⟩

set_option maxRecDepth 100000 in
set_option maxHeartbeats 800000 in
theorem areTerms_any (sv rv : Value) (sig : List Sy) (l : List (List Int)) (w : World) (hs : Sg w sv sig) (h : Rs w rv l) (hT : Tabs w) :
    Calls Tryz.prog 68 #[sv, rv] w fun e w' => e = .returned (.bool (termsB sig l)) ∧ Below w.heap.size w w' := by
  obtain ⟨ao, cap, rfl, hao, hca, _⟩ := Row.flat h
  unfold maxLen at hca
  have HS := hid hs
  have HR := hid h
  have HT := hid hT
  clear hs h hT
  go_enter Tryz.func68, Tryz.ntmps68
  go_wp2
  go_loopw [9] (fun i wr => ∃ k : Nat, k ≤ l.length ∧ i = .int .i64 k ∧ termsB sig (l.take k) = true ∧ Below w.heap.size w wr) (fun i _ => l.length - (intOf i).toNat)
  case atStart => exact ⟨0, Nat.zero_le _, rfl, rfl, Below.refl _ _⟩
  case round =>
    obtain ⟨k, hk, rfl, hall, hbl⟩ := hrel
    have HAll := hid hall
    have HB := hid hbl
    clear hall
    by_cases hlt : k < l.length
    · obtain ⟨g, off, a, t, c, rfl, hm, hc, hit, hl8⟩ := HR.out.at hlt
      have hcr := (Kp.of_below hbl).cell _ _ hc
      have HM := hid hm
      have HIt := hid (hit.kp (Kp.of_below hbl))
      clear hm hit hbl hc
      go_wp2_with fail
      refine (check_any _ _ sig t wr (HS.out.kp (Kp.of_below HB.out)) HIt.out (HT.out.below HB.out) hl8).mono ?_
      rintro e w2 ⟨rfl, hb2⟩
      have HB2 := hid (below_step HB.out hb2)
      clear hcr hb2
      by_cases h0 : termE sig t = 0
      · rw [h0]
        have HA2 : Hid (termsB sig (l.take (k + 1)) = true) := by show _ = _; rw [termsB_take HM.out, HAll.out, h0]; rfl
        clear h0
        go_wp2
        go_roundw
        case measure => simp only [intOf]; omega
        case rel => exact ⟨k + 1, hlt, by go_num, HA2.out, HB2.out⟩
      · have HN := hid (termsB_no HM.out h0)
        have hne : (termE sig t != 0) = true := by simpa using h0
        clear h0
        go_wp2
        go_ret
        exact ⟨by have h9 := HN.out; simp [h9], HB2.out⟩
    · have HF : Hid (termsB sig l = true) := by
        have h9 := HAll.out
        rw [List.take_of_length_le (by omega)] at h9
        exact h9
      go_wp2
      go_ret
      exact ⟨by have h9 := HF.out; simp [h9], HB.out⟩

end Go.Proofs.YtgpbnbmjgcchfaaGreatDoor

/- Binds of one's own: rows that are the call's or older ones; a bind joined, binds joined. -/
namespace Go.Proofs.YtgpbnbmjgcchfaaGreatDoor
open Go.RowKit Go.Maps

theorem info_bind : (Tryz.prog.info? 121).map (fun i => (i.zero, i.size, i.bytes)) = some (some (.agg #[.int .i64 0, .slice none 0 0]), 2, 32) := by kernel_rfl
theorem under_binds : Tryz.prog.underlying 39 = some (.slice 121) := by kernel_rfl

def flatB (s : List Bd) (us : List Value) : List Value := (s.zip us).flatMap fun p => [.int .i64 p.1.1, p.2]

/-- A row of a bind: the call's own, or one that was there. -/
def RowB (w0 w : World) (u : Value) (t : List Int) : Prop := OwI w w0.heap.size u t ∨ Is w0 u t

theorem RowB.is {w0 w : World} {u : Value} {t : List Int} (h : RowB w0 w u t) (hb : Below w0.heap.size w0 w) : Is w u t := by
  rcases h with h | h
  · exact h.is
  · exact h.kp (Kp.of_below hb)

theorem RowB.one {w0 w : World} {u : Value} {t : List Int} (h : RowB w0 w u t) : u.oneCell' = true := by
  rcases h with h | h
  · obtain ⟨_, _, rfl, _⟩ := h.shape
    rfl
  · obtain ⟨_, _, rfl, _⟩ := h
    rfl

def EBd (w0 w : World) (u : Value) (b : Bd) : Prop := RowB w0 w u b.2 ∧ -9223372036854775808 ≤ b.1 ∧ b.1 ≤ 9223372036854775807 ∧ b.2.length * 8 ≤ 140737488351232

/-- The slice value v is the call's own and holds the binds s. -/
def OB (w0 w : World) (v : Value) (s : List Bd) : Prop :=
  ∃ us : List Value, us.length = s.length ∧ (∀ (i : Nat) (u : Value) (b : Bd), us[i]? = some u → s[i]? = some b → EBd w0 w u b) ∧ w.ownsRow w0.heap.size 121 2 v s.length (flatB s us)

theorem flatB_get : ∀ {s : List Bd} {us : List Value} {i : Nat} {b : Bd} {u : Value}, s[i]? = some b → us[i]? = some u → (flatB s us)[i * 2]? = some (.int .i64 b.1) ∧ (flatB s us)[i * 2 + 1]? = some u
  | [], _, i, _, _, h, _ => by simp at h
  | _ :: _, [], i, _, _, _, h => by simp at h
  | a :: s, v :: us, 0, b, u, h, k => by
    simp at h k
    subst h
    subst k
    exact ⟨by simp [flatB], by simp [flatB]⟩
  | a :: s, v :: us, i + 1, b, u, h, k => by
    rw [List.getElem?_cons_succ] at h k
    obtain ⟨h1, h2⟩ := flatB_get h k
    have e : flatB (a :: s) (v :: us) = .int .i64 a.1 :: v :: flatB s us := rfl
    rw [e]
    refine ⟨?_, ?_⟩
    · rw [show (i + 1) * 2 = i * 2 + 1 + 1 by omega]; simpa using h1
    · rw [show (i + 1) * 2 + 1 = i * 2 + 1 + 1 + 1 by omega]; simpa using h2

theorem flatB_len : ∀ {s : List Bd} {us : List Value}, us.length = s.length → (flatB s us).length = s.length * 2
  | [], us, h => by simp [flatB]
  | a :: s, [], h => by simp at h
  | a :: s, u :: us, h => by
    have e : flatB (a :: s) (u :: us) = .int .i64 a.1 :: u :: flatB s us := rfl
    rw [e, List.length_cons, List.length_cons, flatB_len (by simpa using h), List.length_cons]
    omega

theorem flatB_append : ∀ {s r : List Bd} {us vs : List Value}, us.length = s.length → flatB (s ++ r) (us ++ vs) = flatB s us ++ flatB r vs := by
  intro s r us vs h
  unfold flatB
  rw [List.zip_append h.symm, List.flatMap_append]

theorem flatB_one : ∀ {s : List Bd} {us : List Value}, (∀ u ∈ us, u.oneCell' = true) → ∀ c ∈ flatB s us, c.oneCell' = true
  | [], _, _, c, hc => by simp [flatB] at hc
  | _ :: _, [], _, c, hc => by simp [flatB] at hc
  | a :: s, u :: us, h, c, hc => by
    have e : flatB (a :: s) (u :: us) = .int .i64 a.1 :: u :: flatB s us := rfl
    rw [e] at hc
    cases hc with
    | head => rfl
    | tail _ hc =>
      cases hc with
      | head => exact h u (.head _)
      | tail _ hc => exact flatB_one (fun x hx => h x (.tail _ hx)) c hc

theorem OB.bs {w0 w : World} {v : Value} {s : List Bd} (h : OB w0 w v s) (hb : Below w0.heap.size w0 w) : Bs w v s := by
  obtain ⟨us, hl, hc, ho⟩ := h
  have ho2 := ho
  rcases ho2.2 with ⟨rfl, hn⟩ | ⟨g, cap, cur, rfl, hbg, hg, hcap, hm, hs, ht⟩
  · obtain rfl := List.eq_nil_of_length_eq_zero hn
    exact Row.nil (by simp [maxLen])
  · refine ⟨_, cap, rfl, hcap, hm, fun _ => ⟨g, 0, rfl, (Array.getElem?_eq_some_iff.1 hg).1, ?_⟩⟩
    intro k b hk
    have hlt : k < s.length := (List.getElem?_eq_some_iff.1 hk).1
    have hck : us[k]? = some us[k] := List.getElem?_eq_getElem (by omega)
    obtain ⟨h1, h2⟩ := flatB_get hk hck
    obtain ⟨o1, o2, o3, o4⟩ := hc k _ b hck hk
    refine ⟨o2, o3, o4, ?_, us[k], ?_, o1.is hb⟩
    · rw [Nat.zero_add, World.ownsRow.cellAt ho2 (k * 2) (by omega)]
      exact h1
    · rw [Nat.zero_add, World.ownsRow.cellAt ho2 (k * 2 + 1) (by omega)]
      exact h2

theorem RowB.later {w0 w w' : World} {u : Value} {t : List Int} (h : RowB w0 w u t) (hb : Below w.heap.size w w') : RowB w0 w' u t := by
  rcases h with h | h
  · exact .inl (h.later hb)
  · exact .inr h

theorem OB.later {w0 w w' : World} {v : Value} {s : List Bd} (h : OB w0 w v s) (hb : Below w.heap.size w w') : OB w0 w' v s := by
  obtain ⟨us, hl, hc, ho⟩ := h
  exact ⟨us, hl, fun i u b h1 h2 => ⟨(hc i u b h1 h2).1.later hb, (hc i u b h1 h2).2⟩, ownsRow_later ho hb⟩

theorem OB.empty (w0 w : World) (hb : w0.heap.size ≤ w.heap.size) : OB w0 (w.alloc (.cells #[] 121)) (.slice (some ⟨w.heap.size, 0, none⟩) 0 0) [] :=
  ⟨[], rfl, fun i c m h => (by simp at h), rfl, .inr ⟨w.heap.size, 0, #[], rfl, hb, heap_alloc_new _ _, Nat.le_refl _, Nat.zero_le _, rfl, rfl⟩⟩

theorem OB.shape {w0 w : World} {v : Value} {s : List Bd} (h : OB w0 w v s) : ∃ ao cap, v = .slice ao s.length cap ∧ s.length ≤ cap ∧ cap ≤ maxLen := by
  obtain ⟨us, hl, hc, ho⟩ := h
  rcases ho.2 with ⟨rfl, hn⟩ | ⟨g, cap, cur, rfl, hb, hg, hc, hm, hs, ht⟩
  · exact ⟨none, 0, by rw [hn], by omega, by simp [maxLen]⟩
  · exact ⟨_, cap, rfl, hc, hm⟩

/-- Binds in memory joined to one's own. -/
theorem OB.join (ty : TypeId) {w0 w : World} {v : Value} {s r : List Bd} {us : List Value} (h : OB w0 w v s) (hb : Below w0.heap.size w0 w) {g off cap : Nat} (_hr : 0 < r.length) (hu : us.length = r.length)
    (hcell : ∀ (j : Nat) (c : Value), (flatB r us)[j]? = some c → w.cell? ⟨g, off + j, none⟩ = some c) (hE : ∀ (i : Nat) (u : Value) (b : Bd), us[i]? = some u → r[i]? = some b → EBd w0 w u b) (hlen : (s.length + r.length) * 32 ≤ 140737488355328) :
    ∃ v' w', (Builtin.append_ #[39, 39] ty #[v, .slice (some ⟨g, off, none⟩) r.length cap]).run Tryz.prog w = .ok v' w' ∧ OB w0 w' v' (s ++ r) ∧ Below w0.heap.size w0 w' := by
  obtain ⟨i1, hi1, hy0, hy1, hy2⟩ := info_parts info_bind
  obtain ⟨vs, hl, hc, ho⟩ := h
  obtain ⟨v', w', hrun, h2, h3, _, _⟩ := run_append_own_at (P := Tryz.prog) w w0.heap.size 39 ty 121 i1 _ 2 32 under_binds hi1 hy0 hy1 hy2 rfl (by decide) v s.length (flatB s vs) ho ⟨g, off, none⟩ r.length cap (flatB r us) (by rw [flatB_len hu])
    (fun j c hj => by rw [Addr.add_lit]; exact hcell j c hj)
    (flatB_one fun u hu2 => by
      obtain ⟨i, hi, rfl⟩ := List.getElem_of_mem hu2
      obtain ⟨b, hbx⟩ : ∃ b, r[i]? = some b := ⟨_, List.getElem?_eq_getElem (by omega)⟩
      exact (hE i _ b (List.getElem?_eq_getElem hi) hbx).1.one) (by unfold maxLen; omega) (by omega) hb.size
  have hk : ∀ {u : Value} {t : List Int}, RowB w0 w u t → RowB w0 w' u t := fun {u t} hu => by
    rcases hu with hu | hu
    · exact .inl (hu.kept h3 (ownsRow_apart hu.2 ho (by decide)))
    · exact .inr hu
  refine ⟨v', w', hrun, ⟨vs ++ us, by rw [List.length_append, List.length_append, hl, hu], fun i u b h1 h4 => ?_, ?_⟩, hb.grown h3 hb.size (fun j hj => own_blk ho hj)⟩
  · by_cases hi : i < vs.length
    · rw [List.getElem?_append_left hi] at h1
      rw [List.getElem?_append_left (by omega)] at h4
      exact ⟨hk (hc i u b h1 h4).1, (hc i u b h1 h4).2⟩
    · rw [List.getElem?_append_right (by omega)] at h1
      rw [List.getElem?_append_right (by omega), ← hl] at h4
      exact ⟨hk (hE _ u b h1 h4).1, (hE _ u b h1 h4).2⟩
  · rw [List.length_append, flatB_append hl]
    exact h2

/-- One bind joined. -/
theorem OB.snoc (ty : TypeId) {w0 w : World} {v u : Value} {s : List Bd} {x : Int} {t : List Int} (h : OB w0 w v s) (hb : Below w0.heap.size w0 w) (hE : EBd w0 w u (x, t)) (hlen : (s.length + 1) * 32 ≤ 140737488355328) :
    ∃ v' w', (Builtin.append_ #[39, 39] ty #[v, .slice (some ⟨w.heap.size, 0, none⟩) 1 1]).run Tryz.prog (w.alloc (.cells #[.int .i64 x, u] 121)) = .ok v' w' ∧ OB w0 w' v' (s ++ [(x, t)]) ∧ Below w0.heap.size w0 w' := by
  have ha := below_alloc (w := w) (.cells #[.int .i64 x, u] 121)
  refine (h.later ha).join ty (r := [(x, t)]) (us := [u]) (below_step hb ha) (by simp) rfl (fun j c hj => ?_) (fun i u' b h1 h2 => ?_) (by simpa using hlen)
  · rw [Nat.zero_add, cell_of_row _ _ _ _ _ _ (heap_alloc_new _ _)]
    simpa [flatB] using hj
  · have hi : i = 0 := by
      have := (List.getElem?_eq_some_iff.1 h1).1
      simp at this
      omega
    subst hi
    simp at h1 h2
    subst h1
    subst h2
    exact ⟨hE.1.later ha, hE.2⟩

/-- Binds that were there joined. -/
theorem OB.old (ty : TypeId) {w0 w : World} {v u : Value} {s r : List Bd} (h : OB w0 w v s) (hb : Below w0.heap.size w0 w) (hr : Bs w0 u r) (hlen : (s.length + r.length) * 32 ≤ 140737488355328) :
    ∃ v' w', (Builtin.append_ #[39, 39] ty #[v, u]).run Tryz.prog w = .ok v' w' ∧ OB w0 w' v' (s ++ r) ∧ Below w0.heap.size w0 w' := by
  obtain ⟨i1, hi1, hy0, hy1, hy2⟩ := info_parts info_bind
  obtain ⟨ao, cap, rfl, hc, hm, hx⟩ := hr
  by_cases h0 : r.length = 0
  · obtain rfl : r = [] := List.eq_nil_of_length_eq_zero h0
    obtain ⟨bo, bc, rfl, hbc, _⟩ := h.shape
    refine ⟨_, w, run_append_nothing w 39 39 ty 121 i1 under_binds hi1 _ s.length bc hbc _ ?_, by rw [List.append_nil]; exact h, hb⟩
    cases ao with
    | none => exact Src.ofNil w under_binds _
    | some a => exact Src.ofSlice w under_binds a 0 _ [] (by simp) (fun j u hj => (by simp at hj)) (fun u hu => (by simp at hu))
  · obtain ⟨g, off, rfl, hg, hcell⟩ := hx (by omega)
    have each : ∀ i, i < r.length → ∃ u : Value, ∀ b, r[i]? = some b → w0.cell? ⟨g, off + i * 2, none⟩ = some (.int .i64 b.1) ∧ w0.cell? ⟨g, off + i * 2 + 1, none⟩ = some u ∧ EBd w0 w u b := fun i hi => by
      obtain ⟨b, hbx⟩ : ∃ b, r[i]? = some b := ⟨_, List.getElem?_eq_getElem hi⟩
      obtain ⟨h1, h2, h3, h4, u, h5, h6⟩ := hcell i b hbx
      refine ⟨u, fun b' hb' => ?_⟩
      rw [hbx] at hb'
      cases hb'
      exact ⟨h4, h5, .inr h6, h1, h2, h3⟩
    obtain ⟨q, hq⟩ := Deep.choose_lt each
    refine h.join ty (r := r) (us := (List.range r.length).map q) hb (by omega) (by simp) (fun j c hj => ?_) (fun i u b h1 h2 => ?_) hlen
    · have hjl := (List.getElem?_eq_some_iff.1 hj).1
      rw [flatB_len (by simp)] at hjl
      obtain ⟨b, hbx⟩ : ∃ b, r[j / 2]? = some b := ⟨_, List.getElem?_eq_getElem (by omega)⟩
      have hux : ((List.range r.length).map q)[j / 2]? = some (q (j / 2)) := by simp [List.getElem?_range (show j / 2 < r.length by omega)]
      obtain ⟨f1, f2⟩ := flatB_get hbx hux
      obtain ⟨c1, c2, _⟩ := hq (j / 2) (by omega) b hbx
      by_cases hpar : j % 2 = 0
      · rw [show j / 2 * 2 = j by omega] at f1 c1
        rw [f1] at hj
        cases hj
        exact (Kp.of_below hb).cell _ _ c1
      · rw [show j / 2 * 2 + 1 = j by omega] at f2
        rw [f2] at hj
        cases hj
        rw [show off + j / 2 * 2 + 1 = off + j by omega] at c2
        exact (Kp.of_below hb).cell _ _ c2
    · have hi := (List.getElem?_eq_some_iff.1 h2).1
      rw [List.getElem?_map, List.getElem?_range hi, Option.map_some, Option.some.injEq] at h1
      subst h1
      exact (hq i hi b h2).2.2

end Go.Proofs.YtgpbnbmjgcchfaaGreatDoor

/- Binds whose rows are the call's own; a look into a map of rows. -/
namespace Go.Proofs.YtgpbnbmjgcchfaaGreatDoor
open Go.RowKit Go.Maps

theorem MapV.lookOne {w : World} {b : Nat} {L : List (Int × Value)} (h : MapV w b L) {t e : TypeId} {z : Value} (ht : Tryz.prog.underlying t = some (.map 3 e)) (hz : (zeroValue e).run Tryz.prog w = .ok z w) {k : Int} (h1 : -9223372036854775808 ≤ k) (h2 : k ≤ 9223372036854775807) {u : Value} (hl : L.lookup k = some u) :
    (Instr.lookup t (.map (some b)) (.int .i64 k) false).run Tryz.prog w = .ok u w := by
  obtain ⟨D, hD, _, ha, hh⟩ := h
  obtain ⟨v, ps, hrun, hv⟩ := hD.lookup set_keyed ht hz (zd := .held z) (zp := []) rfl (key_int h1 h2)
  rw [hrun]
  have hv2 : D.atKey (.int .i64 k) (.held z) = .held v := by
    simp only [RV, Option.some.injEq, Prod.mk.injEq] at hv
    exact hv.1.symm
  rw [ha k u hl] at hv2
  rw [DataW.held.inj hv2]

/-- A bind whose row is the call's own. -/
def EBo (base : Nat) (w : World) (u : Value) (b : Bd) : Prop := OwI w base u b.2 ∧ -9223372036854775808 ≤ b.1 ∧ b.1 ≤ 9223372036854775807 ∧ b.2.length * 8 ≤ 140737488351232

/-- The slice value v is the call's own, as its rows are, and holds the binds s. -/
def OBW (base : Nat) (w : World) (v : Value) (s : List Bd) : Prop :=
  ∃ us : List Value, us.length = s.length ∧ (∀ (i : Nat) (u : Value) (b : Bd), us[i]? = some u → s[i]? = some b → EBo base w u b) ∧ w.ownsRow base 121 2 v s.length (flatB s us)

theorem OBW.mono {base b' : Nat} {w : World} {v : Value} {s : List Bd} (h : OBW base w v s) (hb : b' ≤ base) : OBW b' w v s := by
  obtain ⟨us, hl, hc, ho⟩ := h
  refine ⟨us, hl, fun i u b h1 h2 => ⟨(hc i u b h1 h2).1.mono hb, (hc i u b h1 h2).2⟩, ho.1, ?_⟩
  rcases ho.2 with h | ⟨g, cap, cur, rfl, hg, r⟩
  · exact .inl h
  · exact .inr ⟨g, cap, cur, rfl, by omega, r⟩

theorem OBW.later {base : Nat} {w w' : World} {v : Value} {s : List Bd} (h : OBW base w v s) (hb : Below w.heap.size w w') : OBW base w' v s := by
  obtain ⟨us, hl, hc, ho⟩ := h
  exact ⟨us, hl, fun i u b h1 h2 => ⟨(hc i u b h1 h2).1.later hb, (hc i u b h1 h2).2⟩, ownsRow_later ho hb⟩

theorem OBW.nil (base : Nat) (w : World) : OBW base w (.slice none 0 0) [] := ⟨[], rfl, fun i c m h => (by simp at h), World.ownsRow_nil _ _ _ _⟩

theorem OBW.bs {base : Nat} {w : World} {v : Value} {s : List Bd} (h : OBW base w v s) : Bs w v s := by
  obtain ⟨us, hl, hc, ho⟩ := h
  have ho2 := ho
  rcases ho2.2 with ⟨rfl, hn⟩ | ⟨g, cap, cur, rfl, hbg, hg, hcap, hm, hs, ht⟩
  · obtain rfl := List.eq_nil_of_length_eq_zero hn
    exact Row.nil (by simp [maxLen])
  · refine ⟨_, cap, rfl, hcap, hm, fun _ => ⟨g, 0, rfl, (Array.getElem?_eq_some_iff.1 hg).1, ?_⟩⟩
    intro k b hk
    have hlt : k < s.length := (List.getElem?_eq_some_iff.1 hk).1
    have hck : us[k]? = some us[k] := List.getElem?_eq_getElem (by omega)
    obtain ⟨h1, h2⟩ := flatB_get hk hck
    obtain ⟨o1, o2, o3, o4⟩ := hc k _ b hck hk
    refine ⟨o2, o3, o4, ?_, us[k], ?_, o1.is⟩
    · rw [Nat.zero_add, World.ownsRow.cellAt ho2 (k * 2) (by omega)]
      exact h1
    · rw [Nat.zero_add, World.ownsRow.cellAt ho2 (k * 2 + 1) (by omega)]
      exact h2

/-- One bind joined. -/
theorem OBW.snoc (ty : TypeId) {base : Nat} {w : World} {v u : Value} {s : List Bd} {x : Int} {t : List Int} (h : OBW base w v s) (hb : base ≤ w.heap.size) (hE : EBo base w u (x, t)) (hlen : (s.length + 1) * 32 ≤ 140737488355328) :
    ∃ v' w', (Builtin.append_ #[39, 39] ty #[v, .slice (some ⟨w.heap.size, 0, none⟩) 1 1]).run Tryz.prog (w.alloc (.cells #[.int .i64 x, u] 121)) = .ok v' w' ∧ OBW base w' v' (s ++ [(x, t)]) ∧ (w.alloc (.cells #[.int .i64 x, u] 121)).grownBy w' v.ownBlock ∧ (∀ j, v.ownBlock = some j → base ≤ j ∧ w.heap[j]? ≠ none ∧ ∃ cs, w.heap[j]? = some (.cells cs 121)) := by
  obtain ⟨i1, hi1, hy0, hy1, hy2⟩ := info_parts info_bind
  have ha := below_alloc (w := w) (.cells #[.int .i64 x, u] 121)
  have h' := h.later ha
  obtain ⟨us, hl, hc, ho0⟩ := h
  obtain ⟨vs, hl', hc', ho⟩ := h'
  have hone : u.oneCell' = true := by obtain ⟨_, _, rfl, _⟩ := hE.1.shape; rfl
  obtain ⟨v', w', hrun, h2, h3, _, _⟩ := run_append_own_at (P := Tryz.prog) (w.alloc (.cells #[.int .i64 x, u] 121)) base 39 ty 121 i1 _ 2 32 under_binds hi1 hy0 hy1 hy2 rfl (by decide) v s.length (flatB s vs) ho ⟨w.heap.size, 0, none⟩ 1 1 [.int .i64 x, u] rfl
    (fun j c hj => by
      rw [Addr.add_lit, Nat.zero_add, cell_of_row _ _ _ _ _ _ (heap_alloc_new _ _)]
      simpa using hj)
    (fun c hc => by
      simp only [List.mem_cons, List.not_mem_nil, or_false] at hc
      rcases hc with rfl | rfl
      · rfl
      · exact hone) (by unfold maxLen; omega) (by omega) (Nat.le_trans hb ha.size)
  have hk : ∀ {y : Value} {b : Bd}, EBo base (w.alloc (.cells #[.int .i64 x, u] 121)) y b → EBo base w' y b := fun {y b} hy => ⟨hy.1.kept h3 (ownsRow_apart hy.1.2 ho (by decide)), hy.2⟩
  refine ⟨v', w', hrun, ⟨vs ++ [u], by rw [List.length_append, List.length_append, hl']; rfl, fun i y b h1 h4 => ?_, ?_⟩, h3, fun j hj => ?_⟩
  · by_cases hi : i < vs.length
    · rw [List.getElem?_append_left hi] at h1
      rw [List.getElem?_append_left (by omega)] at h4
      exact hk (hc' i y b h1 h4)
    · rw [List.getElem?_append_right (by omega)] at h1
      rw [List.getElem?_append_right (by omega), ← hl'] at h4
      have hi : i - vs.length = 0 := by
        have := (List.getElem?_eq_some_iff.1 h1).1
        simp at this
        omega
      rw [hi] at h1 h4
      simp at h1 h4
      subst h1
      subst h4
      exact hk ⟨hE.1.later ha, hE.2⟩
  · rw [List.length_append, flatB_append hl']
    exact h2
  · rcases ho0.2 with ⟨rfl, _⟩ | ⟨g, cap, cur, rfl, hbg, hg, _⟩
    · cases hj
    · cases hj
      exact ⟨hbg, by rw [hg]; simp, cur, hg⟩

end Go.Proofs.YtgpbnbmjgcchfaaGreatDoor

/- Where the term at a place ends; endOf walked. -/
namespace Go.Proofs.YtgpbnbmjgcchfaaGreatDoor
open Go.RowKit Go.Maps

/-- A part of a row. -/
theorem Is.mid {w : World} {b off cap k m : Nat} {t : List Int} (h : Is w (.slice (some ⟨b, off, none⟩) t.length cap) t) (hk : k < t.length) (hm : k + m ≤ t.length) : Is w (.slice (some ⟨b, off + k, none⟩) m (cap - k)) ((t.drop k).take m) := by
  obtain ⟨ao, cap', e, h1, h2, h3⟩ := h
  simp only [Value.slice.injEq, true_and] at e
  obtain ⟨rfl, rfl⟩ := e
  obtain ⟨g, o, e, hg, hE⟩ := h3 (by omega)
  simp only [Option.some.injEq, Addr.mk.injEq, and_true] at e
  obtain ⟨rfl, rfl⟩ := e
  have hl : ((t.drop k).take m).length = m := by rw [List.length_take, List.length_drop]; omega
  refine ⟨some ⟨b, off + k, none⟩, cap - k, by rw [hl], by omega, by omega, fun _ => ⟨b, off + k, rfl, hg, fun j x hj => ?_⟩⟩
  have hjl := (List.getElem?_eq_some_iff.1 hj).1
  rw [List.getElem?_take_of_lt (by omega), List.getElem?_drop] at hj
  have := hE (k + j) x hj
  rw [show off + k + j * 1 = off + (k + j) * 1 by omega]
  exact this

/-- What is found at a row's head is a right term by itself. -/
theorem first_take {sig : List Sy} : ∀ (r : List Int) (m : Int) (i : Nat) (n : Int), firstT sig m i r = (n, 0) → ∃ k : Nat, n = (i : Int) + k ∧ 1 ≤ k ∧ k ≤ r.length ∧ firstT sig m i (r.take k) = (n, 0)
  | [], m, i, n, h => by simp [firstT] at h
  | c :: r, m, i, n, h => by
    rw [firstT_cons] at h
    cases hc : codeD sig c with
    | none => rw [hc] at h; simp at h
    | some e =>
      rw [hc] at h
      simp only at h
      by_cases h0 : m + e = 0
      · rw [if_pos h0] at h
        refine ⟨1, ?_, Nat.le_refl _, by simp, ?_⟩
        · have := congrArg Prod.fst h
          simp only at this
          omega
        · rw [List.take_succ_cons, List.take_zero, firstT_cons, hc]
          simp only
          rw [if_pos h0]
          exact h
      · rw [if_neg h0] at h
        obtain ⟨k, h1, h2, h3, h4⟩ := first_take r (m + e) (i + 1) n h
        refine ⟨k + 1, by omega, by omega, by simp; omega, ?_⟩
        rw [List.take_succ_cons, firstT_cons, hc]
        simp only
        rw [if_neg h0]
        exact h4

/-- Where the term at a place ends, and what is wrong. -/
def endP (sig : List Sy) (t : List Int) (p : Int) : Int × Int := if p < 0 ∨ (t.length : Int) ≤ p then (0, 33) else (p + (firstT sig 1 0 (t.drop p.toNat)).1, (firstT sig 1 0 (t.drop p.toNat)).2)

theorem endP_ok {sig : List Sy} {t : List Int} {p n : Int} (h : endP sig t p = (n, 0)) : ∃ k m : Nat, p = k ∧ k < t.length ∧ 1 ≤ m ∧ n = ((k + m : Nat) : Int) ∧ k + m ≤ t.length ∧ rowE sig ((t.drop k).take m) = 0 := by
  unfold endP at h
  by_cases hp : p < 0 ∨ (t.length : Int) ≤ p
  · rw [if_pos hp] at h
    simp at h
  · rw [if_neg hp] at h
    obtain ⟨k, rfl⟩ : ∃ k : Nat, p = k := ⟨p.toNat, by omega⟩
    rw [Int.toNat_natCast] at h
    simp only [Prod.mk.injEq] at h
    obtain ⟨m, h1, h2, h3, h4⟩ := first_take (t.drop k) 1 0 (firstT sig 1 0 (t.drop k)).1 (Prod.ext rfl h.2)
    simp only [Int.natCast_zero, Int.zero_add] at h1
    rw [List.length_drop] at h3
    refine ⟨k, m, rfl, by omega, h2, by omega, by omega, ?_⟩
    rw [row_first, h4, List.length_take, List.length_drop]
    simp only [Prod.mk.injEq, and_true]
    rw [h1]
    omega

theorem first_rng {sig : List Sy} : ∀ (r : List Int) (m : Int) (i : Nat), 0 ≤ (firstT sig m i r).1 ∧ (firstT sig m i r).1 ≤ (i : Int) + r.length
  | [], m, i => by simp [firstT]
  | c :: r, m, i => by
    rw [firstT_cons]
    cases hc : codeD sig c with
    | none => simp; omega
    | some e =>
      simp only
      by_cases h0 : m + e = 0
      · rw [if_pos h0]; simp; omega
      · rw [if_neg h0]
        have := first_rng (sig := sig) r (m + e) (i + 1)
        simp only [List.length_cons]
        omega

set_option maxRecDepth 100000 in
set_option maxHeartbeats 800000 in
theorem endOf_any (sv v : Value) (sig : List Sy) (t : List Int) (p : Int) (w : World) (hs : Sg w sv sig) (h : Is w v t) (ha : ArOk sig) (hb : t.length * 8 ≤ 140737488351232) (hp1 : -9223372036854775808 ≤ p) (hp2 : p ≤ 9223372036854775807) :
    Calls Tryz.prog 36 #[sv, v, .int .i64 p] w fun e w' => e = .returned (.tuple #[.int .i64 (endP sig t p).1, .int .i64 (endP sig t p).2]) ∧ w' = w := by
  obtain ⟨ao, cap, rfl, hao, hca, q0⟩ := Row.flat h
  unfold maxLen at hca
  have HS := hid hs
  have HI := hid h
  have HA := hid ha
  clear hs h ha q0
  by_cases hlo : p < 0
  · have HE : Hid (endP sig t p = (0, 33)) := by show _ = _; unfold endP; rw [if_pos (.inl hlo)]
    go_enter Tryz.func36, Tryz.ntmps36
    go_wp2
    go_ret2
    exact ⟨by rw [HE.out]; rfl, rfl⟩
  · obtain ⟨k, rfl⟩ : ∃ k : Nat, p = k := ⟨p.toNat, by omega⟩
    by_cases hhi : t.length ≤ k
    · have HE : Hid (endP sig t k = (0, 33)) := by show _ = _; unfold endP; rw [if_pos (.inr (by omega))]
      go_enter Tryz.func36, Tryz.ntmps36
      go_wp2
      go_ret2
      exact ⟨by rw [HE.out]; rfl, rfl⟩
    · have HE : Hid (endP sig t k = ((k : Int) + (firstT sig 1 0 (t.drop k)).1, (firstT sig 1 0 (t.drop k)).2)) := by show _ = _; unfold endP; rw [if_neg (by omega), Int.toNat_natCast]
      obtain ⟨b, off, c0, rfl, _⟩ := HI.out.at (k := 0) (by omega)
      have hI2 := HI.out.mid (k := k) (m := t.length - k) (by omega) (by omega)
      rw [List.take_of_length_le (by rw [List.length_drop]; exact Nat.le_refl _)] at hI2
      have HI2 := hid hI2
      have hrg := first_rng (sig := sig) (t.drop k) 1 0
      rw [List.length_drop] at hrg
      have hlt : k < t.length := by omega
      have hck : ¬ cap = k := by omega
      obtain ⟨N, hN⟩ : ∃ N, N = (firstT sig 1 0 (t.drop k)).1 := ⟨_, rfl⟩
      rw [← hN] at hrg HE
      have hw : IntKind.i64.wrap ((k : Int) + N) = (k : Int) + N := IntWalk.i64_in _ ⟨by omega, by omega⟩
      have HN := hid hN
      clear hI2 hN hhi
      go_enter Tryz.func36, Tryz.ntmps36
      go_wp2_with fail
      refine (firstTerm_any _ _ sig (t.drop k) w HS.out HI2.out HA.out (by rw [List.length_drop]; omega)).mono ?_
      rintro e w2 ⟨rfl, hw2⟩
      have hw8 := hw2.symm
      subst hw8
      clear hw2
      rw [← HN.out]
      go_wp2
      go_ret2
      exact ⟨by rw [HE.out]; rfl, rfl⟩

end Go.Proofs.YtgpbnbmjgcchfaaGreatDoor

/- Kids and Sub walked. -/
namespace Go.Proofs.YtgpbnbmjgcchfaaGreatDoor
open Go.RowKit Go.Maps

theorem empty_ints (w : World) {base : Nat} (hb : base ≤ w.heap.size) : (w.alloc (.cells #[] 3)).ownsRow base 3 1 (.slice (some ⟨w.heap.size, 0, none⟩) 0 0) 0 [] :=
  ⟨rfl, .inr ⟨w.heap.size, 0, #[], rfl, hb, heap_alloc_new _ _, Nat.le_refl _, by simp [maxLen], by simp, by simp⟩⟩

set_option maxRecDepth 100000 in
set_option maxHeartbeats 800000 in
theorem cloneI_any (v : Value) (t : List Int) (w : World) (h : Is w v t) (h0 : 0 < t.length) (hl : t.length * 8 ≤ 140737488355328) :
    Calls Tryz.prog 39 #[v] w fun e w' => ∃ v', e = .returned v' ∧ OwI w' w.heap.size v' t ∧ Below w.heap.size w w' := by
  have hq : ∀ (W : World) (a : Option Addr) (n c n' c' : Nat), (binOp .eql 26 (.slice a n c) (.slice none n' c')).run Tryz.prog W = .ok (.bool a.isNone) W := fun W a n c n' c' => Lib.run_eql_slice_nil W _ _ a n c n' c' under_ints
  obtain ⟨ao, cap, rfl, hao, hca, q0⟩ := Row.flat h
  obtain ⟨g, off, c0, rfl, _⟩ := h.at h0
  obtain ⟨v', w', hr, ho, hg⟩ := join_ints 26 (w := w.alloc (.cells #[] 3)) (base := w.heap.size) (x := .slice (some ⟨w.heap.size, 0, none⟩) 0 0) (xs := []) ⟨fun k x hk => (by simp at hk), empty_ints w (Nat.le_refl _)⟩ (h.kp (Kp.of_below (below_alloc _))) (below_alloc _).size (by simp; omega)
  rw [List.nil_append] at ho
  have HR := hid hr
  have HO := hid ho
  have HB := hid (grown_below (below_alloc _) hg (Nat.le_refl _))
  clear hr ho hg q0 h
  go_enter Tryz.func39, Tryz.ntmps39
  go_wp2_with (first
    | (at_builtin; refine wpList_append_run rfl _ _ _ rfl _ _ rfl rfl HR.out ?_))
  go_ret
  exact ⟨_, rfl, HO.out, HB.out⟩

/-- What is wrong with a term and a place; the term there; its arguments' places. -/
def placeE (sig : List Sy) (t : List Int) (p : Int) : Int := if termE sig t = 0 then (endP sig t p).2 else termE sig t

def subL (sig : List Sy) (t : List Int) (p : Int) : List Int := if placeE sig t p = 0 then (t.drop p.toNat).take ((endP sig t p).1.toNat - p.toNat) else []

def kidsL (sig : List Sy) (t : List Int) (p : Int) : List Int := match growR sig (subL sig t p) with | [T] => kidsR p.toNat T | _ => []

theorem placeE_ok {sig : List Sy} {t : List Int} {p : Int} (h : placeE sig t p = 0) : ArOk sig ∧ rowE sig t = 0 ∧ ∃ k m : Nat, p = k ∧ k < t.length ∧ 1 ≤ m ∧ endP sig t p = (((k + m : Nat) : Int), 0) ∧ k + m ≤ t.length ∧ subL sig t p = (t.drop k).take m ∧ rowE sig ((t.drop k).take m) = 0 := by
  have h0 := h
  unfold placeE at h
  by_cases ht : termE sig t = 0
  · rw [if_pos ht] at h
    have hsg : sigE sig = 0 := by
      unfold termE at ht
      by_cases hs : sigE sig = 0
      · exact hs
      · rw [if_neg hs] at ht; exact ht
    have hrw : rowE sig t = 0 := by unfold termE at ht; rw [if_pos hsg] at ht; exact ht
    obtain ⟨k, m, h1, h2, h3, h4, h5, h6⟩ := endP_ok (Prod.ext rfl h : endP sig t p = ((endP sig t p).1, 0))
    refine ⟨sigE_ok hsg, hrw, k, m, h1, h2, h3, Prod.ext h4 h, h5, ?_, h6⟩
    unfold subL
    rw [if_pos h0, h4, h1, Int.toNat_natCast, Int.toNat_natCast, show k + m - k = m by omega]
  · rw [if_neg ht] at h
    exact absurd h ht

theorem kidsL_bad {sig : List Sy} {t : List Int} {p : Int} (h : placeE sig t p ≠ 0) : kidsL sig t p = [] := by
  unfold kidsL subL
  rw [if_neg h]
  rfl

theorem subL_bad {sig : List Sy} {t : List Int} {p : Int} (h : placeE sig t p ≠ 0) : subL sig t p = [] := by
  unfold subL
  rw [if_neg h]

set_option maxRecDepth 100000 in
set_option maxHeartbeats 800000 in
theorem sub_any (sv v : Value) (sig : List Sy) (t : List Int) (p : Int) (w : World) (hs : Sg w sv sig) (h : Is w v t) (hT : Tabs w) (hb : t.length * 8 ≤ 140737488351232) (hp1 : -9223372036854775808 ≤ p) (hp2 : p ≤ 9223372036854775807) :
    Calls Tryz.prog 11 #[sv, v, .int .i64 p] w fun e w' => ∃ v', e = .returned (.tuple #[v', .int .i64 (placeE sig t p)]) ∧ OwI w' w.heap.size v' (subL sig t p) ∧ Below w.heap.size w w' := by
  have HS := hid hs
  have HI := hid h
  have HT := hid hT
  have HP := hid (And.intro hp1 hp2)
  clear hs h hT hp1 hp2
  go_enter Tryz.func11, Tryz.ntmps11
  go_wp2_with fail
  refine (check_any sv v sig t w HS.out HI.out HT.out hb).mono ?_
  rintro e w1 ⟨rfl, hb1⟩
  have HB1 := hid hb1
  clear hb1
  by_cases hte : termE sig t = 0
  · have HPl : Hid (placeE sig t p = (endP sig t p).2) := by show _ = _; unfold placeE; rw [if_pos hte]
    have ha : ArOk sig := by
      unfold termE at hte
      by_cases hs : sigE sig = 0
      · exact sigE_ok hs
      · rw [if_neg hs] at hte; exact absurd hte hs
    have HA := hid ha
    rw [hte]
    clear hte ha
    go_wp2_with fail
    refine (endOf_any sv v sig t p w1 (HS.out.kp (Kp.of_below HB1.out)) (HI.out.kp (Kp.of_below HB1.out)) HA.out hb HP.out.1 HP.out.2).mono ?_
    rintro e w2 ⟨rfl, hw2⟩
    have hw8 := hw2.symm
    subst hw8
    clear hw2
    by_cases he : (endP sig t p).2 = 0
    · obtain ⟨_, _, k, m, hk, hkl, hm1, hend, hkm, hsub, hrow⟩ := placeE_ok (HPl.out.trans he)
      subst hk
      have HE := hid (HPl.out.trans he)
      have HSub := hid hsub
      have hIm := HI.out.kp (Kp.of_below HB1.out)
      obtain ⟨ao, cap, rfl, hao, hca, q0⟩ := Row.flat HI.out
      obtain ⟨b, off, c0, rfl, _⟩ := HI.out.at (k := 0) (by omega)
      unfold maxLen at hca
      have hI2 := hIm.mid hkl hkm
      have hlm : ((t.drop k).take m).length = m := by rw [List.length_take, List.length_drop]; omega
      have HCl := hid (cloneI_any _ _ _ hI2 (by omega) (by rw [hlm]; omega))
      have hck : ¬ cap = k := by omega
      have hkm2 : k + m - k = m := by omega
      have hkc : k + m ≤ cap := by omega
      have hkc2 : k ≤ k + m := by omega
      rw [hend]
      clear hIm q0 hI2 hlm he hend hsub hrow
      go_wp2_with fail
      refine HCl.out.mono ?_
      rintro e w2 ⟨v', rfl, ho, hb2⟩
      have HO := hid (ho.mono HB1.out.size)
      have HB2 := hid (below_step HB1.out hb2)
      clear ho hb2
      go_wp2
      go_ret2
      exact ⟨_, by rw [HE.out]; rfl, by rw [HSub.out]; exact HO.out, HB2.out⟩
    · have HNe := hid (fun h => he (HPl.out.symm.trans h) : placeE sig t p ≠ 0)
      generalize (endP sig t p).2 = E at he HPl ⊢
      generalize (endP sig t p).1 = E1
      have heb : (E != 0) = true := by simpa using he
      go_wp2
      go_ret2
      exact ⟨_, by rw [HPl.out]; rfl, by rw [subL_bad HNe.out]; exact nilI _ _, HB1.out⟩
  · have HPl : Hid (placeE sig t p = termE sig t) := by show _ = _; unfold placeE; rw [if_neg hte]
    have HNe := hid (fun h => hte (HPl.out.symm.trans h) : placeE sig t p ≠ 0)
    generalize termE sig t = E at hte HPl ⊢
    have heb : (E != 0) = true := by simpa using hte
    go_wp2
    go_ret2
    exact ⟨_, by rw [HPl.out]; rfl, by rw [subL_bad HNe.out]; exact nilI _ _, HB1.out⟩

set_option maxRecDepth 100000 in
set_option maxHeartbeats 800000 in
theorem kids_any (sv v : Value) (sig : List Sy) (t : List Int) (p : Int) (w : World) (hs : Sg w sv sig) (h : Is w v t) (hT : Tabs w) (hb : t.length * 16 ≤ 140737488351232) (hp1 : -9223372036854775808 ≤ p) (hp2 : p ≤ 9223372036854775807) :
    Calls Tryz.prog 10 #[sv, v, .int .i64 p] w fun e w' => ∃ v', e = .returned (.tuple #[v', .int .i64 (placeE sig t p)]) ∧ OwI w' w.heap.size v' (kidsL sig t p) ∧ Below w.heap.size w w' := by
  have HS := hid hs
  have HI := hid h
  have HT := hid hT
  have HP := hid (And.intro hp1 hp2)
  clear hs h hT hp1 hp2
  go_enter Tryz.func10, Tryz.ntmps10
  go_wp2_with fail
  refine (check_any sv v sig t w HS.out HI.out HT.out (by omega)).mono ?_
  rintro e w1 ⟨rfl, hb1⟩
  have HB1 := hid hb1
  clear hb1
  by_cases hte : termE sig t = 0
  · have HPl : Hid (placeE sig t p = (endP sig t p).2) := by show _ = _; unfold placeE; rw [if_pos hte]
    have ha : ArOk sig := by
      unfold termE at hte
      by_cases hs : sigE sig = 0
      · exact sigE_ok hs
      · rw [if_neg hs] at hte; exact absurd hte hs
    have HA := hid ha
    rw [hte]
    clear hte ha
    go_wp2_with fail
    refine (endOf_any sv v sig t p w1 (HS.out.kp (Kp.of_below HB1.out)) (HI.out.kp (Kp.of_below HB1.out)) HA.out (by omega) HP.out.1 HP.out.2).mono ?_
    rintro e w2 ⟨rfl, hw2⟩
    have hw8 := hw2.symm
    subst hw8
    clear hw2
    by_cases he : (endP sig t p).2 = 0
    · obtain ⟨_, _, k, m, hk, hkl, hm1, hend, hkm, hsub, hrow⟩ := placeE_ok (HPl.out.trans he)
      subst hk
      have HE := hid (HPl.out.trans he)
      have HSub := hid hsub
      have hIm := HI.out.kp (Kp.of_below HB1.out)
      obtain ⟨ao, cap, rfl, hao, hca, q0⟩ := Row.flat HI.out
      obtain ⟨b, off, c0, rfl, _⟩ := HI.out.at (k := 0) (by omega)
      unfold maxLen at hca
      have hI2 := hIm.mid hkl hkm
      have hlm : ((t.drop k).take m).length = m := by rw [List.length_take, List.length_drop]; omega
      have HGr := hid (grow_any sv _ sig _ _ (HS.out.kp (Kp.of_below HB1.out)) hI2 HA.out hrow (by rw [hlm]; omega))
      have hck : ¬ cap = k := by omega
      have hkm2 : k + m - k = m := by omega
      have hkc : k + m ≤ cap := by omega
      have hkc2 : k ≤ k + m := by omega
      rw [hend]
      clear hIm q0 hI2 hlm he hend hsub hrow
      go_wp2_with fail
      refine HGr.out.mono ?_
      rintro e w2 ⟨u, T, A, rfl, hgr, htv, hA, hb2⟩
      have HKl : Hid (kidsL sig t k = kidsR k T) := by show _ = _; unfold kidsL; rw [HSub.out, hgr, Int.toNat_natCast]
      have hsz : T.size = m := by
        have h1 := growR_sizes sig ((t.drop k).take m)
        rw [hgr, List.length_take, List.length_drop] at h1
        simp only [sizes] at h1
        omega
      have HKd := hid (kidsOf_any u T A k w2 htv (fun b hb => (hA b hb).2) (by omega) (by omega))
      have HB2 := hid (below_step HB1.out hb2)
      clear hgr htv hA hb2 hsz HGr
      go_wp2_with fail
      refine HKd.out.mono ?_
      rintro e w3 ⟨v', rfl, ho, hb3⟩
      have HO := hid (ho.mono HB2.out.size)
      have HB3 := hid (below_step HB2.out hb3)
      clear ho hb3 HKd
      go_wp2
      go_ret2
      exact ⟨_, by rw [HE.out]; rfl, by rw [HKl.out]; exact HO.out, HB3.out⟩
    · have HNe := hid (fun h => he (HPl.out.symm.trans h) : placeE sig t p ≠ 0)
      generalize (endP sig t p).2 = E at he HPl ⊢
      generalize (endP sig t p).1 = E1
      have heb : (E != 0) = true := by simpa using he
      go_wp2
      go_ret2
      exact ⟨_, by rw [HPl.out]; rfl, by rw [kidsL_bad HNe.out]; exact nilI _ _, HB1.out⟩
  · have HPl : Hid (placeE sig t p = termE sig t) := by show _ = _; unfold placeE; rw [if_neg hte]
    have HNe := hid (fun h => hte (HPl.out.symm.trans h) : placeE sig t p ≠ 0)
    generalize termE sig t = E at hte HPl ⊢
    have heb : (E != 0) = true := by simpa using hte
    go_wp2
    go_ret2
    exact ⟨_, by rw [HPl.out]; rfl, by rw [kidsL_bad HNe.out]; exact nilI _ _, HB1.out⟩

end Go.Proofs.YtgpbnbmjgcchfaaGreatDoor
