/- Texts of the proof, one behind the other. -/
import Derived.Test.YtdjmjhlbjcgoiaaGreatDoorOwn3
import Derived.Test.YtdjmjhlbjcgoiaaGreatDoorOwn1
import Derived.Sort.WalkB12
import Derived.Lib.SlicesMore
import Derived.Lib.Walk
import Derived.Deep.LoopGhost
import Derived.Deep.DeepAppendRoom
import Derived.RangeFuncNested
import Derived.RangeFuncBound
import Derived.RangeFuncCalls
import Derived.RangeFuncLeaves
import Derived.RangeFuncBox
import Derived.Shelf.Abstract
import Derived.Shelf.RegionOpen
import Derived.OwnWalkIn
import Derived.TacticsInMore
import Derived.LoopNIn
import Derived.LoopIn
import Derived.Maps.Own
import Derived.Maps.OwnOps
import Derived.Maps.OwnSet
set_option maxRecDepth 1000000
set_option maxHeartbeats 6400000
namespace Go.Proofs.YtdjmjhlbjcgoiaaGreatDoor
open Go.RowKit Go.Maps Go.BigFrame
theorem sigGo_ok : ∀ (sig : List Sy) (k : Nat) (r : List Sy), sigGo sig k r = 0 → ArOk r
 | _, _, [] => fun _ s hs => by cases hs
 | sig, k, s :: r => fun h => by
  unfold sigGo at h
  split at h
  ·split at h
   ·cases h
   rename_i h2
   split at h
   ·cases h
   intro x hx
   cases hx with
   | head => omega
   | tail _ hx => exact sigGo_ok sig (k + 1) r h x hx
  cases h
theorem sigE_ok {sig : List Sy} (h : sigE sig = 0) : ArOk sig := by
 unfold sigE at h
 split at h
 ·cases h
 exact sigGo_ok sig 0 sig h
def termE (sig : List Sy) (t : List Int) : Int := if sigE sig = 0 then rowE sig t else sigE sig
theorem xBP (sv v : Value) (sig : List Sy) (t : List Int) (w : World) (hs : Sg w sv sig) (h : Is w v t) (hT : Tabs w) (hb : t.length * 8 ≤ 140737488351232) :
  Calls Tryz.prog 45 #[sv, v] w fun e w' => e = .returned (.int .i64 (termE sig t)) ∧ Below w.heap.size w w' := by
 have HS : Hid (Sg w sv sig) := hs
 have HI : Hid (Is w v t) := h
 have HT : Hid (Tabs w) := hT
 clear hs h hT
 go_enter Tryz.func45, Tryz.ntmps45
 go_wp2_with fail
 refine (xDQ sv sig w HS.out HT.out).mono ?_
 rintro e w1 ⟨rfl, hb1⟩
 have HB : Hid (Below w.heap.size w w1) := hb1
 have HS1 : Hid (Sg w1 sv sig) := HS.out.kp (zK hb1)
 have HI1 : Hid (Is w1 v t) := HI.out.kp (zK hb1)
 clear hb1
 by_cases he : sigE sig = 0
 ·have HA : Hid (ArOk sig) := sigE_ok he
  have HF : Hid (termE sig t = rowE sig t) := by show _ = _; unfold termE; rw [if_pos he]
  rw [he]
  clear he
  go_wp2_with fail
  refine (checkRow_any sv v sig t w1 HS1.out HI1.out HA.out hb).mono ?_
  rintro e w9 ⟨rfl, hw9⟩
  have hw8 := hw9.symm
  subst hw8
  clear hw9
  go_wp2
  go_ret
  exact ⟨ret1i HF.out.symm, HB.out⟩
 have HF : Hid (termE sig t = sigE sig) := by show _ = _; unfold termE; rw [if_neg he]
 generalize sigE sig = E at he HF ⊢
 have heb : (E != 0) = true := by simpa using he
 go_wp2
 go_ret
 exact ⟨ret1i HF.out.symm, HB.out⟩
abbrev Bd := Int × List Int
def EB (w : World) (g o : Nat) (b : Bd) : Prop := -9223372036854775808 ≤ b.1 ∧ b.1 ≤ 9223372036854775807 ∧ b.2.length * 8 ≤ 140737488351232 ∧ w.cell? ⟨g, o, none⟩ = some (.int .i64 b.1) ∧ ∃ v, w.cell? ⟨g, o + 1, none⟩ = some v ∧ Is w v b.2
theorem EB.kp {w w' : World} (hk : Kp w w') (g o : Nat) (b : Bd) (h : EB w g o b) : EB w' g o b := by
 obtain ⟨h1, h2, h3, h4, v, h5, h6⟩ := h
 exact ⟨h1, h2, h3, hk.cell _ _ h4, v, hk.cell _ _ h5, h6.kp hk⟩
def Bs (w : World) (v : Value) (s : List Bd) : Prop := Row EB 2 w v s
theorem Bs.kp {w w' : World} {v : Value} {s : List Bd} (h : Bs w v s) (hk : Kp w w') : Bs w' v s := Row.imp h hk.size (EB.kp hk)
theorem Bs.at {w : World} {ao : Option Addr} {n cap : Nat} {s : List Bd} (h : Bs w (.slice ao n cap) s) {k : Nat} (hk : k < s.length) :
  ∃ g off x a t c, ao = some ⟨g, off, none⟩ ∧ s[k]? = some (x, t) ∧ w.cell? ⟨g, off + k * 2, none⟩ = some (.int .i64 x) ∧ w.cell? ⟨g, off + k * 2 + 1, none⟩ = some (.slice a t.length c) ∧ Is w (.slice a t.length c) t ∧ -9223372036854775808 ≤ x ∧ x ≤ 9223372036854775807 ∧ t.length * 8 ≤ 140737488351232 := by
 obtain ⟨ao', cap', hv, _, _, hx⟩ := Row.flat h
 simp only [zZ] at hv
 obtain ⟨rfl, rfl, rfl⟩ := hv
 obtain ⟨g, off, ⟨x, t⟩, rfl, hm, h1, h2, h3, h4, v, h5, h6⟩ := hx k hk
 obtain ⟨a, c, rfl, _⟩ := Row.flat h6
 exact ⟨g, off, x, a, t, c, rfl, hm, h4, h5, h6, h1, h2, h3⟩
def bindGo (sig : List Sy) : Option Int → List Bd → Int
 | _, [] => 0
 | p, b :: r => if isVarB b.1 then (if p.any (fun y => decide (b.1 ≤ y)) then 41 else if termE sig b.2 = 0 then bindGo sig (some b.1) r else termE sig b.2) else 40
def bindE (sig : List Sy) (s : List Bd) : Int := if sigE sig = 0 then bindGo sig none s else sigE sig
def ahead (s : List Bd) : Nat → Option Int
 | 0 => none
 | k + 1 => (s[k]?).map (·.1)
theorem substCheck_any (sv bv : Value) (sig : List Sy) (s : List Bd) (w : World) (hs : Sg w sv sig) (h : Bs w bv s) (hT : Tabs w) :
  Calls Tryz.prog 136 #[sv, bv] w fun e w' => e = .returned (.int .i64 (bindE sig s)) ∧ Below w.heap.size w w' := by
 obtain ⟨so, sc, rfl, hso, hsc, _⟩ := Row.flat h
 unfold maxLen at hsc
 have HS : Hid (Sg w sv sig) := hs
 have HI : Hid (Bs w (.slice so s.length sc) s) := h
 have HT : Hid (Tabs w) := hT
 clear hs h hT
 go_enter Tryz.func136, Tryz.ntmps136
 go_wp2_with fail
 refine (xDQ sv sig w HS.out HT.out).mono ?_
 rintro e w1 ⟨rfl, hb1⟩
 have HB : Hid (Below w.heap.size w w1) := hb1
 clear hb1
 by_cases he : sigE sig = 0
 ·have HF : Hid (bindE sig s = bindGo sig none s) := by show _ = _; unfold bindE; rw [if_pos he]
  rw [he]
  clear he
  go_wp2
  go_loopw [16] (fun i wr => ∃ k : Nat, k ≤ s.length ∧ i = .int .i64 k ∧ bindGo sig none s = bindGo sig (ahead s k) (s.drop k) ∧ Below w.heap.size w wr) (fun i _ => s.length - (intOf i).toNat)
  case atStart => exact ⟨0, Nat.zero_le _, rfl, rfl, HB.out⟩
  case round =>
   obtain ⟨k, hk, rfl, hgo, hbl⟩ := hrel
   have HG : Hid (bindE sig s = bindGo sig (ahead s k) (s.drop k)) := HF.out.trans hgo
   clear hgo
   by_cases hlt : k < s.length
   ·have HSr : Hid (Sg wr sv sig) := HS.out.kp (zK hbl)
    have HIr : Hid (Bs wr (.slice so s.length sc) s) := HI.out.kp (zK hbl)
    have HTr : Hid (Tabs wr) := HT.out.below hbl
    obtain ⟨g, off, x, ba, t, bc, rfl, hm, hc0, hc1, hit, hx1, hx2, hx3⟩ := HIr.out.at hlt
    have HIt : Hid (Is wr (.slice ba t.length bc) t) := hit
    have HD : Hid (bindE sig s = if isVarB x then (if (ahead s k).any (fun y => decide (x ≤ y)) then 41 else if termE sig t = 0 then bindGo sig (some x) (s.drop (k + 1)) else termE sig t) else 40) := by
     show _ = _
     rw [HG.out, xAR hm]
     rfl
    have HN : Hid (ahead s (k + 1) = some x) := by show (s[k]?).map (·.1) = _; rw [hm]; rfl
    have HBb : Hid (Below w.heap.size w (wr.alloc (.cells #[.int .i64 x, .slice ba t.length bc] 229))) := zS hbl (zA _)
    clear hm hit HG
    go_wp2_with fail
    refine (isVariable_any x _).mono ?_
    rintro e wb ⟨rfl, hw9⟩
    obtain ⟨hd0, hd1, hbw⟩ := box2 (w := wr) (x := .int .i64 x) (y := .slice ba t.length bc) (t := 229) (Below.refl _ _)
    rw [← hw9] at hd0 hd1 hbw HBb
    have HW : Hid (Below wr.heap.size wr wb) := hbw
    clear hw9 hbw hc0 hc1
    cases hv : isVarB x
    ·have HE : Hid (bindE sig s = 40) := by show _ = _; rw [HD.out, hv]; rfl
     go_wp2
     go_ret
     exact ⟨ret1i HE.out.symm, HBb.out⟩
    have HD2 : Hid (bindE sig s = if (ahead s k).any (fun y => decide (x ≤ y)) then 41 else if termE sig t = 0 then bindGo sig (some x) (s.drop (k + 1)) else termE sig t) := by
     show _ = _; rw [HD.out, hv, if_pos rfl]
    clear HD hv
    by_cases hk0 : k = 0
    ·subst hk0
     have HD3 : Hid (bindE sig s = if termE sig t = 0 then bindGo sig (some x) (s.drop 1) else termE sig t) := by show _ = _; rw [HD2.out]; rfl
     clear HD2
     go_wp2
     go_quiet (fail)
     have HBq : Hid (Below wr.heap.size wr (wb.drewN nq)) := below_drewN HW.out _
     go_wp2_with fail
     refine (xBP sv _ sig t _ (HSr.out.kp (zK HBq.out)) (HIt.out.kp (zK HBq.out)) (HTr.out.below HBq.out) hx3).mono ?_
     rintro e w2 ⟨rfl, hb2⟩
     have HB2 : Hid (Below w.heap.size w w2) := zS hbl (zS HBq.out hb2)
     clear hb2
     by_cases hte : termE sig t = 0
     ·have HE : Hid (bindGo sig none s = bindGo sig (ahead s (0 + 1)) (s.drop (0 + 1))) := by show _ = _; rw [← HF.out, HD3.out, if_pos hte, HN.out]
      rw [hte]
      clear hte
      go_wp2
      go_roundw
      case rel => exact ⟨0 + 1, by omega, by go_num, HE.out, HB2.out⟩
      case measure => simp [intOf]; omega
     have HE : Hid (bindE sig s = termE sig t) := by show _ = _; rw [HD3.out, if_neg hte]
     generalize termE sig t = E at hte HE ⊢
     have heb : (E != 0) = true := by simpa using hte
     go_wp2
     go_ret
     exact ⟨ret1i HE.out.symm, HB2.out⟩
    obtain ⟨j, rfl⟩ : ∃ j, k = j + 1 := ⟨k - 1, by omega⟩
    clear hk0
    obtain ⟨g', off', y, ya, u, yc, hq, hm2, he0, he1, _, hy1, hy2, _⟩ := HIr.out.at (k := j) (by omega)
    obtain ⟨rfl, rfl⟩ : g = g' ∧ off = off' := by simpa using hq
    have HA : Hid (ahead s (j + 1) = some y) := by show (s[j]?).map (·.1) = _; rw [hm2]; rfl
    have hg0 : (0 : Int) < (j : Int) + 1 := by omega
    have hjl : j < s.length := by omega
    have hjw : IntKind.i64.wrap (j : Int) = (j : Int) := yA _ ⟨by omega, by omega⟩
    have hf0 := (zK HW.out).cell _ _ he0
    clear hm2 hq he1 he0
    by_cases hxy : x ≤ y
    ·have HE : Hid (bindE sig s = 41) := by show _ = _; rw [HD2.out, HA.out]; simp [hxy]
     go_wp2
     go_quiet (fail)
     go_wp2
     go_ret
     exact ⟨ret1i HE.out.symm, below_drewN HBb.out _⟩
    have HD3 : Hid (bindE sig s = if termE sig t = 0 then bindGo sig (some x) (s.drop (j + 1 + 1)) else termE sig t) := by show _ = _; rw [HD2.out, HA.out]; simp [hxy]
    clear HD2
    go_wp2
    go_quiet (fail)
    have HBq : Hid (Below wr.heap.size wr (wb.drewN nq)) := below_drewN HW.out _
    go_wp2_with fail
    refine (xBP sv _ sig t _ (HSr.out.kp (zK HBq.out)) (HIt.out.kp (zK HBq.out)) (HTr.out.below HBq.out) hx3).mono ?_
    rintro e w2 ⟨rfl, hb2⟩
    have HB2 : Hid (Below w.heap.size w w2) := zS hbl (zS HBq.out hb2)
    clear hb2
    by_cases hte : termE sig t = 0
    ·have HE : Hid (bindGo sig none s = bindGo sig (ahead s (j + 1 + 1)) (s.drop (j + 1 + 1))) := by show _ = _; rw [← HF.out, HD3.out, if_pos hte, HN.out]
     rw [hte]
     clear hte
     go_wp2
     go_roundw
     case rel => exact ⟨j + 1 + 1, by omega, by go_num, HE.out, HB2.out⟩
     case measure => simp [intOf]; omega
    have HE : Hid (bindE sig s = termE sig t) := by show _ = _; rw [HD3.out, if_neg hte]
    generalize termE sig t = E at hte HE ⊢
    have heb : (E != 0) = true := by simpa using hte
    go_wp2
    go_ret
    exact ⟨ret1i HE.out.symm, HB2.out⟩
   have hke : k = s.length := by omega
   subst hke
   have HE : Hid (bindE sig s = 0) := by show _ = _; rw [HG.out, List.drop_length]; rfl
   go_wp2
   go_ret
   exact ⟨ret1i HE.out.symm, hbl⟩
 have HF : Hid (bindE sig s = sigE sig) := by show _ = _; unfold bindE; rw [if_neg he]
 generalize sigE sig = E at he HF ⊢
 have heb : (E != 0) = true := by simpa using he
 go_wp2
 go_ret
 exact ⟨ret1i HF.out.symm, HB.out⟩
theorem inGo_ok {sig : List Sy} : ∀ {l : List Ip} {f : Nat → Bool}, inGo sig f l = 0 → ∀ x ∈ l, 0 ≤ x.1 ∧ x.1 < (sig.length : Int) ∧ checkE x.2 (arI sig x.1) ≠ 20 ∧ checkE x.2 (arI sig x.1) ≠ 2
 | [], _, _ => fun x hx => by cases hx
 | (c, p) :: r, f, h => by
  rw [inGo] at h
  split at h
  ·cases h
  rename_i h1
  split at h
  ·cases h
  rename_i h2
  split at h
  ·cases h
  rename_i h3
  intro x hx
  rcases yB.1 hx with rfl | hx
  ·exact ⟨Int.not_lt.1 (fun e => h1 (Or.inl e)), Int.not_le.1 (fun e => h1 (Or.inr (Or.inl e))), h2, h3⟩
  exact inGo_ok h x hx
theorem inE_ok {sig : List Sy} {l : List Ip} (h : inE sig l = 0) : sigE sig = 0 ∧ ∀ x ∈ l, 0 ≤ x.1 ∧ x.1 < (sig.length : Int) ∧ checkE x.2 (arI sig x.1) ≠ 20 ∧ checkE x.2 (arI sig x.1) ≠ 2 := by
 unfold inE at h
 split at h
 ·rename_i h0
  exact ⟨h0, inGo_ok h⟩
 rename_i h0
 exact absurd h h0
def risB (n : Nat) (p : List Mn) : Bool := (List.range n).all fun v => p.any (alonB v)
def allRis (sig : List Sy) (l : List Ip) : Bool := l.all fun x => risB (arI sig x.1).toNat x.2
def strB (sig : List Sy) (l : List Ip) : Bool := decide (inE sig l = 0) && allRis sig l
theorem risB_no {n v : Nat} {p : List Mn} (hv : v < n) (h : p.any (alonB v) = false) : risB n p = false := by
 unfold risB
 rw [List.all_eq_false]
 exact ⟨v, List.mem_range.2 hv, by simp [h]⟩
theorem risB_yes {n : Nat} {p : List Mn} (h : ∀ v, v < n → p.any (alonB v) = true) : risB n p = true := by
 unfold risB
 rw [List.all_eq_true]
 exact fun v hv => h v (List.mem_range.1 hv)
theorem allRis_no {sig : List Sy} {l : List Ip} {x : Ip} (hx : x ∈ l) (h : risB (arI sig x.1).toNat x.2 = false) : allRis sig l = false := by
 unfold allRis
 rw [List.all_eq_false]
 exact ⟨x, hx, by simp [h]⟩
theorem xBC (sv lv : Value) (sig : List Sy) (l : List Ip) (w : World) (hs : Sg w sv sig) (hl : Ins w lv l) (hT : Tabs w) :
  Calls Tryz.prog 13 #[sv, lv] w fun e w' => e = .returned (.bool (strB sig l)) ∧ Below w.heap.size w w' := by
 have HCk := hid (xCK sv lv sig l w hs hl hT)
 obtain ⟨so, sc, rfl, hso, hsc, _⟩ := Row.flat hs
 obtain ⟨lo, lc, rfl, hlo, hlc, _⟩ := Row.flat hl
 unfold maxLen at hsc hlc
 have HS := hid hs
 have HL := hid hl
 clear hs hl hT
 go_enter Tryz.func13, Tryz.ntmps13
 go_wp2_with fail
 refine HCk.out.mono ?_
 rintro e w1 ⟨rfl, hb1⟩
 have B1 := hid hb1
 clear hb1 HCk
 by_cases hE : inE sig l = 0
 ·have HR : Hid (strB sig l = allRis sig l) := by show _ = _; unfold strB; rw [decide_eq_true hE, Bool.true_and]
  have HOk := hid (inE_ok hE)
  have HAo : Hid (ArOk sig) := hid (sigE_ok HOk.out.1)
  rw [hE]
  clear hE
  go_wp2
  go_loopw [14] (fun x wr => ∃ k : Nat, k ≤ l.length ∧ x = .int .i64 k ∧ (∀ y ∈ l.take k, risB (arI sig y.1).toNat y.2 = true) ∧ Below w.heap.size w wr) (fun x _ => l.length - (intOf x).toNat)
  case atStart => exact ⟨0, Nat.zero_le _, rfl, fun y hy => by simp at hy, B1.out⟩
  case round =>
   clear B1
   obtain ⟨k, hk, rfl, hall, hbl⟩ := hrel
   have HA := hid hall
   have BL := hid hbl
   clear hall hbl
   by_cases hlt : k < l.length
   ·obtain ⟨g, off, c, p, a1, c1, rfl, hm, hc0w, hc1w, hp, hcl, hcu, hp1, hp2⟩ := HL.out.at hlt
    have hmem : (c, p) ∈ l := zD hm
    obtain ⟨ci, hci⟩ := Int.eq_ofNat_of_zero_le (HOk.out.2 _ hmem).1
    have hlt2 := (HOk.out.2 _ hmem).2.1
    simp only at hci hlt2
    subst hci
    have hcs : ci < sig.length := by omega
    obtain ⟨gs, os, sn, ar, rfl, hsm, _, hsa, hal, hau, _⟩ := HS.out.at hcs
    have har := HAo.out _ (zD hsm)
    simp only at har
    obtain ⟨an, rfl⟩ := Int.eq_ofNat_of_zero_le har.1
    have han : an ≤ 1000 := by omega
    have HAr : Hid (arI sig (ci : Int) = (an : Int)) := by show _ = _; unfold arI; rw [Int.toNat_natCast, hsm]
    have HMem := hid hmem
    have HM := hid hm
    have HP := hid hp
    have hc0 := (zK BL.out).cell _ _ hc0w
    have hc1 := (zK BL.out).cell _ _ hc1w
    have hgw : g < wr.heap.size := yJ _ _ hc0
    obtain ⟨W, hW⟩ : ∃ X, X = wr.alloc (.cells #[.int .i64 (ci : Int), .slice a1 p.length c1] 51) := ⟨_, rfl⟩
    have BW : Hid (Below wr.heap.size wr W) := by rw [hW]; exact zA _
    have y0 : W.cell? ⟨wr.heap.size, 0, none⟩ = some (.int .i64 (ci : Int)) := by rw [hW, cell_of_row _ _ _ _ _ _ (yU _ _)]; rfl
    have Y1 : Hid (W.cell? ⟨wr.heap.size, 1, none⟩ = some (.slice a1 p.length c1)) := by show _ = _; rw [hW, cell_of_row _ _ _ _ _ _ (yU _ _)]; rfl
    have BLW := hid (zS BL.out BW.out)
    have x2 := (zK BLW.out).cell _ _ hsa
    clear hm hp hc0w hc1w hmem hsm hsa har hal hau
    go_upto_region 6 with fail
    rw [← hW]
    clear hW hc0 hc1
    generalize wr.heap.size = gb at y0 Y1 ⊢
    go_wp2
    clear y0 x2
    go_loopw [24] (fun x wr => ∃ j : Nat, j ≤ an ∧ x = .int .i64 j ∧ (∀ v, v < j → p.any (alonB v) = true) ∧ Below W.heap.size W wr) (fun x _ => an - (intOf x).toNat)
    case atStart => exact ⟨0, Nat.zero_le _, rfl, fun v hv => absurd hv (by omega), Below.refl _ _⟩
    case round =>
     obtain ⟨j, hj, rfl, hjs, hbj⟩ := hrel
     have HJ := hid hjs
     have BJ := hid hbj
     clear hjs hbj
     have BJw := hid (zS BLW.out BJ.out)
     by_cases hja : j < an
     ·have y1 := (zK BJ.out).cell _ _ Y1.out
      go_wp2_with fail
      refine (risesAlone_any _ p j _ (HP.out.kp (zK BJw.out)) (by omega)).mono ?_
      rintro e w5 ⟨rfl, hb5⟩
      have BN := hid (zS BJ.out hb5)
      have BNw := hid (zS BJw.out hb5)
      clear hb5 y1
      cases hx : p.any (alonB j) with
      | true =>
       have HJn : Hid (∀ v, v < j + 1 → p.any (alonB v) = true) := fun v hv => by
        rcases Nat.lt_succ_iff_lt_or_eq.1 hv with h | h
        ·exact HJ.out v h
        rw [h]; exact hx
       clear hx
       go_wp2
       go_roundw
       case rel => exact ⟨j + 1, hja, by go_num, HJn.out, BN.out⟩
       case measure => simp [intOf]; omega
      | false =>
       have HF : Hid (strB sig l = false) := by
        show _ = _
        rw [HR.out]
        exact allRis_no HMem.out (risB_no (v := j) (by simp only [HAr.out, Int.toNat_natCast]; exact hja) hx)
       clear hx
       go_wp2
       go_ret
       exact ⟨ret1b HF.out.symm, BNw.out⟩
     obtain rfl : j = an := by omega
     have HAn : Hid (∀ y ∈ l.take (k + 1), risB (arI sig y.1).toNat y.2 = true) := fun y hy => by
      rw [xAM HM.out] at hy
      rcases yE.1 hy with h | h
      ·exact HA.out y h
      obtain rfl := yR.1 h
      exact risB_yes (fun v hv => HJ.out v (by simp only [HAr.out, Int.toNat_natCast] at hv; exact hv))
     go_wp2
     go_roundw
     case rel => exact ⟨k + 1, hlt, by go_num, HAn.out, BJw.out⟩
     case measure => simp [intOf]; omega
   have HF : Hid (strB sig l = true) := by
    show _ = _
    rw [HR.out]
    unfold allRis
    rw [List.all_eq_true]
    intro y hy
    exact HA.out y (by rw [zO (by omega)]; exact hy)
   go_wp2
   go_ret
   exact ⟨ret1b HF.out.symm, BL.out⟩
 have HF : Hid (strB sig l = false) := by show _ = _; unfold strB; rw [decide_eq_false hE, Bool.false_and]
 have hne : (inE sig l != 0) = true := by rw [bne_iff_ne]; exact hE
 clear hE
 generalize inE sig l = z at hne ⊢
 go_wp2
 go_ret
 exact ⟨ret1b HF.out.symm, B1.out⟩
def docIn (sig : List Sy) : List Int → List Ip → Int
 | seen, [] => if seen.length = sig.length then 0 else 120
 | seen, (c, p) :: r => if c < 0 ∨ (sig.length : Int) ≤ c then 120 else if c ∈ seen then 120 else if checkE p (arI sig c) = 2 then 2 else if checkE p (arI sig c) ≠ 0 then 121 else docIn sig (c :: seen) r
theorem checkE_three (p : List Mn) (n : Int) (hn : ¬ n < 0) : checkE p n = 0 ∨ checkE p n = 2 ∨ checkE p n = 20 := by
 unfold checkE
 rw [if_neg hn]
 split
 ·simp
 split <;> simp
theorem lack_len {seen : List Int} {n : Nat} (hd : seen.Nodup) (hr : ∀ x ∈ seen, 0 ≤ x ∧ x < (n : Int)) : lackB (fun i => decide ((i : Int) ∈ seen)) n = false ↔ seen.length = n := by
 have hl : seen.length ≤ n := by
  have h := List.Nodup.length_le_of_subset (l₂ := (List.range n).map (fun i : Nat => (i : Int))) hd (fun x hx => by
   obtain ⟨i, rfl⟩ := Int.eq_ofNat_of_zero_le (hr x hx).1
   exact yL.2 ⟨i, List.mem_range.2 (by have := (hr _ hx).2; omega), rfl⟩)
  simpa using h
 constructor
 ·intro h
  have hn : ((List.range n).map (fun i : Nat => (i : Int))).Nodup := by
   rw [List.nodup_iff_pairwise_ne, List.pairwise_map]
   exact List.Pairwise.imp (fun {a b} h e => h (by omega)) (List.nodup_iff_pairwise_ne.1 List.nodup_range)
  have h2 := List.Nodup.length_le_of_subset (l₂ := seen) hn (fun x hx => by
   obtain ⟨i, hi, rfl⟩ := yL.1 hx
   simp only [lackB, List.any_eq_false, List.mem_range] at h
   have := h i (List.mem_range.1 hi)
   simpa using this)
  simp at h2
  omega
 intro h
 refine lackB_no (fun i hi => ?_)
 by_cases hm : (i : Int) ∈ seen
 ·simp [hm]
 exfalso
 have h3 := List.Nodup.length_le_of_subset (l₁ := (i : Int) :: seen) (l₂ := (List.range n).map (fun i : Nat => (i : Int))) (List.nodup_cons.2 ⟨hm, hd⟩) (fun x hx => by
  rcases yB.1 hx with rfl | hx
  ·exact yL.2 ⟨i, List.mem_range.2 hi, rfl⟩
  obtain ⟨j, rfl⟩ := Int.eq_ofNat_of_zero_le (hr x hx).1
  exact yL.2 ⟨j, List.mem_range.2 (by have := (hr _ hx).2; omega), rfl⟩)
 simp at h3
 omega
theorem gvn_seen {seen : List Int} {c : Nat} : gvn (fun i : Nat => decide ((i : Int) ∈ seen)) c = fun i : Nat => decide ((i : Int) ∈ ((c : Int) :: seen)) := by
 funext i
 unfold gvn
 by_cases h : i = c
 ·subst h; simp
 have : ¬ (i : Int) = (c : Int) := by omega
 simp [h, this]
theorem arI_ok {sig : List Sy} (ha : ArOk sig) (c : Int) : ¬ arI sig c < 0 := by
 unfold arI
 split
 ·omega
 rename_i s h
 have := (ha s (zD h)).1
 omega
theorem docIn_in {sig : List Sy} (ha : ArOk sig) : ∀ {l : List Ip} {seen : List Int}, seen.Nodup → (∀ x ∈ seen, 0 ≤ x ∧ x < (sig.length : Int)) → docIn sig seen l = inGo sig (fun i => decide ((i : Int) ∈ seen)) l
 | [], seen, hd, hr => by
  rw [docIn, inGo]
  by_cases h : seen.length = sig.length
  ·rw [if_pos h, (lack_len hd hr).2 h]; rfl
  ·have h2 : lackB (fun i => decide ((i : Int) ∈ seen)) sig.length = true := by
    rw [← Bool.not_eq_false]
    exact fun e => h ((lack_len hd hr).1 e)
   rw [if_neg h, h2]; rfl
 | (c, p) :: r, seen, hd, hr => by
  rw [docIn, inGo]
  by_cases h1 : c < 0 ∨ (sig.length : Int) ≤ c
  ·rw [if_pos h1, if_pos (by rcases h1 with h | h; exact Or.inl h; exact Or.inr (Or.inl h))]
  have h0 : 0 ≤ c := Int.not_lt.1 (fun e => h1 (Or.inl e))
  have hb : c < (sig.length : Int) := Int.not_le.1 (fun e => h1 (Or.inr e))
  obtain ⟨ci, rfl⟩ := Int.eq_ofNat_of_zero_le h0
  rw [if_neg h1]
  by_cases hm : (ci : Int) ∈ seen
  ·rw [if_pos hm, if_pos (Or.inr (Or.inr (by simp [hm])))]
  have h4 : ¬ ((ci : Int) < 0 ∨ (sig.length : Int) ≤ (ci : Int) ∨ (fun i : Nat => decide ((i : Int) ∈ seen)) (ci : Int).toNat = true) := by
   rintro (h | h | h)
   ·exact h1 (Or.inl h)
   ·exact h1 (Or.inr h)
   exact hm (by simpa using h)
  rw [if_neg hm, if_neg h4, Int.toNat_natCast, gvn_seen]
  rw [docIn_in ha (seen := (ci : Int) :: seen) (List.nodup_cons.2 ⟨hm, hd⟩) (fun x hx => by
   rcases yB.1 hx with rfl | hx
   ·exact ⟨h0, hb⟩
   exact hr x hx)]
  rcases checkE_three p (arI sig (ci : Int)) (arI_ok ha _) with h | h | h <;> rw [h] <;> rfl
section
variable {P : Program} {w w' : World} {ops : Array Oper} {rest : List Oper} {o : Oper} {a : Act} {Q : Exit → Act → World → Prop}
theorem xGM (hg : o.guard = none) (s x : Operand) (t : TypeId) (ho : o.op = .call { callee := .builtin .append, args := #[s, x], argTypes := #[t, t] }) (v u : Value) {v' : Value} (hs : a.eval s = v) (hx : a.eval x = u)
  (hr : (Builtin.append_ #[t, t] o.type #[v, u]).run P w = .ok v' w') (h : wpList P ops Q rest (a.put o.dst v') w') : wpList P ops Q (o :: rest) a w := by
 refine wpList_plain hg fun K' hK' => ?_
 unfold Oper.wp
 simp [execOp, ho, resolve, invoke, builtin, hs, hx, hr, Result.andThen]
 exact hK' _ _ h
end
def RdV (w : World) (v : Value) (vals : List Value) : Prop :=
 (v = .slice none 0 0 ∧ vals = []) ∨ ∃ g off cap, v = .slice (some ⟨g, off, none⟩) vals.length cap ∧ ∀ (j : Nat) (u : Value), vals[j]? = some u → w.cell? ⟨g, off + j, none⟩ = some u
theorem xAF (w : World) : Below w.heap.size w w.drew := (Below.refl _ _).drew
theorem set_grownT (w : World) (g k : Nat) (u : Value) : w.grownBy (w.setCell ⟨g, k, none⟩ u) (some g) :=
 ⟨rfl, rfl, rfl, by simp [World.setCell], fun i _ hne => heap_setCell_other _ _ _ _ (by intro e; subst e; exact hne rfl)⟩
def IfV (u : Value) : Prop := ∃ t x, u = .iface t x
theorem swp_mem {d : Array Value} {i j : Nat} (hi : i < d.size) (hj : j < d.size) {u : Value} (h : u ∈ (Sort.swp d i j).toList) : u ∈ d.toList := by
 unfold Sort.swp at h
 simp only [Array.toList_setIfInBounds] at h
 rcases List.mem_or_eq_of_mem_set h with h | h
 ·rcases List.mem_or_eq_of_mem_set h with h | h
  ·exact h
  rw [h, getElem!_pos d j hj]; exact Array.getElem_mem_toList hj
 rw [h, getElem!_pos d i hi]; exact Array.getElem_mem_toList hi
theorem swp_list {d : Array Value} {i j : Nat} (hi : i < d.size) (hj : j < d.size) : (Sort.swp d i j).toList = (d.toList.set i d[j]!).set j d[i]! := by
 unfold Sort.swp
 simp [getElem!_pos, hi, hj]
inductive Tr where
 | var : Tr
 | app : List Tr → Tr
mutual
def Tr.size : Tr → Nat
 | .var => 1
 | .app ts => 1 + sizes ts
def sizes : List Tr → Nat
 | [] => 0
 | t :: ts => t.size + sizes ts
end
theorem IfV.one {u : Value} (h : IfV u) : u.oneCell' = true := by obtain ⟨t, x, rfl⟩ := h; rfl
theorem xBJ : ∀ (a b : List Tr), sizes (a ++ b) = sizes a + sizes b
 | [], b => by simp [sizes]
 | t :: a, b => by simp only [yG, sizes, xBJ a b]; omega
theorem sizes_take (ts : List Tr) (k : Nat) : sizes (ts.take k) ≤ sizes ts := by
 have := xBJ (ts.take k) (ts.drop k)
 rw [zQ] at this
 omega
theorem Tr.pos (t : Tr) : 1 ≤ t.size := by
 cases t <;> simp only [Tr.size] <;> omega
theorem len_sizes : ∀ ts : List Tr, ts.length ≤ sizes ts
 | [] => by simp [sizes]
 | t :: ts => by
  have := t.pos
  have := len_sizes ts
  simp only [zG, sizes]
  omega
theorem RdV.kp {w w' : World} {v : Value} {vals : List Value} (h : RdV w v vals) (hk : Kp w w') : RdV w' v vals := by
 rcases h with h | ⟨g, off, cap, h1, h2⟩
 ·exact .inl h
 exact .inr ⟨g, off, cap, h1, fun j u hj => hk.cell _ _ (h2 j u hj)⟩
theorem RdV.at {w : World} {ao : Option Addr} {n cap : Nat} {vals : List Value} (h : RdV w (.slice ao n cap) vals) {k : Nat} {u : Value} (hk : vals[k]? = some u) : ∃ g off, ao = some ⟨g, off, none⟩ ∧ w.cell? ⟨g, off + k, none⟩ = some u := by
 rcases h with ⟨_, rfl⟩ | ⟨g, off, cap', h1, h2⟩
 ·simp at hk
 simp only [zZ] at h1
 exact ⟨g, off, h1.1, h2 k u hk⟩
end Go.Proofs.YtdjmjhlbjcgoiaaGreatDoor
namespace Go.Proofs.YtdjmjhlbjcgoiaaGreatDoor
open Go.RowKit Go.Maps Go.Shelf
attribute [local go_sem] Oper.semAt_some
section
variable {P : Program} {F : Fence} {n : Nat}
theorem range_rounds {g : Operand} {ps : Array Tmp} {assign body : Code} {Q : Exit → Act → World → Prop} {a : Act} {w : World} (hro : F.round = none) (h1 : 1 ≤ n) {gf : Nat} {lb : Array Value}
  (hg : a.eval g = .func (.func gf) #[] lb) (hFg : F.fn gf) (eg : ∀ args w, (callFunc gf args).run P w = .ok (.enter gf args) w)
  (args : Nat → Array Value) (N : Nat) (hps : ∀ k, (args k).size = ps.size) (Rd : World → Prop) (I : Nat → World → Prop)
  (hput : ∀ (k : Nat) (W : World) (l : Nat) (o o' : Obj), w.heap.size ≤ l → W.heap[l]? = some o → o.isCells = false → I k W → I k (W.putObj l o'))
  (h0 : ∀ r : Loop, I 0 ((w.alloc (.deferred (some []))).alloc (.loop r))) (hRd : ∀ k W, I k W → Rd W)
  (hseq : ∀ (l : Nat) (J : Nat → World → Prop) (W : World), (∀ k W1, J k W1 → Rd W1) → (∀ k W1, k < N → J k W1 → YieldAt F (n - 1 - 1) P l (args k) W1 fun e W' => e = .returned (.bool true) ∧ J (k + 1) W') → J 0 W →
   CallsIn F (n - 1) P gf (#[.func (.yield l) #[] #[]] ++ lb) W fun e W' => (∃ v, e = .returned v) ∧ J N W')
  (a1 : Nat → Act)
  (hassign : ∀ (l k : Nat) (W : World) (K : Act → World → Prop), K (a1 k) W → assign.wpIn (F.inRound l) (n - 1 - 1) P (Exit.then K (fun _ _ _ => False)) { tmps := (ps.zip (args k)).foldl (fun t (p, v) => t.setIfInBounds p v) a.tmps, defers := [] } W)
  (hbody : ∀ (l k : Nat) (W : World), k < N → I k W → body.wpIn (F.inRound l) (n - 1 - 1) P (fun e _ W' => e = .normal ∧ KeepsFrom w.heap.size W W' ∧ I (k + 1) W') (a1 k) W)
  (hdone : ∀ (D : Nat) (W : World), w.heap.size ≤ D → I N W → W.heap[D]? = some (.deferred (some [])) → Q .normal { a with defers := { target := .collected D, args := #[] } :: a.defers } W) :
  (Code.rangeFunc g ps assign body).wpIn F n P Q a w := by
 refine wpIn_rangeFunc fun fn hfn => ?_
 rw [hro]
 -- the record of the loop, as it stands between two rounds and in one
 obtain ⟨R, hR⟩ : ∃ R : LoopState → Loop, R = fun s => { state := s, pending := none, fn, tmps := a.tmps, params := ps, assign, body, defers := w.heap.size } := ⟨_, rfl⟩
 have hRs : ∀ s, (R s).state = s := fun s => by rw [hR]
 have hRb : ∀ s s', { R s with state := s' } = R s' := fun s s' => by rw [hR]
 obtain ⟨l, hl⟩ : ∃ l, l = w.heap.size + 1 := ⟨_, rfl⟩
 obtain ⟨W1, hW1⟩ : ∃ W, W = (w.alloc (.deferred (some []))).alloc (.loop (R .ready)) := ⟨_, rfl⟩
 have hl1 : W1.heap[l]? = some (.loop (R .ready)) := by
  rw [hW1, hl]
  have := World.alloc_heap_new (w.alloc (.deferred (some []))) (.loop (R .ready))
  rwa [World.size_alloc] at this
 have hd1 : W1.heap[w.heap.size]? = some (.deferred (some [])) := by
  rw [hW1]
  exact (Below.heap_alloc _ _ _ (by simp)).trans (World.alloc_heap_new w _)
 refine ⟨l, [{ target := .collected w.heap.size, args := #[] }], W1, { target := .fn (.func gf) lb, args := #[.func (.yield l) #[] #[]] }, W1, gf, #[.func (.yield l) #[] #[]] ++ lb, W1, ?_, ?_, ?_, ?_, fun _ => h1, ?_⟩
 ·rw [hl, hW1, hR]
  exact run_enterLoop_outer _ _ _ _ _
 ·simp only [resolve, hg]
  simp [go_sem]
 ·intro f' hf'
  simp [Target.leads] at hf'
  subst hf'
  exact hFg
 ·simp [invoke, go_sem, eg]
 refine (hseq l (fun k W => I k W ∧ W.heap[l]? = some (.loop (R .ready)) ∧ W.heap[w.heap.size]? = some (.deferred (some []))) W1 (fun k W h => hRd k W h.1) ?_ ⟨by rw [hW1]; exact h0 _, hl1, hd1⟩).mono ?_
 ·rintro k W hk ⟨hi, hL, hD⟩
  have hlt := (zL.1 hL).1
  have hy := run_yield (P := P) (args := args k) hL (by rw [hR]; exact hps k)
  refine ⟨_, _, _, _, hy, ?_⟩
  rw [show (R .ready).assign = assign by rw [hR], show (R .ready).body = body by rw [hR], show (R .ready).fn = fn by rw [hR], show (R .ready).tmps = a.tmps by rw [hR], show (R .ready).params = ps by rw [hR]]
  refine roundIn_of_wpIn hfn (hassign l k W _ ⟨_, run_beginRound hL (hRs _), ?_⟩)
  rw [hRb]
  have hL2 : (W.putObj l (.loop (R .busy))).heap[l]? = some (.loop (R .busy)) := World.putObj_heap_same hlt
  have hD2 : (W.putObj l (.loop (R .busy))).heap[w.heap.size]? = some (.deferred (some [])) := (World.putObj_heap_other (by omega)).trans hD
  refine wpIn_mono (hbody l k _ hk (hput k W l _ _ (by omega) hL rfl hi)) ?_
  rintro e a3 W3 ⟨rfl, hkf, hi3⟩
  have hL3 := hkf.same _ _ (show w.heap.size ≤ l by omega) hL2 rfl
  have hD3 := hkf.same _ _ (Nat.le_refl _) hD2 rfl
  have he := run_endRound (P := P) none hL3
  refine ⟨_, _, he, rfl, ?_, ?_, ?_⟩
  ·exact hput _ W3 l _ _ (by omega) hL3 rfl hi3
  ·rw [World.putObj_heap_same (zL.1 hL3).1]
   simp only [Option.isNone_none, if_true]
   rw [hR]
  exact (World.putObj_heap_other (by omega)).trans hD3
 rintro e W2 ⟨⟨v, rfl⟩, hi, hL, hD⟩
 have he := run_endLoop (P := P) hL (by rw [hRs]; simp)
 rw [show (R .ready).pending = none by rw [hR]] at he
 exact ⟨none, _, he, hdone _ _ (Nat.le_refl _) (hput _ W2 l _ _ (by omega) hL rfl hi) ((World.putObj_heap_other (by omega)).trans hD)⟩
end
attribute [local go_sem] Oper.semAt_some
def backA (t : List Int) (k : Nat) : Array Value := #[.int .i64 ((t.length - 1 - k : Nat) : Int), .int .i64 (t.reverse[k]?.getD 0)]
def BackR (Bs b off cap : Nat) (t : List Int) (W : World) : Prop := W.cell? ⟨Bs, 0, none⟩ = some (.slice (some ⟨b, off, none⟩) t.length cap) ∧ ∀ (j : Nat) (c : Int), t[j]? = some c → W.cell? ⟨b, off + j, none⟩ = some (.int .i64 c)
theorem back_rounds (F : Fence) (n : Nat) (hF : F.fn 155) (hro : F.round = none) (hn : 1 ≤ n) (Bs b off cap : Nat) (t : List Int) (ht : t.length * 8 ≤ 140737488351232) (_hcap : t.length ≤ cap) (_hcm : cap ≤ 9223372036854775807) (l : Nat) (J : Nat → World → Prop) (W : World)
  (hR : ∀ k W1, J k W1 → BackR Bs b off cap t W1) (hY : ∀ k W1, k < t.length → J k W1 → YieldAt F (n - 1) Tryz.prog l (backA t k) W1 fun e W' => e = .returned (.bool true) ∧ J (k + 1) W') (h0 : J 0 W) :
  CallsIn F n Tryz.prog 155 (#[.func (.yield l) #[] #[]] ++ #[.pointer (some ⟨Bs, 0, none⟩)]) W fun e W' => (∃ v, e = .returned v) ∧ J t.length W' := by
 refine callsIn_of_wp Tryz.func155 rfl hF ?_ hro
 simp only [Tryz.ntmps155, List.size_toArray, zG, List.length_nil, Nat.reduceAdd, Nat.reduceSub, Array.replicate_succ, Array.replicate_zero, List.push_toArray, List.append_toArray, yH, yG]
 have hb0 := (hR 0 W h0).1
 have hw0 : IntKind.i64.wrap ((t.length : Int) - 1) = (t.length : Int) - 1 := yA _ ⟨by omega, by omega⟩
 gi_wp2
 gi_loopw [3] (fun iv wr => ∃ k : Nat, k ≤ t.length ∧ iv = .int .i64 ((t.length : Int) - 1 - k) ∧ J k wr) (fun iv _ => (intOf iv + 1).toNat)
 case atStart => exact ⟨0, Nat.zero_le _, by simp, h0⟩
 case round =>
  obtain ⟨k, hk, rfl, hJ⟩ := hrel
  obtain ⟨hb1, hb2⟩ := hR k wr hJ
  by_cases hlt : k < t.length
  ·obtain ⟨j, hj⟩ : ∃ j : Nat, j = t.length - 1 - k := ⟨_, rfl⟩
   have hjl : j < t.length := by omega
   have hji : (t.length : Int) - 1 - (k : Int) = (j : Int) := by omega
   obtain ⟨c, hc⟩ : ∃ c, t[j]? = some c := ⟨_, zC hjl⟩
   have hcell := hb2 j c hc
   obtain ⟨fn, tmps, assign, body, hy, hRd⟩ := hY k wr hlt hJ
   have hbk : backA t k = #[.int .i64 (j : Int), .int .i64 c] := by
    unfold backA
    rw [List.getElem?_reverse hlt, ← hj, hc]
    rfl
   rw [hbk] at hy
   rw [hji]
   clear hb2 hbk hc hj
   gi_wp2
   refine hRd.mono ?_
   rintro e W3 ⟨rfl, hJ3⟩
   have hwj : IntKind.i64.wrap ((j : Int) - 1) = (j : Int) - 1 := yA _ ⟨by omega, by omega⟩
   gi_wp2
   go_roundw
   case rel => exact ⟨k + 1, by omega, congrArg (Value.int .i64) (by omega), hJ3⟩
   case measure => simp [intOf]
  have hke : k = t.length := by omega
  subst hke
  gi_wp2
  go_end0
  exact ⟨⟨_, rfl⟩, hJ⟩
theorem back_any (ao : Option Addr) (len cap : Nat) (w : World) (F : Fence) (n : Nat) (hF : F.fn 110) (hro : F.round = none) :
  CallsIn F n Tryz.prog 110 #[.slice ao len cap] w fun e w' => e = .returned (.func (.func 155) #[] #[.pointer (some ⟨w.heap.size, 0, none⟩)]) ∧ w' = w.alloc (.cells #[.slice ao len cap] 30) := by
 refine callsIn_of_wp Tryz.func110 rfl hF ?_ hro
 simp only [Tryz.ntmps110, List.size_toArray, zG, List.length_nil, Nat.reduceAdd, Nat.reduceSub, Array.replicate_succ, Array.replicate_zero, List.push_toArray, List.append_toArray, yH, yG]
 gi_wp2
 go_ret
 exact ⟨rfl, rfl⟩
theorem xEZ (ty : TypeId) {w : World} {base : Nat} {x u : Value} {xs es : List Int} (ho : OwI w base x xs) (hs : Is w u es) (hb : base ≤ w.heap.size) (hl : (xs.length + es.length) * 8 ≤ 140737488355328) :
  ∃ v' w', (Builtin.append_ #[30, 30] ty #[x, u]).run Tryz.prog w = .ok v' w' ∧ OwI w' base v' (xs ++ es) ∧ w.grownBy w' x.ownBlock := by
 obtain ⟨i0, hi, hz0, hz1, hz2⟩ := info_parts info_int
 have hZ : ZI es := fun k x hk => by
  obtain ⟨ao, cap, rfl, _, _, hx⟩ := Row.flat hs
  obtain ⟨_, _, y, _, hy, h1, h2, _⟩ := hx k (zB.1 hk).1
  rw [hk] at hy
  cases hy
  exact ⟨h1, h2⟩
 have hZ2 : ZI (xs ++ es) := fun k y hk => by
  by_cases hkl : k < xs.length
  ·rw [zN hkl] at hk
   exact ho.1 k y hk
  rw [zM (by omega)] at hk
  exact hZ _ y hk
 obtain ⟨ao, cap, rfl, hc, hm, hx⟩ := hs
 by_cases h0 : es.length = 0
 ·obtain rfl : es = [] := zE h0
  obtain ⟨bo, bc, rfl, hbc, _⟩ := ho.shape
  refine ⟨_, w, run_append_nothing w 30 30 ty 3 i0 xBQ hi _ xs.length bc hbc _ ?_, by rw [zV]; exact ho, World.grownBy.refl _ _⟩
  cases ao with
  | none => exact Src.ofNil w xBQ _
  | some a => exact Src.ofSlice w xBQ a 0 _ [] (by simp) (fun j u hj => (by simp at hj)) (fun u hu => (by simp at hu))
 obtain ⟨g', off, rfl, hg, hcell⟩ := hx (by omega)
 obtain ⟨v', w', hr, h2, h3, _, _⟩ := run_append_own_at (P := Tryz.prog) w base 30 ty 3 i0 _ 1 8 xBQ hi hz0 hz1 hz2 rfl (by decide) _ xs.length (xs.map I64) ho.2 ⟨g', off, none⟩ es.length cap (es.map I64) (by simp) (fun j u hj => by
  rw [zU] at hj
  cases hk : es[j]? with
  | none => rw [hk] at hj; simp at hj
  | some x =>
   rw [hk] at hj
   simp at hj
   subst hj
   rw [Addr.add_lit]
   have := (hcell j x hk).2.2
   rw [Nat.mul_one] at this
   exact this) (fun u hu => by obtain ⟨x, _, rfl⟩ := yL.1 hu; rfl) (by unfold maxLen; omega) (by omega) hb
 refine ⟨v', w', hr, ⟨hZ2, ?_⟩, h3⟩
 rw [zF, yI]
 exact h2
def RV (v : Value) : Option (DataW Value × List MemPlace) := some (.held v, [])
def MapV (w : World) (b : Nat) (L : List (Int × Value)) : Prop :=
 ∃ D : DataW Value, w.ownsMap Tryz.prog 3 RV b L.length D ∧ Maps.size D = L.length ∧
  (∀ k v, L.lookup k = some v → ∀ z, D.atKey (.int .i64 k) z = .held v) ∧ (∀ k, Maps.has D (.int .i64 k) = (L.lookup k).isSome)
theorem MapV.isMap {w : World} {b : Nat} {L : List (Int × Value)} (h : MapV w b L) : ∃ es clock, w.heap[b]? = some (.map es clock) := by
 obtain ⟨D, ⟨es, clock, hb, _⟩, _⟩ := h
 exact ⟨es, clock, hb⟩
theorem MapV.lt {w : World} {b : Nat} {L : List (Int × Value)} (h : MapV w b L) : b < w.heap.size := by
 obtain ⟨es, clock, hb⟩ := h.isMap
 exact (zL.1 hb).1
theorem MapV.kept {w w' : World} {b : Nat} {L : List (Int × Value)} {row : Option Nat} (h : MapV w b L) (hg : w.grownBy w' row) (hr : row ≠ some b) : MapV w' b L := by
 obtain ⟨D, h1, h2, h3, h4⟩ := h
 exact ⟨D, h1.kept hg (fun e => hr e.symm), h2, h3, h4⟩
theorem MapV.later {w w' : World} {b : Nat} {L : List (Int × Value)} (h : MapV w b L) (hb : Below w.heap.size w w') : MapV w' b L :=
 h.kept (xAA hb none) (by simp)
theorem MapV.made (w : World) : MapV (w.alloc (.map #[] 0)) w.heap.size [] :=
 ⟨DataW.map [], World.ownsMap_made w _ _ _, rfl, fun k v hk => (by cases hk), fun k => (by simp [Maps.has])⟩
theorem MapV.look {w : World} {b : Nat} {L : List (Int × Value)} (h : MapV w b L) {t e : TypeId} {z : Value} (ht : Tryz.prog.underlying t = some (.map 3 e)) (hz : (zeroValue e).run Tryz.prog w = .ok z w) {k : Int} (h1 : -9223372036854775808 ≤ k) (h2 : k ≤ 9223372036854775807) :
  (Instr.lookup t (.map (some b)) (.int .i64 k) true).run Tryz.prog w = .ok (.tuple #[(L.lookup k).getD z, .bool (L.lookup k).isSome]) w := by
 obtain ⟨D, hD, _, ha, hh⟩ := h
 obtain ⟨v, ps, hrun, hv⟩ := hD.look_ok set_keyed ht hz (zd := .held z) (zp := []) rfl (key_int h1 h2)
 rw [hrun, hh]
 have hv2 : D.atKey (.int .i64 k) (.held z) = .held v := by
  simp only [RV, zX, Prod.mk.injEq] at hv
  exact hv.1.symm
 cases hl : L.lookup k with
 | none =>
  rw [atKey_of_not_has (by rw [hh, hl]; rfl)] at hv2
  rw [DataW.held.inj hv2]
  simp only [Option.getD, Option.isSome]
 | some u =>
  rw [ha k u hl] at hv2
  rw [DataW.held.inj hv2]
  simp only [Option.getD, Option.isSome]
theorem MapV.store {w : World} {b : Nat} {L : List (Int × Value)} (h : MapV w b L) {t e : TypeId} (ht : Tryz.prog.underlying t = some (.map 3 e)) {k : Int} (h1 : -9223372036854775808 ≤ k) (h2 : k ≤ 9223372036854775807) (hn : L.lookup k = none) (hL : L.length < maxLen) (v : Value) :
  ∃ w', (Instr.mapUpdate t (.map (some b)) (.int .i64 k) v).run Tryz.prog w = .ok () w' ∧ MapV w' b ((k, v) :: L) ∧ w.grownBy w' (some b) := by
 obtain ⟨D, hD, hs, ha, hh⟩ := h
 have hT := hD.tidy set_keyed
 have hK : WideAt.IsKeyLit (.int .i64 k) := set_keyed.key (key_int h1 h2)
 obtain ⟨w', hrun, r1, r2⟩ := hD.store set_keyed ht hL (key_int h1 h2) (val := v) (d := .held v) (ps := []) rfl
 refine ⟨w', hrun, ⟨D.put (.int .i64 k) (.held v), r1, ?_, fun k' v' hl z => ?_, fun k' => ?_⟩, r2.grown⟩
 ·rw [size_put hT, hs, hh, hn]
  rfl
 ·rw [List.lookup_cons] at hl
  by_cases e : k' = k
  ·subst e
   simp at hl
   subst hl
   exact atKey_put_same hT.isMap hK _ z
  rw [show (k' == k) = false by simpa using e] at hl
  rw [atKey_put_other (by simpa using e)]
  exact ha k' v' hl z
 rw [List.lookup_cons]
 by_cases e : k' = k
 ·subst e
  rw [has_put_same hT.isMap hK]
  simp
 rw [has_put_other (by simpa using e), hh, show (k' == k) = false by simpa using e]
theorem xGB : Tryz.prog.underlying 183 = some (.map 3 30) := by kernel_rfl
theorem zero_ints (w : World) : (zeroValue 30).run Tryz.prog w = .ok (.slice none 0 0) w := by kernel_rfl
theorem bound_closure (n : Int) (b bx : Nat) (L : List (Int × Value)) (w : World) (hc : w.cell? ⟨bx, 0, none⟩ = some (.map (some b))) (hm : MapV w b L) (h1 : -9223372036854775808 ≤ n) (h2 : n ≤ 9223372036854775807) :
  Calls Tryz.prog 171 #[.int .i64 n, .pointer (some ⟨bx, 0, none⟩)] w fun e w' => e = .returned (.tuple #[(L.lookup n).getD (.slice none 0 0), .bool (L.lookup n).isSome]) ∧ w' = w := by
 have hl := hm.look xGB (zero_ints w) h1 h2
 have HL := hid hl
 clear hl hm
 generalize (L.lookup n).getD (.slice none 0 0) = r at HL ⊢
 generalize (L.lookup n).isSome = o at HL ⊢
 go_enter Tryz.func171, Tryz.ntmps171
 go_wp2_with (first
  | (at_lookup; refine xAT rfl _ _ _ _ rfl _ _ _ rfl rfl HL.out ?_))
 go_ret2
 exact ⟨rfl, rfl⟩
def Terms (w : World) : List (Int × Value) → List Bd → Prop
 | [], [] => True
 | (k, v) :: L, (x, t) :: s => k = x ∧ Is w v t ∧ Terms w L s
 | _, _ => False
theorem Terms.kp {w w' : World} (hk : Kp w w') : ∀ {L : List (Int × Value)} {s : List Bd}, Terms w L s → Terms w' L s
 | [], [], _ => trivial
 | (_, _) :: _, (_, _) :: _, ⟨h1, h2, h3⟩ => ⟨h1, h2.kp hk, Terms.kp hk h3⟩
 | [], _ :: _, h => h.elim
 | _ :: _, [], h => h.elim
theorem Terms.len {w : World} : ∀ {L : List (Int × Value)} {s : List Bd}, Terms w L s → L.length = s.length
 | [], [], _ => rfl
 | (_, _) :: _, (_, _) :: _, ⟨_, _, h3⟩ => congrArg (· + 1) (Terms.len h3)
 | [], _ :: _, h => h.elim
 | _ :: _, [], h => h.elim
theorem Terms.look {w : World} (n : Int) : ∀ {L : List (Int × Value)} {s : List Bd}, Terms w L s → (∀ t, s.lookup n = some t → ∃ v, L.lookup n = some v ∧ Is w v t) ∧ (s.lookup n = none → L.lookup n = none)
 | [], [], _ => ⟨fun t h => (by cases h), fun _ => rfl⟩
 | (k, v) :: L, (x, t) :: s, ⟨h1, h2, h3⟩ => by
  subst h1
  rw [List.lookup_cons, List.lookup_cons]
  cases hk : n == k with
  | true => exact ⟨fun u hu => ⟨v, rfl, by cases hu; exact h2⟩, fun h => by cases h⟩
  | false => exact Terms.look n h3
 | [], _ :: _, h => h.elim
 | _ :: _, [], h => h.elim
theorem boundTerms_any (bv : Value) (s : List Bd) (w : World) (h : Bs w bv s) (hn : ∀ k x t, s[k]? = some (x, t) → (s.take k).reverse.lookup x = none) :
  Calls Tryz.prog 138 #[bv] w fun e w' => ∃ b bx L, e = .returned (.func (.func 171) #[] #[.pointer (some ⟨bx, 0, none⟩)]) ∧ w'.cell? ⟨bx, 0, none⟩ = some (.map (some b)) ∧ MapV w' b L ∧ Terms w' L s.reverse ∧ Below w.heap.size w w' := by
 obtain ⟨so, sc, rfl, hso, hsc, _⟩ := Row.flat h
 unfold maxLen at hsc
 have HI : Hid (Bs w (.slice so s.length sc) s) := h
 have HN : Hid (∀ k x t, s[k]? = some (x, t) → (s.take k).reverse.lookup x = none) := hn
 clear h hn
 have hmm : ∀ (n : Int) (w : World), (Instr.makeMap 183 (some (.int .i64 n))).run Tryz.prog w = .ok (.map (some w.heap.size)) (w.alloc (.map #[] 0)) := by
  intro n w
  simp [Instr.makeMap, run_underlying xGB, asInt, asIntOf, Result.andThen]
 go_enter Tryz.func138, Tryz.ntmps138
 go_wp2
 go_loopw [11] (fun i wr => ∃ (k : Nat) (L : List (Int × Value)), k ≤ s.length ∧ i = .int .i64 k ∧ Terms wr L (s.take k).reverse ∧ MapV wr w.heap.size L ∧ wr.cell? ⟨w.heap.size + 1, 0, none⟩ = some (.map (some w.heap.size)) ∧ Below w.heap.size w wr) (fun i _ => s.length - (intOf i).toNat)
 case atStart => exact ⟨0, [], Nat.zero_le _, rfl, trivial, (MapV.made w).later (zA _), by simp, zS (zA _) (zA _)⟩
 case round =>
  obtain ⟨k, L, hk, rfl, hte, hmv, hbx, hbl⟩ := hrel
  have HTe : Hid (Terms wr L (s.take k).reverse) := hte
  have HMv : Hid (MapV wr w.heap.size L) := hmv
  have HB : Hid (Below w.heap.size w wr) := hbl
  clear hte hmv hmm
  by_cases hlt : k < s.length
  ·obtain ⟨g, off, x, ba, t, bc, rfl, hm, hc0, hc1, hit, hx1, hx2, hx3⟩ := (HI.out.kp (zK hbl)).at hlt
   have hlen := HTe.out.len
   rw [yX, zH, Nat.min_eq_left hk] at hlen
   have hbw := zA (w := wr) (.cells #[.int .i64 x, .slice ba t.length bc] 229)
   obtain ⟨w4, hr4, hm4, hg4⟩ := (HMv.out.later hbw).store xGB hx1 hx2 ((HTe.out.look x).2 (HN.out k x t hm)) (by unfold maxLen; omega) (.slice ba t.length bc)
   obtain ⟨es, ck, hes⟩ := (HMv.out.later hbw).isMap
   have hkp : Kp wr w4 := (zK hbw).trans (Kp.of_map hg4 hes)
   have HT4 : Hid (Terms w4 ((x, .slice ba t.length bc) :: L) (s.take (k + 1)).reverse) := by
    show Terms _ _ _
    rw [List.take_add_one, hm]
    simp only [Option.toList, List.reverse_append, List.reverse_cons, List.reverse_nil, yH, yG]
    exact ⟨rfl, hit.kp hkp, HTe.out.kp hkp⟩
   have HR4 : Hid ((Instr.mapUpdate 183 (.map (some w.heap.size)) (.int .i64 x) (.slice ba t.length bc)).run Tryz.prog (wr.alloc (.cells #[.int .i64 x, .slice ba t.length bc] 229)) = .ok () w4) := hr4
   have HM4 : Hid (MapV w4 w.heap.size ((x, .slice ba t.length bc) :: L)) := hm4
   have HB4 : Hid (Below w.heap.size w w4) := xDH (zS HB.out hbw) hg4 (Nat.le_refl _)
   have HX4 : Hid (w4.cell? ⟨w.heap.size + 1, 0, none⟩ = some (.map (some w.heap.size))) := hkp.cell _ _ hbx
   have hblk : w.heap.size + 1 < wr.heap.size := yJ _ _ hbx
   clear hr4 hm4 hg4 hes hkp hbw hit hm hbl
   go_wp2_with (first
    | (at_mapUpdate; refine xBH rfl _ _ _ _ rfl _ _ _ rfl rfl rfl HR4.out ?_))
   go_roundw
   case rel => exact ⟨k + 1, _, by omega, by go_num, HT4.out, HM4.out, HX4.out, HB4.out⟩
   case measure => simp [intOf]; omega
  have hke : k = s.length := by omega
  subst hke
  rw [List.take_length] at HTe
  have HBx := hid hbx
  go_wp2
  go_ret
  exact ⟨_, _, _, rfl, HBx.out, HMv.out, HTe.out, HB.out⟩
end Go.Proofs.YtdjmjhlbjcgoiaaGreatDoor
