/- Texts of the proof, one behind the other. -/
import Derived.Test.YtdjmjhlbjcgoiaaGreatDoorOwn3
import Derived.Test.YtdjmjhlbjcgoiaaGreatDoorOwn1
import Derived.Sort.WalkB12
import Derived.Lib.SlicesMore
import Derived.Lib.Walk
import Derived.Deep.LoopGhost
import Derived.Deep.DeepAppendRoom
import Derived.RangeFuncNested
import Derived.RangeFuncBound
import Derived.RangeFuncCalls
import Derived.RangeFuncLeaves
import Derived.RangeFuncBox
import Derived.Shelf.Abstract
import Derived.Shelf.RegionOpen
import Derived.OwnWalkIn
import Derived.TacticsInMore
import Derived.LoopNIn
import Derived.LoopIn
/- What Shift answers. -/
namespace Go.Proofs.YtdjmjhlbjcgoiaaGreatDoor
open Go.RowKit Go.Maps

def isVarB (n : Int) : Bool := decide (0 ≤ n) && decide (n < 1048576)

theorem isVariable_any (n : Int) (w : World) : Calls Tryz.prog 55 #[.int .i64 n] w fun e w' => e = .returned (.bool (isVarB n)) ∧ w' = w := by
  go_enter Tryz.func55, Tryz.ntmps55
  by_cases h : 0 ≤ n
  · have HF : Hid (isVarB n = decide (n < 1048576)) := by show _ = _; unfold isVarB; rw [decide_eq_true h]; rfl
    go_wp2
    go_ret
    exact ⟨ret1b HF.out.symm, rfl⟩
  · have HF : Hid (isVarB n = false) := by show _ = _; unfold isVarB; rw [decide_eq_false h]; rfl
    go_wp2
    go_ret
    exact ⟨ret1b HF.out.symm, rfl⟩

/-- The variables of a row numbered by a function with a state. -/
def renG {σ : Type} (φ : σ → Int → Int × σ) : σ → List Int → List Int × σ
  | s, [] => ([], s)
  | s, c :: r => if c < 0 then (((-1 - (φ s (-1 - c)).1) :: (renG φ (φ s (-1 - c)).2 r).1), (renG φ (φ s (-1 - c)).2 r).2) else (c :: (renG φ s r).1, (renG φ s r).2)

theorem set_midI {α : Type} (a : List α) (x y : α) (b : List α) (k : Nat) (h : a.length = k) : (a ++ x :: b).set k y = a ++ y :: b := by
  subst h
  simp

theorem grown_set {w wr : World} {r : Option Nat} {g : Nat} (h : w.grownBy wr r) (hg : w.heap.size ≤ g) (k : Nat) (u : Value) : w.grownBy (wr.setCell ⟨g, k, none⟩ u) r :=
  ⟨h.os, h.tape, h.output, by simpa [World.setCell] using h.size, fun j hj hne => by
    rw [heap_setCell_other _ _ _ _ (show j ≠ g by omega)]
    exact h.block j hj hne⟩

theorem set_grown (w : World) (g k : Nat) (u : Value) : w.grownBy (w.setCell ⟨g, k, none⟩ u) (some g) :=
  ⟨rfl, rfl, rfl, by simp [World.setCell], fun j _ hne => heap_setCell_other _ _ _ _ (fun e => hne (by rw [e]))⟩

set_option maxRecDepth 100000 in
set_option maxHeartbeats 1600000 in
theorem renumber_any {σ : Type} (St : World → σ → Prop) (φ : σ → Int → Int × σ) (Ok : Int → Prop) (b : Nat) (g : FuncId) (cv v : Value) (t : List Int) (s0 : σ) (w : World) (sz : σ → Nat) (hszs : ∀ s n, sz (φ s n).2 ≤ sz s + 1)
    (hb : b < w.heap.size) (hst : St w s0) (hlen : t.length * 8 ≤ 140737488351232)
    (hkeep : ∀ w1 w2 s r, St w1 s → w1.grownBy w2 r → r ≠ some b → (∀ j, r = some j → w.heap.size ≤ j) → b < w1.heap.size → St w2 s)
    (hread : ∀ w', w.grownBy w' (some b) → Is w' v t)
    (hcall : ∀ (n : Int) (s : σ) (w1 : World), Ok n → St w1 s → sz s < sz s0 + t.length → Calls Tryz.prog g #[.int .i64 n, cv] w1 fun e w2 => e = .returned (.int .i64 (φ s n).1) ∧ St w2 (φ s n).2 ∧ w1.grownBy w2 (some b))
    (hrng : ∀ s n w1, Ok n → St w1 s → sz s < sz s0 + t.length → 0 ≤ (φ s n).1 ∧ (φ s n).1 ≤ 9223372036854775807) (hok : ∀ c ∈ t, c < 0 → Ok (-1 - c)) (eg : ∀ args w, (callFunc g args).run Tryz.prog w = .ok (.enter g args) w) :
    Calls Tryz.prog 56 #[v, .func (.func g) #[] #[cv]] w fun e w' => ∃ v', e = .returned v' ∧ OwI w' w.heap.size v' (renG φ s0 t).1 ∧ St w' (renG φ s0 t).2 ∧ w.grownBy w' (some b) := by
  obtain ⟨i1, hi1, hy0, hy1, hy2⟩ := info_parts info_int
  obtain ⟨ao, cap, rfl, hao, hca, q0⟩ := Row.flat (hread w (World.grownBy.refl _ _))
  unfold maxLen at hca
  have HR : Hid (∀ w', w.grownBy w' (some b) → Is w' (.slice ao t.length cap) t) := hread
  have HK : Hid (∀ w1 w2 s r, St w1 s → w1.grownBy w2 r → r ≠ some b → (∀ j, r = some j → w.heap.size ≤ j) → b < w1.heap.size → St w2 s) := hkeep
  have HC : Hid (∀ (n : Int) (s : σ) (w1 : World), Ok n → St w1 s → sz s < sz s0 + t.length → Calls Tryz.prog g #[.int .i64 n, cv] w1 fun e w2 => e = .returned (.int .i64 (φ s n).1) ∧ St w2 (φ s n).2 ∧ w1.grownBy w2 (some b)) := hcall
  have HRn : Hid (∀ s n w1, Ok n → St w1 s → sz s < sz s0 + t.length → 0 ≤ (φ s n).1 ∧ (φ s n).1 ≤ 9223372036854775807) := hrng
  have HOk : Hid (∀ c ∈ t, c < 0 → Ok (-1 - c)) := hok
  have HSt : Hid (St w s0) := hst
  have HSz : Hid (∀ s n, sz (φ s n).2 ≤ sz s + 1) := hszs
  clear hst hkeep hread hcall hrng hok q0 hszs
  go_enter Tryz.func56, Tryz.ntmps56
  go_wp2_with (first
    | (at_make; refine wpList_make_full _ rfl _ _ 30 rfl w.heap.size 3 i1 (.int .i64 0) 1 under_ints hi1 hy0 hy1 .i64 .i64 _ _ t.length rfl rfl (by omega) (by omega) (by rw [hy2]; omega) (by unfold maxLen; omega) (Nat.le_refl _) ?_; intro w0 hown0 hgrow0))
  have hb0' : Below w.heap.size w w0 := (Below.refl _ _).grown hgrow0 (Nat.le_refl _) (by intro k hk; cases hk)
  have HO : Hid (OwI w0 w.heap.size (.slice (some ⟨w.heap.size, 0, none⟩) t.length t.length) (List.replicate t.length 0)) := OwI.made hown0
  have HB0 : Hid (Below w.heap.size w w0) := hb0'
  have HS0 : Hid (St w0 s0) := HK.out _ _ _ none HSt.out (grown_of_below hb0' _) (by simp) (by simp) hb
  clear hown0 hgrow0 hb0'
  go_loopw [13] (fun i wr => ∃ (k : Nat) (Z : List Int) (s : σ), k ≤ t.length ∧ i = .int .i64 k ∧ Z.length = k ∧ renG φ s0 t = (Z ++ (renG φ s (t.drop k)).1, (renG φ s (t.drop k)).2) ∧ OwI wr w.heap.size (.slice (some ⟨w.heap.size, 0, none⟩) t.length t.length) (Z ++ List.replicate (t.length - k) 0) ∧ St wr s ∧ w.grownBy wr (some b) ∧ sz s ≤ sz s0 + k) (fun i _ => t.length - (intOf i).toNat)
  case atStart => exact ⟨0, [], s0, Nat.zero_le _, rfl, rfl, by simp, by simpa using HO.out, HS0.out, grown_of_below HB0.out _, by omega⟩
  case round =>
    obtain ⟨k, Z, s, hk, rfl, hZ, hren, how, hss, hgr, hszk⟩ := hrel
    have HZ : Hid (Z.length = k) := hZ
    have HRen : Hid (renG φ s0 t = (Z ++ (renG φ s (t.drop k)).1, (renG φ s (t.drop k)).2)) := hren
    have HOw : Hid (OwI wr w.heap.size (.slice (some ⟨w.heap.size, 0, none⟩) t.length t.length) (Z ++ List.replicate (t.length - k) 0)) := how
    have HSs : Hid (St wr s) := hss
    have HG : Hid (w.grownBy wr (some b)) := hgr
    have hsz := hgr.size
    clear hZ hren how hss hgr HO HB0 HS0
    by_cases hlt : k < t.length
    · obtain ⟨g2, off, c, rfl, hx1, hx2, hx3, hx4⟩ := (HR.out wr HG.out).at hlt
      have HDr : Hid (t.drop k = c :: t.drop (k + 1)) := drop_get hx1
      have HMem : Hid (c ∈ t) := List.mem_of_getElem? hx1
      have hw := HOw.out
      rw [show t.length - k = (t.length - (k + 1)) + 1 by omega, List.replicate_succ] at hw
      obtain ⟨hc1, hf1⟩ := hw.at (k := k) (x := 0) (by rw [List.getElem?_append_right (by rw [HZ.out]; exact Nat.le_refl _), HZ.out, Nat.sub_self]; rfl)
      have hq := (hw.put (Below.refl w.heap.size wr) (Nat.le_refl _) (by simp; have := HZ.out; omega) (k := k) (z := c) ⟨hx3, hx4⟩ (ys := Z ++ c :: List.replicate (t.length - (k + 1)) 0) (by rw [set_midI _ _ _ _ _ HZ.out])).1
      have HQ : Hid (OwI (wr.setCell ⟨w.heap.size, k, none⟩ (.int .i64 c)) w.heap.size (.slice (some ⟨w.heap.size, 0, none⟩) t.length t.length) (Z ++ c :: List.replicate (t.length - (k + 1)) 0)) := hq
      have HS1 : Hid (St (wr.setCell ⟨w.heap.size, k, none⟩ (.int .i64 c)) s) := HK.out _ _ _ _ HSs.out (set_grown _ _ _ _) (by simp; omega) (by simp) (by omega)
      have HG1 : Hid (w.grownBy (wr.setCell ⟨w.heap.size, k, none⟩ (.int .i64 c)) (some b)) := grown_set HG.out (Nat.le_refl _) _ _
      clear hq hw hx1 HSs HOw
      by_cases hc0 : c < 0
      · have hwr : IntKind.i64.wrap (-1 - c) = -1 - c := IntWalk.i64_in _ ⟨by omega, by omega⟩
        have HOkc : Hid (Ok (-1 - c)) := HOk.out c HMem.out hc0
        go_wp2_with fail
        refine (HC.out (-1 - c) s _ HOkc.out HS1.out (by omega)).mono ?_
        rintro e w2 ⟨rfl, hs2, hg2⟩
        have hr := HRn.out s (-1 - c) _ HOkc.out HS1.out (by omega)
        obtain ⟨n, hn⟩ : ∃ n, n = (φ s (-1 - c)).1 := ⟨_, rfl⟩
        have HNe : Hid (n = (φ s (-1 - c)).1) := hn
        rw [← hn] at hr ⊢
        have hwn : IntKind.i64.wrap (-1 - n) = -1 - n := IntWalk.i64_in _ ⟨by omega, by omega⟩
        have HO2 : Hid (OwI w2 w.heap.size (.slice (some ⟨w.heap.size, 0, none⟩) t.length t.length) (Z ++ c :: List.replicate (t.length - (k + 1)) 0)) := HQ.out.kept hg2 (.inr (by simp [Value.ownBlock]; omega))
        obtain ⟨hc3, hf3⟩ := HO2.out.at (k := k) (x := c) (by rw [List.getElem?_append_right (by rw [HZ.out]; exact Nat.le_refl _), HZ.out, Nat.sub_self]; rfl)
        have hq2 := (HO2.out.put (Below.refl w.heap.size w2) (Nat.le_refl _) (by simp; have := HZ.out; omega) (k := k) (z := -1 - n) ⟨by omega, by omega⟩ (ys := Z ++ (-1 - n) :: List.replicate (t.length - (k + 1)) 0) (by rw [set_midI _ _ _ _ _ HZ.out])).1
        have HQ2 : Hid (OwI (w2.setCell ⟨w.heap.size, k, none⟩ (.int .i64 (-1 - n))) w.heap.size (.slice (some ⟨w.heap.size, 0, none⟩) t.length t.length) (Z ++ (-1 - n) :: List.replicate (t.length - (k + 1)) 0)) := hq2
        have hsz2 := hg2.size
        simp [World.setCell] at hsz2
        have HS2 : Hid (St (w2.setCell ⟨w.heap.size, k, none⟩ (.int .i64 (-1 - n))) (φ s (-1 - c)).2) := HK.out _ _ _ _ hs2 (set_grown _ _ _ _) (by simp; omega) (by simp) (by omega)
        have HG2 : Hid (w.grownBy (w2.setCell ⟨w.heap.size, k, none⟩ (.int .i64 (-1 - n))) (some b)) := grown_set (grown_trans HG1.out hg2) (Nat.le_refl _) _ _
        have HN : Hid (renG φ s0 t = ((Z ++ [-1 - n]) ++ (renG φ (φ s (-1 - c)).2 (t.drop (k + 1))).1, (renG φ (φ s (-1 - c)).2 (t.drop (k + 1))).2)) := by
          show _ = _
          rw [HRen.out, HDr.out, renG, if_pos hc0, ← HNe.out]
          simp
        clear hq2 hs2 hg2 hn
        go_wp2
        go_roundw
        case rel => exact ⟨k + 1, Z ++ [-1 - n], (φ s (-1 - c)).2, by omega, by go_num, by rw [List.length_append, HZ.out]; rfl, HN.out, by simpa using HQ2.out, HS2.out, HG2.out, by have := HSz.out s (-1 - c); omega⟩
        case measure => simp [intOf]; omega
      · have HN : Hid (renG φ s0 t = ((Z ++ [c]) ++ (renG φ s (t.drop (k + 1))).1, (renG φ s (t.drop (k + 1))).2)) := by
          show _ = _
          rw [HRen.out, HDr.out, renG, if_neg hc0]
          simp
        go_wp2
        go_roundw
        case rel => exact ⟨k + 1, Z ++ [c], s, by omega, by go_num, by rw [List.length_append, HZ.out]; rfl, HN.out, by simpa using HQ.out, HS1.out, HG1.out, by omega⟩
        case measure => simp [intOf]; omega
    · have hke : k = t.length := by omega
      have HF : Hid (renG φ s0 t = (Z, s)) := by
        show _ = _
        rw [HRen.out, List.drop_of_length_le (by omega)]
        simp [renG]
      have HOf : Hid (OwI wr w.heap.size (.slice (some ⟨w.heap.size, 0, none⟩) t.length t.length) Z) := by
        have := HOw.out
        rw [show t.length - k = 0 by omega, List.replicate_zero, List.append_nil] at this
        exact this
      go_wp2
      go_ret
      exact ⟨_, rfl, by rw [HF.out]; exact HOf.out, by rw [HF.out]; exact HSs.out, HG.out⟩

end Go.Proofs.YtdjmjhlbjcgoiaaGreatDoor

/- What Check answers, of a row and of binds. -/
namespace Go.Proofs.YtdjmjhlbjcgoiaaGreatDoor
open Go.RowKit Go.Maps Go.BigFrame

theorem sigGo_ok : ∀ (sig : List Sy) (k : Nat) (r : List Sy), sigGo sig k r = 0 → ArOk r
  | _, _, [] => fun _ s hs => by cases hs
  | sig, k, s :: r => fun h => by
    unfold sigGo at h
    split at h
    · split at h
      · cases h
      · rename_i h2
        split at h
        · cases h
        · intro x hx
          cases hx with
          | head => omega
          | tail _ hx => exact sigGo_ok sig (k + 1) r h x hx
    · cases h

theorem sigE_ok {sig : List Sy} (h : sigE sig = 0) : ArOk sig := by
  unfold sigE at h
  split at h
  · cases h
  · exact sigGo_ok sig 0 sig h

def termE (sig : List Sy) (t : List Int) : Int := if sigE sig = 0 then rowE sig t else sigE sig

set_option maxRecDepth 100000 in
set_option maxHeartbeats 800000 in
theorem check_any (sv v : Value) (sig : List Sy) (t : List Int) (w : World) (hs : Sg w sv sig) (h : Is w v t) (hT : Tabs w) (hb : t.length * 8 ≤ 140737488351232) :
    Calls Tryz.prog 45 #[sv, v] w fun e w' => e = .returned (.int .i64 (termE sig t)) ∧ Below w.heap.size w w' := by
  have HS : Hid (Sg w sv sig) := hs
  have HI : Hid (Is w v t) := h
  have HT : Hid (Tabs w) := hT
  clear hs h hT
  go_enter Tryz.func45, Tryz.ntmps45
  go_wp2_with fail
  refine (checkSig_any sv sig w HS.out HT.out).mono ?_
  rintro e w1 ⟨rfl, hb1⟩
  have HB : Hid (Below w.heap.size w w1) := hb1
  have HS1 : Hid (Sg w1 sv sig) := HS.out.kp (Kp.of_below hb1)
  have HI1 : Hid (Is w1 v t) := HI.out.kp (Kp.of_below hb1)
  clear hb1
  by_cases he : sigE sig = 0
  · have HA : Hid (ArOk sig) := sigE_ok he
    have HF : Hid (termE sig t = rowE sig t) := by show _ = _; unfold termE; rw [if_pos he]
    rw [he]
    clear he
    go_wp2_with fail
    refine (checkRow_any sv v sig t w1 HS1.out HI1.out HA.out hb).mono ?_
    rintro e w9 ⟨rfl, hw9⟩
    have hw8 := hw9.symm
    subst hw8
    clear hw9
    go_wp2
    go_ret
    exact ⟨ret1i HF.out.symm, HB.out⟩
  · have HF : Hid (termE sig t = sigE sig) := by show _ = _; unfold termE; rw [if_neg he]
    generalize sigE sig = E at he HF ⊢
    have heb : (E != 0) = true := by simpa using he
    go_wp2
    go_ret
    exact ⟨ret1i HF.out.symm, HB.out⟩

/-- A bind: a variable's number, and a row. -/
abbrev Bd := Int × List Int

def EB (w : World) (g o : Nat) (b : Bd) : Prop := -9223372036854775808 ≤ b.1 ∧ b.1 ≤ 9223372036854775807 ∧ b.2.length * 8 ≤ 140737488351232 ∧ w.cell? ⟨g, o, none⟩ = some (.int .i64 b.1) ∧ ∃ v, w.cell? ⟨g, o + 1, none⟩ = some v ∧ Is w v b.2

theorem EB.kp {w w' : World} (hk : Kp w w') (g o : Nat) (b : Bd) (h : EB w g o b) : EB w' g o b := by
  obtain ⟨h1, h2, h3, h4, v, h5, h6⟩ := h
  exact ⟨h1, h2, h3, hk.cell _ _ h4, v, hk.cell _ _ h5, h6.kp hk⟩

def Bs (w : World) (v : Value) (s : List Bd) : Prop := Row EB 2 w v s
theorem Bs.kp {w w' : World} {v : Value} {s : List Bd} (h : Bs w v s) (hk : Kp w w') : Bs w' v s := Row.imp h hk.size (EB.kp hk)

end Go.Proofs.YtdjmjhlbjcgoiaaGreatDoor

/- Package interp's Strict. -/
namespace Go.Proofs.YtdjmjhlbjcgoiaaGreatDoor
open Go.RowKit Go.Maps Go.BigFrame

theorem inGo_ok {sig : List Sy} : ∀ {l : List Ip} {f : Nat → Bool}, inGo sig f l = 0 → ∀ x ∈ l, 0 ≤ x.1 ∧ x.1 < (sig.length : Int) ∧ checkE x.2 (arI sig x.1) ≠ 20 ∧ checkE x.2 (arI sig x.1) ≠ 2
  | [], _, _ => fun x hx => by cases hx
  | (c, p) :: r, f, h => by
    rw [inGo] at h
    split at h
    · cases h
    · rename_i h1
      split at h
      · cases h
      · rename_i h2
        split at h
        · cases h
        · rename_i h3
          intro x hx
          rcases List.mem_cons.1 hx with rfl | hx
          · exact ⟨Int.not_lt.1 (fun e => h1 (Or.inl e)), Int.not_le.1 (fun e => h1 (Or.inr (Or.inl e))), h2, h3⟩
          · exact inGo_ok h x hx

theorem inE_ok {sig : List Sy} {l : List Ip} (h : inE sig l = 0) : sigE sig = 0 ∧ ∀ x ∈ l, 0 ≤ x.1 ∧ x.1 < (sig.length : Int) ∧ checkE x.2 (arI sig x.1) ≠ 20 ∧ checkE x.2 (arI sig x.1) ≠ 2 := by
  unfold inE at h
  split at h
  · rename_i h0
    exact ⟨h0, inGo_ok h⟩
  · rename_i h0
    exact absurd h h0

/-- Whether one interpretation rises with each of its first n arguments. -/
def risB (n : Nat) (p : List Mn) : Bool := (List.range n).all fun v => p.any (alonB v)

/-- Whether all rise with each argument. -/
def allRis (sig : List Sy) (l : List Ip) : Bool := l.all fun x => risB (arI sig x.1).toNat x.2

/-- What Strict tells. -/
def strB (sig : List Sy) (l : List Ip) : Bool := decide (inE sig l = 0) && allRis sig l

theorem risB_no {n v : Nat} {p : List Mn} (hv : v < n) (h : p.any (alonB v) = false) : risB n p = false := by
  unfold risB
  rw [List.all_eq_false]
  exact ⟨v, List.mem_range.2 hv, by simp [h]⟩

theorem risB_yes {n : Nat} {p : List Mn} (h : ∀ v, v < n → p.any (alonB v) = true) : risB n p = true := by
  unfold risB
  rw [List.all_eq_true]
  exact fun v hv => h v (List.mem_range.1 hv)

theorem allRis_no {sig : List Sy} {l : List Ip} {x : Ip} (hx : x ∈ l) (h : risB (arI sig x.1).toNat x.2 = false) : allRis sig l = false := by
  unfold allRis
  rw [List.all_eq_false]
  exact ⟨x, hx, by simp [h]⟩

set_option maxRecDepth 100000 in
set_option maxHeartbeats 3200000 in
theorem strict_any (sv lv : Value) (sig : List Sy) (l : List Ip) (w : World) (hs : Sg w sv sig) (hl : Ins w lv l) (hT : Tabs w) :
    Calls Tryz.prog 13 #[sv, lv] w fun e w' => e = .returned (.bool (strB sig l)) ∧ Below w.heap.size w w' := by
  have HCk := hid (inCheck_any sv lv sig l w hs hl hT)
  obtain ⟨so, sc, rfl, hso, hsc, _⟩ := Row.flat hs
  obtain ⟨lo, lc, rfl, hlo, hlc, _⟩ := Row.flat hl
  unfold maxLen at hsc hlc
  have HS := hid hs
  have HL := hid hl
  clear hs hl hT
  go_enter Tryz.func13, Tryz.ntmps13
  go_wp2_with fail
  refine HCk.out.mono ?_
  rintro e w1 ⟨rfl, hb1⟩
  have B1 := hid hb1
  clear hb1 HCk
  by_cases hE : inE sig l = 0
  · have HR : Hid (strB sig l = allRis sig l) := by show _ = _; unfold strB; rw [decide_eq_true hE, Bool.true_and]
    have HOk := hid (inE_ok hE)
    have HAo : Hid (ArOk sig) := hid (sigE_ok HOk.out.1)
    rw [hE]
    clear hE
    go_wp2
    go_loopw [14] (fun x wr => ∃ k : Nat, k ≤ l.length ∧ x = .int .i64 k ∧ (∀ y ∈ l.take k, risB (arI sig y.1).toNat y.2 = true) ∧ Below w.heap.size w wr) (fun x _ => l.length - (intOf x).toNat)
    case atStart => exact ⟨0, Nat.zero_le _, rfl, fun y hy => by simp at hy, B1.out⟩
    case round =>
      clear B1
      obtain ⟨k, hk, rfl, hall, hbl⟩ := hrel
      have HA := hid hall
      have BL := hid hbl
      clear hall hbl
      by_cases hlt : k < l.length
      · obtain ⟨g, off, c, p, a1, c1, rfl, hm, hc0w, hc1w, hp, hcl, hcu, hp1, hp2⟩ := HL.out.at hlt
        have hmem : (c, p) ∈ l := List.mem_of_getElem? hm
        obtain ⟨ci, hci⟩ := Int.eq_ofNat_of_zero_le (HOk.out.2 _ hmem).1
        have hlt2 := (HOk.out.2 _ hmem).2.1
        simp only at hci hlt2
        subst hci
        have hcs : ci < sig.length := by omega
        obtain ⟨gs, os, sn, ar, rfl, hsm, _, hsa, hal, hau, _⟩ := HS.out.at hcs
        have har := HAo.out _ (List.mem_of_getElem? hsm)
        simp only at har
        obtain ⟨an, rfl⟩ := Int.eq_ofNat_of_zero_le har.1
        have han : an ≤ 1000 := by omega
        have HAr : Hid (arI sig (ci : Int) = (an : Int)) := by show _ = _; unfold arI; rw [Int.toNat_natCast, hsm]
        have HMem := hid hmem
        have HM := hid hm
        have HP := hid hp
        have hc0 := (Kp.of_below BL.out).cell _ _ hc0w
        have hc1 := (Kp.of_below BL.out).cell _ _ hc1w
        have hgw : g < wr.heap.size := World.block_lt_of_cell? _ _ hc0
        obtain ⟨W, hW⟩ : ∃ X, X = wr.alloc (.cells #[.int .i64 (ci : Int), .slice a1 p.length c1] 51) := ⟨_, rfl⟩
        have BW : Hid (Below wr.heap.size wr W) := by rw [hW]; exact below_alloc _
        have y0 : W.cell? ⟨wr.heap.size, 0, none⟩ = some (.int .i64 (ci : Int)) := by rw [hW, cell_of_row _ _ _ _ _ _ (heap_alloc_new _ _)]; rfl
        have Y1 : Hid (W.cell? ⟨wr.heap.size, 1, none⟩ = some (.slice a1 p.length c1)) := by show _ = _; rw [hW, cell_of_row _ _ _ _ _ _ (heap_alloc_new _ _)]; rfl
        have BLW := hid (below_step BL.out BW.out)
        have x2 := (Kp.of_below BLW.out).cell _ _ hsa
        clear hm hp hc0w hc1w hmem hsm hsa har hal hau
        go_upto_region 6 with fail
        rw [← hW]
        clear hW hc0 hc1
        generalize wr.heap.size = gb at y0 Y1 ⊢
        go_wp2
        clear y0 x2
        go_loopw [24] (fun x wr => ∃ j : Nat, j ≤ an ∧ x = .int .i64 j ∧ (∀ v, v < j → p.any (alonB v) = true) ∧ Below W.heap.size W wr) (fun x _ => an - (intOf x).toNat)
        case atStart => exact ⟨0, Nat.zero_le _, rfl, fun v hv => absurd hv (by omega), Below.refl _ _⟩
        case round =>
          obtain ⟨j, hj, rfl, hjs, hbj⟩ := hrel
          have HJ := hid hjs
          have BJ := hid hbj
          clear hjs hbj
          have BJw := hid (below_step BLW.out BJ.out)
          by_cases hja : j < an
          · have y1 := (Kp.of_below BJ.out).cell _ _ Y1.out
            go_wp2_with fail
            refine (risesAlone_any _ p j _ (HP.out.kp (Kp.of_below BJw.out)) (by omega)).mono ?_
            rintro e w5 ⟨rfl, hb5⟩
            have BN := hid (below_step BJ.out hb5)
            have BNw := hid (below_step BJw.out hb5)
            clear hb5 y1
            cases hx : p.any (alonB j) with
            | true =>
              have HJn : Hid (∀ v, v < j + 1 → p.any (alonB v) = true) := fun v hv => by
                rcases Nat.lt_succ_iff_lt_or_eq.1 hv with h | h
                · exact HJ.out v h
                · rw [h]; exact hx
              clear hx
              go_wp2
              go_roundw
              case rel => exact ⟨j + 1, hja, by go_num, HJn.out, BN.out⟩
              case measure => simp [intOf]; omega
            | false =>
              have HF : Hid (strB sig l = false) := by
                show _ = _
                rw [HR.out]
                exact allRis_no HMem.out (risB_no (v := j) (by simp only [HAr.out, Int.toNat_natCast]; exact hja) hx)
              clear hx
              go_wp2
              go_ret
              exact ⟨ret1b HF.out.symm, BNw.out⟩
          · obtain rfl : j = an := by omega
            have HAn : Hid (∀ y ∈ l.take (k + 1), risB (arI sig y.1).toNat y.2 = true) := fun y hy => by
              rw [take_get HM.out] at hy
              rcases List.mem_append.1 hy with h | h
              · exact HA.out y h
              · obtain rfl := List.mem_singleton.1 h
                exact risB_yes (fun v hv => HJ.out v (by simp only [HAr.out, Int.toNat_natCast] at hv; exact hv))
            go_wp2
            go_roundw
            case rel => exact ⟨k + 1, hlt, by go_num, HAn.out, BJw.out⟩
            case measure => simp [intOf]; omega
      · have HF : Hid (strB sig l = true) := by
          show _ = _
          rw [HR.out]
          unfold allRis
          rw [List.all_eq_true]
          intro y hy
          exact HA.out y (by rw [List.take_of_length_le (by omega)]; exact hy)
        go_wp2
        go_ret
        exact ⟨ret1b HF.out.symm, BL.out⟩
  · have HF : Hid (strB sig l = false) := by show _ = _; unfold strB; rw [decide_eq_false hE, Bool.false_and]
    have hne : (inE sig l != 0) = true := by rw [bne_iff_ne]; exact hE
    clear hE
    generalize inE sig l = z at hne ⊢
    go_wp2
    go_ret
    exact ⟨ret1b HF.out.symm, B1.out⟩

end Go.Proofs.YtdjmjhlbjcgoiaaGreatDoor

/- What the document's Check of layer 12 tells, plainly: the same. -/
namespace Go.Proofs.YtdjmjhlbjcgoiaaGreatDoor

/-- The document's Check, one by one; seen are those ahead. -/
def docIn (sig : List Sy) : List Int → List Ip → Int
  | seen, [] => if seen.length = sig.length then 0 else 120
  | seen, (c, p) :: r => if c < 0 ∨ (sig.length : Int) ≤ c then 120 else if c ∈ seen then 120 else if checkE p (arI sig c) = 2 then 2 else if checkE p (arI sig c) ≠ 0 then 121 else docIn sig (c :: seen) r

theorem checkE_three (p : List Mn) (n : Int) (hn : ¬ n < 0) : checkE p n = 0 ∨ checkE p n = 2 ∨ checkE p n = 20 := by
  unfold checkE
  rw [if_neg hn]
  split
  · simp
  · split <;> simp

theorem lack_len {seen : List Int} {n : Nat} (hd : seen.Nodup) (hr : ∀ x ∈ seen, 0 ≤ x ∧ x < (n : Int)) : lackB (fun i => decide ((i : Int) ∈ seen)) n = false ↔ seen.length = n := by
  have hl : seen.length ≤ n := by
    have h := List.Nodup.length_le_of_subset (l₂ := (List.range n).map (fun i : Nat => (i : Int))) hd (fun x hx => by
      obtain ⟨i, rfl⟩ := Int.eq_ofNat_of_zero_le (hr x hx).1
      exact List.mem_map.2 ⟨i, List.mem_range.2 (by have := (hr _ hx).2; omega), rfl⟩)
    simpa using h
  constructor
  · intro h
    have hn : ((List.range n).map (fun i : Nat => (i : Int))).Nodup := by
      rw [List.nodup_iff_pairwise_ne, List.pairwise_map]
      exact List.Pairwise.imp (fun {a b} h e => h (by omega)) (List.nodup_iff_pairwise_ne.1 List.nodup_range)
    have h2 := List.Nodup.length_le_of_subset (l₂ := seen) hn (fun x hx => by
      obtain ⟨i, hi, rfl⟩ := List.mem_map.1 hx
      simp only [lackB, List.any_eq_false, List.mem_range] at h
      have := h i (List.mem_range.1 hi)
      simpa using this)
    simp at h2
    omega
  · intro h
    refine lackB_no (fun i hi => ?_)
    by_cases hm : (i : Int) ∈ seen
    · simp [hm]
    · exfalso
      have h3 := List.Nodup.length_le_of_subset (l₁ := (i : Int) :: seen) (l₂ := (List.range n).map (fun i : Nat => (i : Int))) (List.nodup_cons.2 ⟨hm, hd⟩) (fun x hx => by
        rcases List.mem_cons.1 hx with rfl | hx
        · exact List.mem_map.2 ⟨i, List.mem_range.2 hi, rfl⟩
        · obtain ⟨j, rfl⟩ := Int.eq_ofNat_of_zero_le (hr x hx).1
          exact List.mem_map.2 ⟨j, List.mem_range.2 (by have := (hr _ hx).2; omega), rfl⟩)
      simp at h3
      omega

theorem gvn_seen {seen : List Int} {c : Nat} : gvn (fun i : Nat => decide ((i : Int) ∈ seen)) c = fun i : Nat => decide ((i : Int) ∈ ((c : Int) :: seen)) := by
  funext i
  unfold gvn
  by_cases h : i = c
  · subst h; simp
  · have : ¬ (i : Int) = (c : Int) := by omega
    simp [h, this]

theorem arI_ok {sig : List Sy} (ha : ArOk sig) (c : Int) : ¬ arI sig c < 0 := by
  unfold arI
  split
  · omega
  · rename_i s h
    have := (ha s (List.mem_of_getElem? h)).1
    omega

theorem docIn_in {sig : List Sy} (ha : ArOk sig) : ∀ {l : List Ip} {seen : List Int}, seen.Nodup → (∀ x ∈ seen, 0 ≤ x ∧ x < (sig.length : Int)) → docIn sig seen l = inGo sig (fun i => decide ((i : Int) ∈ seen)) l
  | [], seen, hd, hr => by
    rw [docIn, inGo]
    by_cases h : seen.length = sig.length
    · rw [if_pos h, (lack_len hd hr).2 h]; rfl
    · have h2 : lackB (fun i => decide ((i : Int) ∈ seen)) sig.length = true := by
        rw [← Bool.not_eq_false]
        exact fun e => h ((lack_len hd hr).1 e)
      rw [if_neg h, h2]; rfl
  | (c, p) :: r, seen, hd, hr => by
    rw [docIn, inGo]
    by_cases h1 : c < 0 ∨ (sig.length : Int) ≤ c
    · rw [if_pos h1, if_pos (by rcases h1 with h | h; exact Or.inl h; exact Or.inr (Or.inl h))]
    · have h0 : 0 ≤ c := Int.not_lt.1 (fun e => h1 (Or.inl e))
      have hb : c < (sig.length : Int) := Int.not_le.1 (fun e => h1 (Or.inr e))
      obtain ⟨ci, rfl⟩ := Int.eq_ofNat_of_zero_le h0
      rw [if_neg h1]
      by_cases hm : (ci : Int) ∈ seen
      · rw [if_pos hm, if_pos (Or.inr (Or.inr (by simp [hm])))]
      · have h4 : ¬ ((ci : Int) < 0 ∨ (sig.length : Int) ≤ (ci : Int) ∨ (fun i : Nat => decide ((i : Int) ∈ seen)) (ci : Int).toNat = true) := by
          rintro (h | h | h)
          · exact h1 (Or.inl h)
          · exact h1 (Or.inr h)
          · exact hm (by simpa using h)
        rw [if_neg hm, if_neg h4, Int.toNat_natCast, gvn_seen]
        rw [docIn_in ha (seen := (ci : Int) :: seen) (List.nodup_cons.2 ⟨hm, hd⟩) (fun x hx => by
          rcases List.mem_cons.1 hx with rfl | hx
          · exact ⟨h0, hb⟩
          · exact hr x hx)]
        rcases checkE_three p (arI sig (ci : Int)) (arI_ok ha _) with h | h | h <;> rw [h] <;> rfl

end Go.Proofs.YtdjmjhlbjcgoiaaGreatDoor

/- Rows of trees: cloned, turned round. -/
namespace Go.Proofs.YtdjmjhlbjcgoiaaGreatDoor
open Go.RowKit Go.Maps

theorem info_tree : (Tryz.prog.info? 104).map (fun i => (i.zero, i.size, i.bytes)) = some (some .nilIface, 1, 16) := by kernel_rfl
theorem under_trees : Tryz.prog.underlying 147 = some (.slice 104) := by kernel_rfl

section
variable {P : Program} {w w' : World} {ops : Array Oper} {rest : List Oper} {o : Oper} {a : Act} {Q : Exit → Act → World → Prop}

theorem wpList_append_runT (hg : o.guard = none) (s x : Operand) (t : TypeId) (ho : o.op = .call { callee := .builtin .append, args := #[s, x], argTypes := #[t, t] }) (v u : Value) {v' : Value} (hs : a.eval s = v) (hx : a.eval x = u)
    (hr : (Builtin.append_ #[t, t] o.type #[v, u]).run P w = .ok v' w') (h : wpList P ops Q rest (a.put o.dst v') w') : wpList P ops Q (o :: rest) a w := by
  refine wpList_plain hg fun K' hK' => ?_
  unfold Oper.wp
  simp [execOp, ho, resolve, invoke, builtin, hs, hx, hr, Result.andThen]
  exact hK' _ _ h

end

/-- A slice that is read, by its values. -/
def RdV (w : World) (v : Value) (vals : List Value) : Prop :=
  (v = .slice none 0 0 ∧ vals = []) ∨ ∃ g off cap, v = .slice (some ⟨g, off, none⟩) vals.length cap ∧ ∀ (j : Nat) (u : Value), vals[j]? = some u → w.cell? ⟨g, off + j, none⟩ = some u

set_option maxRecDepth 100000 in
set_option maxHeartbeats 800000 in
theorem cloneT_any (v : Value) (vals : List Value) (w : World) (h : RdV w v vals) (h1 : ∀ u ∈ vals, u.oneCell' = true) (hl : vals.length * 16 ≤ 140737488355328) :
    Calls Tryz.prog 111 #[v] w fun e w' => ∃ v', e = .returned v' ∧ w'.ownsRow w.heap.size 104 1 v' vals.length vals ∧ Below w.heap.size w w' := by
  obtain ⟨i0, hi, hz0, hz1, hz2⟩ := info_parts info_tree
  have hq : ∀ (W : World) (a : Option Addr) (n c n' c' : Nat), (binOp .eql 147 (.slice a n c) (.slice none n' c')).run Tryz.prog W = .ok (.bool a.isNone) W := fun W a n c n' c' => Lib.run_eql_slice_nil W _ _ a n c n' c' under_trees
  rcases h with ⟨rfl, rfl⟩ | ⟨g, off, cap, rfl, hc⟩
  · go_enter Tryz.func111, Tryz.ntmps111
    go_wp2
    go_ret
    exact ⟨_, rfl, World.ownsRow_nil _ _ _ _, Below.refl _ _⟩
  · obtain ⟨v', w', hr, ho, hb⟩ : ∃ v' w', (Builtin.append_ #[147, 147] 147 #[.slice (some ⟨w.heap.size, 0, none⟩) 0 0, .slice (some ⟨g, off, none⟩) vals.length cap]).run Tryz.prog (w.alloc (.cells #[] 104)) = .ok v' w' ∧ w'.ownsRow w.heap.size 104 1 v' vals.length vals ∧ Below w.heap.size w w' := by
      by_cases h0 : vals.length = 0
      · obtain rfl : vals = [] := List.eq_nil_of_length_eq_zero h0
        exact ⟨_, _, run_append_nothing _ 147 147 147 104 i0 under_trees hi _ 0 0 (Nat.le_refl _) _ (Src.ofSlice _ under_trees _ 0 _ [] (by simp) (fun j u hj => (by simp at hj)) (fun u hu => (by simp at hu))), empty_row _ (Nat.le_refl _), below_alloc _⟩
      · obtain ⟨v', w', hr, h2, h3, _, _⟩ := run_append_own_at (P := Tryz.prog) (w.alloc (.cells #[] 104)) w.heap.size 147 147 104 i0 _ 1 16 under_trees hi hz0 hz1 hz2 rfl (by decide) _ 0 [] (empty_row _ (Nat.le_refl _)) ⟨g, off, none⟩ vals.length cap vals (by simp)
          (fun j u hj => by rw [Addr.add_lit]; exact (Kp.of_below (below_alloc _)).cell _ _ (hc j u hj)) h1 (by unfold maxLen; omega) (by omega) (below_alloc _).size
        rw [Nat.zero_add, List.nil_append] at h2
        exact ⟨v', w', hr, h2, grown_below (below_alloc _) h3 (Nat.le_refl _)⟩
    have HR := hid hr
    have HO := hid ho
    have HB := hid hb
    clear hr ho hb hc
    go_enter Tryz.func111, Tryz.ntmps111
    go_wp2_with (first
      | (at_builtin; refine wpList_append_runT rfl _ _ _ rfl _ _ rfl rfl HR.out ?_))
    go_ret
    exact ⟨_, rfl, HO.out, HB.out⟩

theorem drawn_below1 (w : World) : Below w.heap.size w w.drew := (Below.refl _ _).drew

theorem set_grownT (w : World) (g k : Nat) (u : Value) : w.grownBy (w.setCell ⟨g, k, none⟩ u) (some g) :=
  ⟨rfl, rfl, rfl, by simp [World.setCell], fun i _ hne => heap_setCell_other _ _ _ _ (by intro e; subst e; exact hne rfl)⟩

/-- A value of an interface. -/
def IfV (u : Value) : Prop := ∃ t x, u = .iface t x

theorem swp_mem {d : Array Value} {i j : Nat} (hi : i < d.size) (hj : j < d.size) {u : Value} (h : u ∈ (Sort.swp d i j).toList) : u ∈ d.toList := by
  unfold Sort.swp at h
  simp only [Array.toList_setIfInBounds] at h
  rcases List.mem_or_eq_of_mem_set h with h | h
  · rcases List.mem_or_eq_of_mem_set h with h | h
    · exact h
    · rw [h, getElem!_pos d j hj]; exact Array.getElem_mem_toList hj
  · rw [h, getElem!_pos d i hi]; exact Array.getElem_mem_toList hi

theorem swp_list {d : Array Value} {i j : Nat} (hi : i < d.size) (hj : j < d.size) : (Sort.swp d i j).toList = (d.toList.set i d[j]!).set j d[i]! := by
  unfold Sort.swp
  simp [getElem!_pos, hi, hj]

set_option maxRecDepth 1000000 in
set_option maxHeartbeats 1600000 in
theorem reverseT_any (v : Value) (vals : List Value) (base : Nat) (w : World) (h : w.ownsRow base 104 1 v vals.length vals) (hif : ∀ u ∈ vals, IfV u) :
    Calls Tryz.prog 112 #[v] w fun e w' => e = .returned (.tuple #[]) ∧ w'.ownsRow base 104 1 v vals.length vals.reverse ∧ w.grownBy w' v.ownBlock := by
  have hsh : ∃ ao cap, v = .slice ao vals.length cap ∧ vals.length ≤ cap ∧ cap ≤ maxLen := by
    rcases h.2 with ⟨rfl, hn⟩ | ⟨g, cap, cur, rfl, hb, hg, hc, hm, hs, ht⟩
    · exact ⟨none, 0, by rw [hn], by omega, by simp [maxLen]⟩
    · exact ⟨_, cap, rfl, hc, hm⟩
  obtain ⟨ao, cap, rfl, hc1, hc2⟩ := hsh
  unfold maxLen at hc2
  have HV := hid h
  have HIf := hid hif
  clear h hif
  have mixed : Tryz.prog.follows .mixedOrders = true := by kernel_rfl
  go_enter Tryz.func112, Tryz.ntmps112
  go_wp2
  go_loopg [2, 3] vals.length (fun k s2 s3 wr => ∃ (i jn : Nat) (jz : Int) (dk : Array Value), s2 = .int .i64 i ∧ s3 = .int .i64 jz ∧ ((i : Int) < jz → jz = jn ∧ jn < vals.length) ∧ (¬ (i : Int) < jz → ¬ i < jn) ∧ jn - i ≤ k ∧
    dk.size = vals.length ∧ (∀ u ∈ dk.toList, IfV u) ∧ wr.ownsRow base 104 1 (.slice ao vals.length cap) vals.length dk.toList ∧ w.grownBy wr (Value.slice ao vals.length cap).ownBlock ∧ Sort.reverseLoop i jn dk = Sort.reverseLoop 0 (vals.length - 1) vals.toArray)
  case atStart => exact ⟨0, vals.length - 1, (vals.length : Int) - 1, vals.toArray, rfl, rfl, fun h => ⟨by omega, by omega⟩, fun h => by omega, by omega, by simp, HIf.out, HV.out, World.grownBy.refl _ _, rfl⟩
  case round =>
    obtain ⟨i, jn, jz, dk, rfl, rfl, h1, h2, hk, hds, hifd, how, hgr, heq⟩ := hrel
    by_cases hlt : (i : Int) < jz
    · obtain ⟨rfl, hjn⟩ := h1 hlt
      have hij : i < jn := by omega
      obtain ⟨g, cp, hv⟩ := own_form (v := .slice ao vals.length cap) how (by omega)
      simp only [Value.slice.injEq] at hv
      obtain ⟨rfl, _, rfl⟩ := hv
      have ci : wr.cell? ⟨g, i, none⟩ = some dk[i]! := by
        rw [World.ownsRow.cellAt how i (by omega)]
        simp [getElem!_pos, show i < dk.size by omega]
      have cj : wr.cell? ⟨g, jn, none⟩ = some dk[jn]! := by
        rw [World.ownsRow.cellAt how jn (by omega)]
        simp [getElem!_pos, show jn < dk.size by omega]
      have fi := World.ownsRow.frozenAt how i
      have fj := World.ownsRow.frozenAt how jn
      have HOw := hid how
      have HGr := hid hgr
      have HEq := hid heq
      have hil : i < vals.length := by omega
      obtain ⟨xi, hxi⟩ : ∃ x, x = dk[i]! := ⟨_, rfl⟩
      obtain ⟨xj, hxj⟩ : ∃ x, x = dk[jn]! := ⟨_, rfl⟩
      rw [← hxi] at ci
      rw [← hxj] at cj
      obtain ⟨ti, yi, hyi⟩ : IfV xi := by rw [hxi, getElem!_pos dk i (by omega)]; exact hifd _ (Array.getElem_mem_toList (by omega))
      obtain ⟨tj, yj, hyj⟩ : IfV xj := by rw [hxj, getElem!_pos dk jn (by omega)]; exact hifd _ (Array.getElem_mem_toList (by omega))
      subst hyi
      subst hyj
      have HXi := hid hxi
      have HXj := hid hxj
      have HIf2 : Hid (∀ u ∈ (Sort.swp dk i jn).toList, IfV u) := fun u hu => hifd u (swp_mem (by omega) (by omega) hu)
      clear hifd
      clear how hgr heq hxi hxj h1 h2
      have hst := (World.ownsRow.stored HOw.out i (.iface tj yj)).1
      have hst2 := (World.ownsRow.stored hst jn (.iface ti yi)).1
      have HS2 : Hid (((wr.setCell ⟨g, i, none⟩ (.iface tj yj)).setCell ⟨g, jn, none⟩ (.iface ti yi)).drew.ownsRow base 104 1 (.slice (some ⟨g, 0, none⟩) vals.length cap) vals.length (Sort.swp dk i jn).toList) := by
        rw [swp_list (by omega) (by omega), ← HXi.out, ← HXj.out]
        exact ownsRow_later hst2 (drawn_below1 _)
      have HG2 : Hid (w.grownBy ((wr.setCell ⟨g, i, none⟩ (.iface tj yj)).setCell ⟨g, jn, none⟩ (.iface ti yi)).drew (some g)) :=
        grown_trans HGr.out (grown_trans (set_grownT wr g i (.iface tj yj)) (grown_trans (set_grownT _ g jn (.iface ti yi)) (grown_of_below (drawn_below1 _) _)))
      clear hst hst2
      go_wp2_with fail
      go_region_o
      go_wp2
      go_roundg (jn - 1 - (i + 1))
      case measure => omega
      case rel =>
        have h9 := HEq.out
        rw [Sort.reverseLoop, if_pos hij] at h9
        exact ⟨i + 1, jn - 1, (jn : Int) - 1, Sort.swp dk i jn, by simp, rfl, fun h => ⟨by omega, by omega⟩, fun h => by omega, Nat.le_refl _, by rw [Sort.size_swp]; exact hds, HIf2.out, HS2.out, HG2.out, h9⟩
    · have hnot := h2 hlt
      have HR : Hid (dk.toList = vals.reverse) := by
        show _ = _
        rw [Sort.reverseLoop, if_neg hnot] at heq
        have h9 := Lib.reverseLoop_reverse vals.toArray
        rw [show vals.toArray.size = vals.length by simp] at h9
        rw [heq, h9]
        simp
      have HOw := hid how
      have HGr := hid hgr
      clear how hgr heq
      go_wp2
      go_end0
      exact ⟨rfl, by rw [← HR.out]; exact HOw.out, HGr.out⟩

end Go.Proofs.YtdjmjhlbjcgoiaaGreatDoor

/- Trees in memory; apply. -/
namespace Go.Proofs.YtdjmjhlbjcgoiaaGreatDoor
open Go.RowKit Go.Maps

/-- A term as a tree, without its symbols. -/
inductive Tr where
  | var : Tr
  | app : List Tr → Tr

mutual
def Tr.size : Tr → Nat
  | .var => 1
  | .app ts => 1 + sizes ts
def sizes : List Tr → Nat
  | [] => 0
  | t :: ts => t.size + sizes ts
end

mutual
/-- The value v is the tree, read through blocks of A alone. -/
def TV (w : World) (A : Nat → Prop) : Value → Tr → Prop
  | v, .var => v = .iface 154 (.agg #[])
  | v, .app ts => ∃ b a cap, v = .iface 145 (.pointer (some ⟨b, 0, none⟩)) ∧ A b ∧ w.cell? ⟨b, 0, none⟩ = some (.slice a ts.length cap) ∧ w.cell? ⟨b, 1, none⟩ = some (.int .i64 ((1 + sizes ts : Nat) : Int)) ∧ ts.length ≤ cap ∧ cap ≤ maxLen ∧ (ts = [] ∨ ∃ g off, a = some ⟨g, off, none⟩ ∧ A g ∧ TVs w A g off ts)
def TVs (w : World) (A : Nat → Prop) (g : Nat) : Nat → List Tr → Prop
  | _, [] => True
  | o, t :: ts => (∃ v, w.cell? ⟨g, o, none⟩ = some v ∧ TV w A v t) ∧ TVs w A g (o + 1) ts
end

mutual
theorem TV.keep {w w' : World} {A A' : Nat → Prop} (hc : ∀ b o x, A b → w.cell? ⟨b, o, none⟩ = some x → w'.cell? ⟨b, o, none⟩ = some x) (hA : ∀ b, A b → A' b) : ∀ {v : Value} {t : Tr}, TV w A v t → TV w' A' v t
  | v, .var, h => by unfold TV at h ⊢; exact h
  | v, .app ts, h => by
    unfold TV at h ⊢
    obtain ⟨b, a, cap, h1, h2, h3, h4, h5, h6, h7⟩ := h
    refine ⟨b, a, cap, h1, hA b h2, hc b 0 _ h2 h3, hc b 1 _ h2 h4, h5, h6, ?_⟩
    rcases h7 with h7 | ⟨g, off, k1, k2, k3⟩
    · exact .inl h7
    · exact .inr ⟨g, off, k1, hA g k2, TVs.keep hc hA k2 k3⟩
theorem TVs.keep {w w' : World} {A A' : Nat → Prop} (hc : ∀ b o x, A b → w.cell? ⟨b, o, none⟩ = some x → w'.cell? ⟨b, o, none⟩ = some x) (hA : ∀ b, A b → A' b) : ∀ {g o : Nat} {ts : List Tr}, A g → TVs w A g o ts → TVs w' A' g o ts
  | g, o, [], _, _ => by unfold TVs; trivial
  | g, o, t :: ts, hg, h => by
    unfold TVs at h ⊢
    obtain ⟨⟨v, h1, h2⟩, h3⟩ := h
    exact ⟨⟨v, hc g o _ hg h1, TV.keep hc hA h2⟩, TVs.keep hc hA hg h3⟩
end

/-- Values that are trees. -/
def TVl (w : World) (A : Nat → Prop) : List Value → List Tr → Prop
  | [], [] => True
  | v :: vs, t :: ts => TV w A v t ∧ TVl w A vs ts
  | _, _ => False

theorem TVl.keep {w w' : World} {A A' : Nat → Prop} (hc : ∀ b o x, A b → w.cell? ⟨b, o, none⟩ = some x → w'.cell? ⟨b, o, none⟩ = some x) (hA : ∀ b, A b → A' b) : ∀ {vs : List Value} {ts : List Tr}, TVl w A vs ts → TVl w' A' vs ts
  | [], [], _ => trivial
  | _ :: _, _ :: _, ⟨h1, h2⟩ => ⟨h1.keep hc hA, TVl.keep hc hA h2⟩
  | [], _ :: _, h => h.elim
  | _ :: _, [], h => h.elim

theorem TVl.len {w : World} {A : Nat → Prop} : ∀ {vs : List Value} {ts : List Tr}, TVl w A vs ts → vs.length = ts.length
  | [], [], _ => rfl
  | _ :: _, _ :: _, ⟨_, h2⟩ => congrArg (· + 1) (TVl.len h2)
  | [], _ :: _, h => h.elim
  | _ :: _, [], h => h.elim

theorem TVl.get {w : World} {A : Nat → Prop} : ∀ {vs : List Value} {ts : List Tr} {k : Nat} {v : Value} {t : Tr}, TVl w A vs ts → vs[k]? = some v → ts[k]? = some t → TV w A v t
  | [], [], _, _, _, _, h, _ => by simp at h
  | v :: vs, t :: ts, 0, _, _, ⟨h1, _⟩, hv, ht => by simp at hv ht; subst hv; subst ht; exact h1
  | v :: vs, t :: ts, k + 1, _, _, ⟨_, h2⟩, hv, ht => TVl.get h2 (by simpa using hv) (by simpa using ht)
  | [], _ :: _, _, _, _, h, _, _ => h.elim
  | _ :: _, [], _, _, _, h, _, _ => h.elim

theorem TVl.app {w : World} {A : Nat → Prop} : ∀ {vs us : List Value} {ts rs : List Tr}, TVl w A vs ts → TVl w A us rs → TVl w A (vs ++ us) (ts ++ rs)
  | [], _, [], _, _, h => h
  | _ :: _, _, _ :: _, _, ⟨h1, h2⟩, h => ⟨h1, TVl.app h2 h⟩
  | [], _, _ :: _, _, h, _ => h.elim
  | _ :: _, _, [], _, h, _ => h.elim

theorem TVl.take {w : World} {A : Nat → Prop} : ∀ {vs : List Value} {ts : List Tr} (k : Nat), TVl w A vs ts → TVl w A (vs.take k) (ts.take k) ∧ TVl w A (vs.drop k) (ts.drop k)
  | [], [], k, _ => by simp [TVl]
  | _ :: _, _ :: _, 0, h => ⟨trivial, h⟩
  | _ :: _, _ :: _, k + 1, ⟨h1, h2⟩ => by
    obtain ⟨h3, h4⟩ := TVl.take k h2
    exact ⟨⟨h1, h3⟩, h4⟩
  | [], _ :: _, _, h => h.elim
  | _ :: _, [], _, h => h.elim

theorem TVl.rev {w : World} {A : Nat → Prop} : ∀ {vs : List Value} {ts : List Tr}, TVl w A vs ts → TVl w A vs.reverse ts.reverse
  | [], [], _ => trivial
  | _ :: _, _ :: _, ⟨h1, h2⟩ => by
    rw [List.reverse_cons, List.reverse_cons]
    exact TVl.app (TVl.rev h2) ⟨h1, trivial⟩
  | [], _ :: _, h => h.elim
  | _ :: _, [], h => h.elim

theorem TV.ifv {w : World} {A : Nat → Prop} {v : Value} {t : Tr} (h : TV w A v t) : IfV v := by
  cases t with
  | var => unfold TV at h; exact ⟨_, _, h⟩
  | app ts => unfold TV at h; obtain ⟨b, a, cap, h1, _⟩ := h; exact ⟨_, _, h1⟩

theorem TVl.ifv {w : World} {A : Nat → Prop} : ∀ {vs : List Value} {ts : List Tr}, TVl w A vs ts → ∀ u ∈ vs, IfV u
  | [], [], _, u, hu => by cases hu
  | v :: vs, t :: ts, ⟨h1, h2⟩, u, hu => by
    cases hu with
    | head => exact h1.ifv
    | tail _ hu => exact TVl.ifv h2 u hu
  | [], _ :: _, h, _, _ => h.elim
  | _ :: _, [], h, _, _ => h.elim

theorem IfV.one {u : Value} (h : IfV u) : u.oneCell' = true := by obtain ⟨t, x, rfl⟩ := h; rfl

theorem TVs_of_TVl {w : World} {A : Nat → Prop} {g : Nat} : ∀ {vs : List Value} {ts : List Tr} {o : Nat}, TVl w A vs ts → (∀ (j : Nat) (u : Value), vs[j]? = some u → w.cell? ⟨g, o + j, none⟩ = some u) → TVs w A g o ts
  | [], [], o, _, _ => by unfold TVs; trivial
  | v :: vs, t :: ts, o, ⟨h1, h2⟩, hc => by
    unfold TVs
    refine ⟨⟨v, hc 0 v rfl, h1⟩, TVs_of_TVl h2 fun j u hj => ?_⟩
    have := hc (j + 1) u (by simpa using hj)
    rw [show o + 1 + j = o + (j + 1) by omega]
    exact this
  | [], _ :: _, _, h, _ => h.elim
  | _ :: _, [], _, h, _ => h.elim

theorem varNodes_any (w : World) : Calls Tryz.prog 238 #[.agg #[]] w fun e w' => e = .returned (.int .i64 1) ∧ Below w.heap.size w w' := by
  go_enter Tryz.func238, Tryz.ntmps238
  go_wp2
  go_ret
  exact ⟨rfl, below_alloc _⟩

theorem appNodes_any (b : Nat) (n : Int) (w : World) (h : w.cell? ⟨b, 1, none⟩ = some (.int .i64 n)) : Calls Tryz.prog 237 #[.pointer (some ⟨b, 0, none⟩)] w fun e w' => e = .returned (.int .i64 n) ∧ w' = w := by
  go_enter Tryz.func237, Tryz.ntmps237
  go_wp2
  go_ret
  exact ⟨rfl, rfl⟩

theorem sizes_app : ∀ (a b : List Tr), sizes (a ++ b) = sizes a + sizes b
  | [], b => by simp [sizes]
  | t :: a, b => by simp only [List.cons_append, sizes, sizes_app a b]; omega

theorem sizes_take (ts : List Tr) (k : Nat) : sizes (ts.take k) ≤ sizes ts := by
  have := sizes_app (ts.take k) (ts.drop k)
  rw [List.take_append_drop] at this
  omega

theorem Tr.pos (t : Tr) : 1 ≤ t.size := by
  cases t <;> simp only [Tr.size] <;> omega

theorem len_sizes : ∀ ts : List Tr, ts.length ≤ sizes ts
  | [] => by simp [sizes]
  | t :: ts => by
    have := t.pos
    have := len_sizes ts
    simp only [List.length_cons, sizes]
    omega

theorem RdV.kp {w w' : World} {v : Value} {vals : List Value} (h : RdV w v vals) (hk : Kp w w') : RdV w' v vals := by
  rcases h with h | ⟨g, off, cap, h1, h2⟩
  · exact .inl h
  · exact .inr ⟨g, off, cap, h1, fun j u hj => hk.cell _ _ (h2 j u hj)⟩

theorem RdV.at {w : World} {ao : Option Addr} {n cap : Nat} {vals : List Value} (h : RdV w (.slice ao n cap) vals) {k : Nat} {u : Value} (hk : vals[k]? = some u) : ∃ g off, ao = some ⟨g, off, none⟩ ∧ w.cell? ⟨g, off + k, none⟩ = some u := by
  rcases h with ⟨_, rfl⟩ | ⟨g, off, cap', h1, h2⟩
  · simp at hk
  · simp only [Value.slice.injEq] at h1
    exact ⟨g, off, h1.1, h2 k u hk⟩

set_option maxRecDepth 100000 in
set_option maxHeartbeats 1600000 in
theorem applyT_any (v : Value) (vals : List Value) (ts : List Tr) (A : Nat → Prop) (w : World) (hr : RdV w v vals) (ht : TVl w A vals ts) (hA : ∀ b, A b → b < w.heap.size) (hs : sizes ts ≤ 4611686018427387904) :
    Calls Tryz.prog 113 #[v] w fun e w' => ∃ b, e = .returned (.iface 145 (.pointer (some ⟨b, 0, none⟩))) ∧ w.heap.size ≤ b ∧ w'.cell? ⟨b, 0, none⟩ = some v ∧ w'.cell? ⟨b, 1, none⟩ = some (.int .i64 ((1 + sizes ts : Nat) : Int)) ∧ Below w.heap.size w w' := by
  have hlen := ht.len
  have hsh : ∃ ao cap, v = .slice ao ts.length cap := by
    rcases hr with ⟨rfl, rfl⟩ | ⟨g, off, cap, rfl, _⟩
    · exact ⟨none, 0, by rw [← hlen]; rfl⟩
    · exact ⟨_, cap, by rw [hlen]⟩
  obtain ⟨ao, cap, rfl⟩ := hsh
  have HR := hid hr
  have HT := hid ht
  have HA := hid hA
  have hbig := len_sizes ts
  clear hr ht hA
  go_enter Tryz.func113, Tryz.ntmps113
  go_wp2
  go_loopw [3, 8] (fun sv iv wr => ∃ k : Nat, k ≤ ts.length ∧ iv = .int .i64 k ∧ sv = .int .i64 ((1 + sizes (ts.take k) : Nat) : Int) ∧ Below w.heap.size w wr) (fun _ iv _ => ts.length - (intOf iv).toNat)
  case atStart => exact ⟨0, Nat.zero_le _, rfl, by simp [sizes], Below.refl _ _⟩
  case round =>
    obtain ⟨k, hk, rfl, rfl, hbl⟩ := hrel
    have HBl := hid hbl
    by_cases hlt : k < ts.length
    · obtain ⟨u, hu⟩ : ∃ u, vals[k]? = some u := ⟨_, List.getElem?_eq_getElem (by omega)⟩
      obtain ⟨t, htk⟩ : ∃ t, ts[k]? = some t := ⟨_, List.getElem?_eq_getElem hlt⟩
      obtain ⟨g, off, rfl, hc⟩ := (HR.out.kp (Kp.of_below hbl)).at hu
      have htv := HT.out.get hu htk
      have hst := sizes_take ts (k + 1)
      have hsn : sizes (ts.take (k + 1)) = sizes (ts.take k) + t.size := by rw [take_get htk, sizes_app]; simp [sizes]
      have HSn := hid hsn
      obtain ⟨S, hS⟩ : ∃ S, S = sizes (ts.take k) := ⟨_, rfl⟩
      rw [← hS] at hsn HSn ⊢
      clear hS hu htk hbl
      cases t with
      | var =>
        unfold TV at htv
        subst htv
        simp only [Tr.size] at hsn HSn
        go_wp2_with fail
        refine (varNodes_any wr).mono ?_
        rintro e w2 ⟨rfl, hb2⟩
        have HB2 := hid (below_step HBl.out hb2)
        have hwr : IntKind.i64.wrap (((1 + S : Nat) : Int) + 1) = ((1 + (S + 1) : Nat) : Int) := by rw [IntWalk.i64_in _ ⟨by omega, by omega⟩]; omega
        clear hb2
        go_wp2
        go_roundw
        case rel => exact ⟨k + 1, by omega, by go_num, by rw [HSn.out]; exact congrArg (Value.int .i64) (by omega), HB2.out⟩
        case measure => simp [intOf]; omega
      | app rs =>
        unfold TV at htv
        obtain ⟨b, a, cp, rfl, hb, h3, h4, h5, h6, h7⟩ := htv
        have h4r := (HBl.out.cell (p := ⟨b, 1, none⟩) (HA.out b hb)).trans h4
        simp only [Tr.size] at hsn HSn
        have hwr : IntKind.i64.wrap (((1 + S : Nat) : Int) + ((1 + sizes rs : Nat) : Int)) = ((1 + (S + (1 + sizes rs)) : Nat) : Int) := by rw [IntWalk.i64_in _ ⟨by omega, by omega⟩]; omega
        clear h3 h7
        go_wp2_with fail
        refine (appNodes_any b _ wr h4r).mono ?_
        rintro e w2 ⟨rfl, hw2⟩
        have hw8 := hw2.symm
        subst hw8
        clear hw2
        go_wp2
        go_roundw
        case rel => exact ⟨k + 1, by omega, by go_num, by rw [HSn.out]; exact congrArg (Value.int .i64) (by omega), HBl.out⟩
        case measure => simp [intOf]; omega
    · have hke : k = ts.length := by omega
      subst hke
      rw [List.take_length]
      go_wp2
      go_ret
      exact ⟨_, rfl, hbl.size, by simp, by simp, below_step hbl (below_alloc _)⟩

end Go.Proofs.YtdjmjhlbjcgoiaaGreatDoor

/- A range over a function whose rounds are numbered: round k is handed just what the iterator hands it then. -/
namespace Go.Proofs.YtdjmjhlbjcgoiaaGreatDoor
open Go.RowKit Go.Maps Go.Shelf

attribute [local go_sem] Oper.semAt_some

section
variable {P : Program} {F : Fence} {n : Nat}

/-- Rounds by their numbers. -/
theorem range_rounds {g : Operand} {ps : Array Tmp} {assign body : Code} {Q : Exit → Act → World → Prop} {a : Act} {w : World} (hro : F.round = none) (h1 : 1 ≤ n) {gf : Nat} {lb : Array Value}
    (hg : a.eval g = .func (.func gf) #[] lb) (hFg : F.fn gf) (eg : ∀ args w, (callFunc gf args).run P w = .ok (.enter gf args) w)
    (args : Nat → Array Value) (N : Nat) (hps : ∀ k, (args k).size = ps.size) (Rd : World → Prop) (I : Nat → World → Prop)
    (hput : ∀ (k : Nat) (W : World) (l : Nat) (o o' : Obj), w.heap.size ≤ l → W.heap[l]? = some o → o.isCells = false → I k W → I k (W.putObj l o'))
    (h0 : ∀ r : Loop, I 0 ((w.alloc (.deferred (some []))).alloc (.loop r))) (hRd : ∀ k W, I k W → Rd W)
    (hseq : ∀ (l : Nat) (J : Nat → World → Prop) (W : World), (∀ k W1, J k W1 → Rd W1) → (∀ k W1, k < N → J k W1 → YieldAt F (n - 1 - 1) P l (args k) W1 fun e W' => e = .returned (.bool true) ∧ J (k + 1) W') → J 0 W →
      CallsIn F (n - 1) P gf (#[.func (.yield l) #[] #[]] ++ lb) W fun e W' => (∃ v, e = .returned v) ∧ J N W')
    (a1 : Nat → Act)
    (hassign : ∀ (l k : Nat) (W : World) (K : Act → World → Prop), K (a1 k) W → assign.wpIn (F.inRound l) (n - 1 - 1) P (Exit.then K (fun _ _ _ => False)) { tmps := (ps.zip (args k)).foldl (fun t (p, v) => t.setIfInBounds p v) a.tmps, defers := [] } W)
    (hbody : ∀ (l k : Nat) (W : World), k < N → I k W → body.wpIn (F.inRound l) (n - 1 - 1) P (fun e _ W' => e = .normal ∧ KeepsFrom w.heap.size W W' ∧ I (k + 1) W') (a1 k) W)
    (hdone : ∀ (D : Nat) (W : World), w.heap.size ≤ D → I N W → W.heap[D]? = some (.deferred (some [])) → Q .normal { a with defers := { target := .collected D, args := #[] } :: a.defers } W) :
    (Code.rangeFunc g ps assign body).wpIn F n P Q a w := by
  refine wpIn_rangeFunc fun fn hfn => ?_
  rw [hro]
  -- the record of the loop, as it stands between two rounds and in one
  obtain ⟨R, hR⟩ : ∃ R : LoopState → Loop, R = fun s => { state := s, pending := none, fn, tmps := a.tmps, params := ps, assign, body, defers := w.heap.size } := ⟨_, rfl⟩
  have hRs : ∀ s, (R s).state = s := fun s => by rw [hR]
  have hRb : ∀ s s', { R s with state := s' } = R s' := fun s s' => by rw [hR]
  obtain ⟨l, hl⟩ : ∃ l, l = w.heap.size + 1 := ⟨_, rfl⟩
  obtain ⟨W1, hW1⟩ : ∃ W, W = (w.alloc (.deferred (some []))).alloc (.loop (R .ready)) := ⟨_, rfl⟩
  have hl1 : W1.heap[l]? = some (.loop (R .ready)) := by
    rw [hW1, hl]
    have := World.alloc_heap_new (w.alloc (.deferred (some []))) (.loop (R .ready))
    rwa [World.size_alloc] at this
  have hd1 : W1.heap[w.heap.size]? = some (.deferred (some [])) := by
    rw [hW1]
    exact (Below.heap_alloc _ _ _ (by simp)).trans (World.alloc_heap_new w _)
  refine ⟨l, [{ target := .collected w.heap.size, args := #[] }], W1, { target := .fn (.func gf) lb, args := #[.func (.yield l) #[] #[]] }, W1, gf, #[.func (.yield l) #[] #[]] ++ lb, W1, ?_, ?_, ?_, ?_, fun _ => h1, ?_⟩
  · rw [hl, hW1, hR]
    exact run_enterLoop_outer _ _ _ _ _
  · simp only [resolve, hg]
    simp [go_sem]
  · intro f' hf'
    simp [Target.leads] at hf'
    subst hf'
    exact hFg
  · simp [invoke, go_sem, eg]
  · refine (hseq l (fun k W => I k W ∧ W.heap[l]? = some (.loop (R .ready)) ∧ W.heap[w.heap.size]? = some (.deferred (some []))) W1 (fun k W h => hRd k W h.1) ?_ ⟨by rw [hW1]; exact h0 _, hl1, hd1⟩).mono ?_
    · rintro k W hk ⟨hi, hL, hD⟩
      have hlt := (Array.getElem?_eq_some_iff.1 hL).1
      have hy := run_yield (P := P) (args := args k) hL (by rw [hR]; exact hps k)
      refine ⟨_, _, _, _, hy, ?_⟩
      rw [show (R .ready).assign = assign by rw [hR], show (R .ready).body = body by rw [hR], show (R .ready).fn = fn by rw [hR], show (R .ready).tmps = a.tmps by rw [hR], show (R .ready).params = ps by rw [hR]]
      refine roundIn_of_wpIn hfn (hassign l k W _ ⟨_, run_beginRound hL (hRs _), ?_⟩)
      rw [hRb]
      have hL2 : (W.putObj l (.loop (R .busy))).heap[l]? = some (.loop (R .busy)) := World.putObj_heap_same hlt
      have hD2 : (W.putObj l (.loop (R .busy))).heap[w.heap.size]? = some (.deferred (some [])) := (World.putObj_heap_other (by omega)).trans hD
      refine wpIn_mono (hbody l k _ hk (hput k W l _ _ (by omega) hL rfl hi)) ?_
      rintro e a3 W3 ⟨rfl, hkf, hi3⟩
      have hL3 := hkf.same _ _ (show w.heap.size ≤ l by omega) hL2 rfl
      have hD3 := hkf.same _ _ (Nat.le_refl _) hD2 rfl
      have he := run_endRound (P := P) none hL3
      refine ⟨_, _, he, rfl, ?_, ?_, ?_⟩
      · exact hput _ W3 l _ _ (by omega) hL3 rfl hi3
      · rw [World.putObj_heap_same (Array.getElem?_eq_some_iff.1 hL3).1]
        simp only [Option.isNone_none, if_true]
        rw [hR]
      · exact (World.putObj_heap_other (by omega)).trans hD3
    · rintro e W2 ⟨⟨v, rfl⟩, hi, hL, hD⟩
      have he := run_endLoop (P := P) hL (by rw [hRs]; simp)
      rw [show (R .ready).pending = none by rw [hR]] at he
      exact ⟨none, _, he, hdone _ _ (Nat.le_refl _) (hput _ W2 l _ _ (by omega) hL rfl hi) ((World.putObj_heap_other (by omega)).trans hD)⟩

end

end Go.Proofs.YtdjmjhlbjcgoiaaGreatDoor

/- slices.Backward over a row of numbers. -/
namespace Go.Proofs.YtdjmjhlbjcgoiaaGreatDoor
open Go.RowKit Go.Maps Go.Shelf

attribute [local go_sem] Oper.semAt_some

/-- What round k is handed. -/
def backA (t : List Int) (k : Nat) : Array Value := #[.int .i64 ((t.length - 1 - k : Nat) : Int), .int .i64 (t.reverse[k]?.getD 0)]

/-- What the iterator reads. -/
def BackR (Bs b off cap : Nat) (t : List Int) (W : World) : Prop := W.cell? ⟨Bs, 0, none⟩ = some (.slice (some ⟨b, off, none⟩) t.length cap) ∧ ∀ (j : Nat) (c : Int), t[j]? = some c → W.cell? ⟨b, off + j, none⟩ = some (.int .i64 c)

set_option maxRecDepth 100000 in
set_option maxHeartbeats 1600000 in
theorem back_rounds (F : Fence) (n : Nat) (hF : F.fn 155) (hro : F.round = none) (hn : 1 ≤ n) (Bs b off cap : Nat) (t : List Int) (ht : t.length * 8 ≤ 140737488351232) (_hcap : t.length ≤ cap) (_hcm : cap ≤ 9223372036854775807) (l : Nat) (J : Nat → World → Prop) (W : World)
    (hR : ∀ k W1, J k W1 → BackR Bs b off cap t W1) (hY : ∀ k W1, k < t.length → J k W1 → YieldAt F (n - 1) Tryz.prog l (backA t k) W1 fun e W' => e = .returned (.bool true) ∧ J (k + 1) W') (h0 : J 0 W) :
    CallsIn F n Tryz.prog 155 (#[.func (.yield l) #[] #[]] ++ #[.pointer (some ⟨Bs, 0, none⟩)]) W fun e W' => (∃ v, e = .returned v) ∧ J t.length W' := by
  refine callsIn_of_wp Tryz.func155 rfl hF ?_ hro
  simp only [Tryz.ntmps155, List.size_toArray, List.length_cons, List.length_nil, Nat.reduceAdd, Nat.reduceSub, Array.replicate_succ, Array.replicate_zero, List.push_toArray, List.append_toArray, List.nil_append, List.cons_append]
  have hb0 := (hR 0 W h0).1
  have hw0 : IntKind.i64.wrap ((t.length : Int) - 1) = (t.length : Int) - 1 := IntWalk.i64_in _ ⟨by omega, by omega⟩
  gi_wp2
  gi_loopw [3] (fun iv wr => ∃ k : Nat, k ≤ t.length ∧ iv = .int .i64 ((t.length : Int) - 1 - k) ∧ J k wr) (fun iv _ => (intOf iv + 1).toNat)
  case atStart => exact ⟨0, Nat.zero_le _, by simp, h0⟩
  case round =>
    obtain ⟨k, hk, rfl, hJ⟩ := hrel
    obtain ⟨hb1, hb2⟩ := hR k wr hJ
    by_cases hlt : k < t.length
    · obtain ⟨j, hj⟩ : ∃ j : Nat, j = t.length - 1 - k := ⟨_, rfl⟩
      have hjl : j < t.length := by omega
      have hji : (t.length : Int) - 1 - (k : Int) = (j : Int) := by omega
      obtain ⟨c, hc⟩ : ∃ c, t[j]? = some c := ⟨_, List.getElem?_eq_getElem hjl⟩
      have hcell := hb2 j c hc
      obtain ⟨fn, tmps, assign, body, hy, hRd⟩ := hY k wr hlt hJ
      have hbk : backA t k = #[.int .i64 (j : Int), .int .i64 c] := by
        unfold backA
        rw [List.getElem?_reverse hlt, ← hj, hc]
        rfl
      rw [hbk] at hy
      rw [hji]
      clear hb2 hbk hc hj
      gi_wp2
      refine hRd.mono ?_
      rintro e W3 ⟨rfl, hJ3⟩
      have hwj : IntKind.i64.wrap ((j : Int) - 1) = (j : Int) - 1 := IntWalk.i64_in _ ⟨by omega, by omega⟩
      gi_wp2
      go_roundw
      case rel => exact ⟨k + 1, by omega, congrArg (Value.int .i64) (by omega), hJ3⟩
      case measure => simp [intOf]
    · have hke : k = t.length := by omega
      subst hke
      gi_wp2
      go_end0
      exact ⟨⟨_, rfl⟩, hJ⟩

theorem back_any (ao : Option Addr) (len cap : Nat) (w : World) (F : Fence) (n : Nat) (hF : F.fn 110) (hro : F.round = none) :
    CallsIn F n Tryz.prog 110 #[.slice ao len cap] w fun e w' => e = .returned (.func (.func 155) #[] #[.pointer (some ⟨w.heap.size, 0, none⟩)]) ∧ w' = w.alloc (.cells #[.slice ao len cap] 30) := by
  refine callsIn_of_wp Tryz.func110 rfl hF ?_ hro
  simp only [Tryz.ntmps110, List.size_toArray, List.length_cons, List.length_nil, Nat.reduceAdd, Nat.reduceSub, Array.replicate_succ, Array.replicate_zero, List.push_toArray, List.append_toArray, List.nil_append, List.cons_append]
  gi_wp2
  go_ret
  exact ⟨rfl, rfl⟩

end Go.Proofs.YtdjmjhlbjcgoiaaGreatDoor
