/- What Shift answers. -/
import Derived.Test.YtifpanfgojfbkaaDoorTVars
namespace Go.Proofs.YtifpanfgojfbkaaDoor
open Go.RowKit Go.Maps

def isVarB (n : Int) : Bool := decide (0 ≤ n) && decide (n < 1048576)

theorem isVariable_any (n : Int) (w : World) : Calls Tryd.prog 28 #[.int .i64 n] w fun e w' => e = .returned (.bool (isVarB n)) ∧ w' = w := by
  go_enter Tryd.func28, Tryd.ntmps28
  by_cases h : 0 ≤ n
  · have HF : Hid (isVarB n = decide (n < 1048576)) := by show _ = _; unfold isVarB; rw [decide_eq_true h]; rfl
    go_wp2
    go_ret
    exact ⟨ret1b HF.out.symm, rfl⟩
  · have HF : Hid (isVarB n = false) := by show _ = _; unfold isVarB; rw [decide_eq_false h]; rfl
    go_wp2
    go_ret
    exact ⟨ret1b HF.out.symm, rfl⟩

/-- The variables of a row numbered by a function with a state. -/
def renG {σ : Type} (φ : σ → Int → Int × σ) : σ → List Int → List Int × σ
  | s, [] => ([], s)
  | s, c :: r => if c < 0 then (((-1 - (φ s (-1 - c)).1) :: (renG φ (φ s (-1 - c)).2 r).1), (renG φ (φ s (-1 - c)).2 r).2) else (c :: (renG φ s r).1, (renG φ s r).2)

theorem set_midI {α : Type} (a : List α) (x y : α) (b : List α) (k : Nat) (h : a.length = k) : (a ++ x :: b).set k y = a ++ y :: b := by
  subst h
  simp

theorem grown_set {w wr : World} {r : Option Nat} {g : Nat} (h : w.grownBy wr r) (hg : w.heap.size ≤ g) (k : Nat) (u : Value) : w.grownBy (wr.setCell ⟨g, k, none⟩ u) r :=
  ⟨h.os, h.tape, h.output, by simpa [World.setCell] using h.size, fun j hj hne => by
    rw [heap_setCell_other _ _ _ _ (show j ≠ g by omega)]
    exact h.block j hj hne⟩

theorem set_grown (w : World) (g k : Nat) (u : Value) : w.grownBy (w.setCell ⟨g, k, none⟩ u) (some g) :=
  ⟨rfl, rfl, rfl, by simp [World.setCell], fun j _ hne => heap_setCell_other _ _ _ _ (fun e => hne (by rw [e]))⟩

set_option maxRecDepth 100000 in
set_option maxHeartbeats 1600000 in
theorem renumber_any {σ : Type} (St : World → σ → Prop) (φ : σ → Int → Int × σ) (Ok : Int → Prop) (b : Nat) (g : FuncId) (cv v : Value) (t : List Int) (s0 : σ) (w : World) (sz : σ → Nat) (hszs : ∀ s n, sz (φ s n).2 ≤ sz s + 1)
    (hb : b < w.heap.size) (hst : St w s0) (hlen : t.length * 8 ≤ 140737488351232)
    (hkeep : ∀ w1 w2 s r, St w1 s → w1.grownBy w2 r → r ≠ some b → (∀ j, r = some j → w.heap.size ≤ j) → b < w1.heap.size → St w2 s)
    (hread : ∀ w', w.grownBy w' (some b) → Is w' v t)
    (hcall : ∀ (n : Int) (s : σ) (w1 : World), Ok n → St w1 s → sz s < sz s0 + t.length → Calls Tryd.prog g #[.int .i64 n, cv] w1 fun e w2 => e = .returned (.int .i64 (φ s n).1) ∧ St w2 (φ s n).2 ∧ w1.grownBy w2 (some b))
    (hrng : ∀ s n w1, Ok n → St w1 s → sz s < sz s0 + t.length → 0 ≤ (φ s n).1 ∧ (φ s n).1 ≤ 9223372036854775807) (hok : ∀ c ∈ t, c < 0 → Ok (-1 - c)) (eg : ∀ args w, (callFunc g args).run Tryd.prog w = .ok (.enter g args) w) :
    Calls Tryd.prog 34 #[v, .func (.func g) #[] #[cv]] w fun e w' => ∃ v', e = .returned v' ∧ OwI w' w.heap.size v' (renG φ s0 t).1 ∧ St w' (renG φ s0 t).2 ∧ w.grownBy w' (some b) := by
  obtain ⟨i1, hi1, hy0, hy1, hy2⟩ := info_parts info_int
  obtain ⟨ao, cap, rfl, hao, hca, q0⟩ := Row.flat (hread w (World.grownBy.refl _ _))
  unfold maxLen at hca
  have HR : Hid (∀ w', w.grownBy w' (some b) → Is w' (.slice ao t.length cap) t) := hread
  have HK : Hid (∀ w1 w2 s r, St w1 s → w1.grownBy w2 r → r ≠ some b → (∀ j, r = some j → w.heap.size ≤ j) → b < w1.heap.size → St w2 s) := hkeep
  have HC : Hid (∀ (n : Int) (s : σ) (w1 : World), Ok n → St w1 s → sz s < sz s0 + t.length → Calls Tryd.prog g #[.int .i64 n, cv] w1 fun e w2 => e = .returned (.int .i64 (φ s n).1) ∧ St w2 (φ s n).2 ∧ w1.grownBy w2 (some b)) := hcall
  have HRn : Hid (∀ s n w1, Ok n → St w1 s → sz s < sz s0 + t.length → 0 ≤ (φ s n).1 ∧ (φ s n).1 ≤ 9223372036854775807) := hrng
  have HOk : Hid (∀ c ∈ t, c < 0 → Ok (-1 - c)) := hok
  have HSt : Hid (St w s0) := hst
  have HSz : Hid (∀ s n, sz (φ s n).2 ≤ sz s + 1) := hszs
  clear hst hkeep hread hcall hrng hok q0 hszs
  go_enter Tryd.func34, Tryd.ntmps34
  go_wp2_with (first
    | (at_make; refine wpList_make_full _ rfl _ _ 30 rfl w.heap.size 3 i1 (.int .i64 0) 1 under_ints hi1 hy0 hy1 .i64 .i64 _ _ t.length rfl rfl (by omega) (by omega) (by rw [hy2]; omega) (by unfold maxLen; omega) (Nat.le_refl _) ?_; intro w0 hown0 hgrow0))
  have hb0' : Below w.heap.size w w0 := (Below.refl _ _).grown hgrow0 (Nat.le_refl _) (by intro k hk; cases hk)
  have HO : Hid (OwI w0 w.heap.size (.slice (some ⟨w.heap.size, 0, none⟩) t.length t.length) (List.replicate t.length 0)) := OwI.made hown0
  have HB0 : Hid (Below w.heap.size w w0) := hb0'
  have HS0 : Hid (St w0 s0) := HK.out _ _ _ none HSt.out (grown_of_below hb0' _) (by simp) (by simp) hb
  clear hown0 hgrow0 hb0'
  go_loopw [13] (fun i wr => ∃ (k : Nat) (Z : List Int) (s : σ), k ≤ t.length ∧ i = .int .i64 k ∧ Z.length = k ∧ renG φ s0 t = (Z ++ (renG φ s (t.drop k)).1, (renG φ s (t.drop k)).2) ∧ OwI wr w.heap.size (.slice (some ⟨w.heap.size, 0, none⟩) t.length t.length) (Z ++ List.replicate (t.length - k) 0) ∧ St wr s ∧ w.grownBy wr (some b) ∧ sz s ≤ sz s0 + k) (fun i _ => t.length - (intOf i).toNat)
  case atStart => exact ⟨0, [], s0, Nat.zero_le _, rfl, rfl, by simp, by simpa using HO.out, HS0.out, grown_of_below HB0.out _, by omega⟩
  case round =>
    obtain ⟨k, Z, s, hk, rfl, hZ, hren, how, hss, hgr, hszk⟩ := hrel
    have HZ : Hid (Z.length = k) := hZ
    have HRen : Hid (renG φ s0 t = (Z ++ (renG φ s (t.drop k)).1, (renG φ s (t.drop k)).2)) := hren
    have HOw : Hid (OwI wr w.heap.size (.slice (some ⟨w.heap.size, 0, none⟩) t.length t.length) (Z ++ List.replicate (t.length - k) 0)) := how
    have HSs : Hid (St wr s) := hss
    have HG : Hid (w.grownBy wr (some b)) := hgr
    have hsz := hgr.size
    clear hZ hren how hss hgr HO HB0 HS0
    by_cases hlt : k < t.length
    · obtain ⟨g2, off, c, rfl, hx1, hx2, hx3, hx4⟩ := (HR.out wr HG.out).at hlt
      have HDr : Hid (t.drop k = c :: t.drop (k + 1)) := drop_get hx1
      have HMem : Hid (c ∈ t) := List.mem_of_getElem? hx1
      have hw := HOw.out
      rw [show t.length - k = (t.length - (k + 1)) + 1 by omega, List.replicate_succ] at hw
      obtain ⟨hc1, hf1⟩ := hw.at (k := k) (x := 0) (by rw [List.getElem?_append_right (by rw [HZ.out]; exact Nat.le_refl _), HZ.out, Nat.sub_self]; rfl)
      have hq := (hw.put (Below.refl w.heap.size wr) (Nat.le_refl _) (by simp; have := HZ.out; omega) (k := k) (z := c) ⟨hx3, hx4⟩ (ys := Z ++ c :: List.replicate (t.length - (k + 1)) 0) (by rw [set_midI _ _ _ _ _ HZ.out])).1
      have HQ : Hid (OwI (wr.setCell ⟨w.heap.size, k, none⟩ (.int .i64 c)) w.heap.size (.slice (some ⟨w.heap.size, 0, none⟩) t.length t.length) (Z ++ c :: List.replicate (t.length - (k + 1)) 0)) := hq
      have HS1 : Hid (St (wr.setCell ⟨w.heap.size, k, none⟩ (.int .i64 c)) s) := HK.out _ _ _ _ HSs.out (set_grown _ _ _ _) (by simp; omega) (by simp) (by omega)
      have HG1 : Hid (w.grownBy (wr.setCell ⟨w.heap.size, k, none⟩ (.int .i64 c)) (some b)) := grown_set HG.out (Nat.le_refl _) _ _
      clear hq hw hx1 HSs HOw
      by_cases hc0 : c < 0
      · have hwr : IntKind.i64.wrap (-1 - c) = -1 - c := IntWalk.i64_in _ ⟨by omega, by omega⟩
        have HOkc : Hid (Ok (-1 - c)) := HOk.out c HMem.out hc0
        go_wp2_with fail
        refine (HC.out (-1 - c) s _ HOkc.out HS1.out (by omega)).mono ?_
        rintro e w2 ⟨rfl, hs2, hg2⟩
        have hr := HRn.out s (-1 - c) _ HOkc.out HS1.out (by omega)
        obtain ⟨n, hn⟩ : ∃ n, n = (φ s (-1 - c)).1 := ⟨_, rfl⟩
        have HNe : Hid (n = (φ s (-1 - c)).1) := hn
        rw [← hn] at hr ⊢
        have hwn : IntKind.i64.wrap (-1 - n) = -1 - n := IntWalk.i64_in _ ⟨by omega, by omega⟩
        have HO2 : Hid (OwI w2 w.heap.size (.slice (some ⟨w.heap.size, 0, none⟩) t.length t.length) (Z ++ c :: List.replicate (t.length - (k + 1)) 0)) := HQ.out.kept hg2 (.inr (by simp [Value.ownBlock]; omega))
        obtain ⟨hc3, hf3⟩ := HO2.out.at (k := k) (x := c) (by rw [List.getElem?_append_right (by rw [HZ.out]; exact Nat.le_refl _), HZ.out, Nat.sub_self]; rfl)
        have hq2 := (HO2.out.put (Below.refl w.heap.size w2) (Nat.le_refl _) (by simp; have := HZ.out; omega) (k := k) (z := -1 - n) ⟨by omega, by omega⟩ (ys := Z ++ (-1 - n) :: List.replicate (t.length - (k + 1)) 0) (by rw [set_midI _ _ _ _ _ HZ.out])).1
        have HQ2 : Hid (OwI (w2.setCell ⟨w.heap.size, k, none⟩ (.int .i64 (-1 - n))) w.heap.size (.slice (some ⟨w.heap.size, 0, none⟩) t.length t.length) (Z ++ (-1 - n) :: List.replicate (t.length - (k + 1)) 0)) := hq2
        have hsz2 := hg2.size
        simp [World.setCell] at hsz2
        have HS2 : Hid (St (w2.setCell ⟨w.heap.size, k, none⟩ (.int .i64 (-1 - n))) (φ s (-1 - c)).2) := HK.out _ _ _ _ hs2 (set_grown _ _ _ _) (by simp; omega) (by simp) (by omega)
        have HG2 : Hid (w.grownBy (w2.setCell ⟨w.heap.size, k, none⟩ (.int .i64 (-1 - n))) (some b)) := grown_set (grown_trans HG1.out hg2) (Nat.le_refl _) _ _
        have HN : Hid (renG φ s0 t = ((Z ++ [-1 - n]) ++ (renG φ (φ s (-1 - c)).2 (t.drop (k + 1))).1, (renG φ (φ s (-1 - c)).2 (t.drop (k + 1))).2)) := by
          show _ = _
          rw [HRen.out, HDr.out, renG, if_pos hc0, ← HNe.out]
          simp
        clear hq2 hs2 hg2 hn
        go_wp2
        go_roundw
        case rel => exact ⟨k + 1, Z ++ [-1 - n], (φ s (-1 - c)).2, by omega, by go_num, by rw [List.length_append, HZ.out]; rfl, HN.out, by simpa using HQ2.out, HS2.out, HG2.out, by have := HSz.out s (-1 - c); omega⟩
        case measure => simp [intOf]; omega
      · have HN : Hid (renG φ s0 t = ((Z ++ [c]) ++ (renG φ s (t.drop (k + 1))).1, (renG φ s (t.drop (k + 1))).2)) := by
          show _ = _
          rw [HRen.out, HDr.out, renG, if_neg hc0]
          simp
        go_wp2
        go_roundw
        case rel => exact ⟨k + 1, Z ++ [c], s, by omega, by go_num, by rw [List.length_append, HZ.out]; rfl, HN.out, by simpa using HQ.out, HS1.out, HG1.out, by omega⟩
        case measure => simp [intOf]; omega
    · have hke : k = t.length := by omega
      have HF : Hid (renG φ s0 t = (Z, s)) := by
        show _ = _
        rw [HRen.out, List.drop_of_length_le (by omega)]
        simp [renG]
      have HOf : Hid (OwI wr w.heap.size (.slice (some ⟨w.heap.size, 0, none⟩) t.length t.length) Z) := by
        have := HOw.out
        rw [show t.length - k = 0 by omega, List.replicate_zero, List.append_nil] at this
        exact this
      go_wp2
      go_ret
      exact ⟨_, rfl, by rw [HF.out]; exact HOf.out, by rw [HF.out]; exact HSs.out, HG.out⟩

end Go.Proofs.YtifpanfgojfbkaaDoor
