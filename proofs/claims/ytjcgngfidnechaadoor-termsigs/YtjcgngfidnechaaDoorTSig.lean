/- What hasName, CheckSig and Check answer. -/
import Derived.Test.YtjcgngfidnechaaDoorTLay
import Derived.Deep.Quiet
import Derived.BigQuiet
namespace Go.Proofs.YtjcgngfidnechaaDoor
open Go.RowKit Go.Maps Go.BigFrame

theorem hid {p : Prop} (h : p) : Hid p := h

theorem box2 {w w1 : World} {x y : Value} {t : TypeId} (hb : Below (w.alloc (.cells #[x, y] t)).heap.size (w.alloc (.cells #[x, y] t)) w1) :
    w1.cell? ⟨w.heap.size, 0, none⟩ = some x ∧ w1.cell? ⟨w.heap.size, 1, none⟩ = some y ∧ Below w.heap.size w w1 :=
  ⟨(hb.cell (p := ⟨w.heap.size, 0, none⟩) (by simp)).trans (by simp), (hb.cell (p := ⟨w.heap.size, 1, none⟩) (by simp)).trans (by simp), below_step (below_alloc _) hb⟩

theorem region_below {P : Program} {id : Nat} {Q : Exit → Act → World → Prop} {a : Act} {w : World} {l : List Oper} (hm : P.follows .mixedOrders = true) (hB : Region.lexB .any l.toArray = true)
    (h : wpQuiet P l.toArray (fun w' => Below w.heap.size w w') (fun a' => ∀ w', Below w.heap.size w w' → Q .normal a' w') l a) : (Code.region id l.toArray true).wp P Q a w :=
  wp_region_quiet (C := fun w' => Below w.heap.size w w') hm hB (Below.refl _ _).drew (by simpa using h)

/-- A symbol's cells. -/
def encS (s : Sy) : List Value := [.string s.1, .int .i64 s.2]

def sameS (a b : ByteArray) : Bool := a.toList == b.toList

theorem hasClosure (nm : ByteArray) (B : Nat) (w : World) (hB : B < w.heap.size) (hcell : w.cell? ⟨B, 0, none⟩ = some (.string nm)) :
    PredBelow Tryd.prog 47 #[.pointer (some ⟨B, 0, none⟩)] (fun x => .agg (encS x).toArray) (fun x => sameS x.1 nm) w := fun W x hb => by
  have hc : W.cell? ⟨B, 0, none⟩ = some (.string nm) := (hb.cell (p := ⟨B, 0, none⟩) hB).trans hcell
  have hBW : B < W.heap.size := Nat.lt_of_lt_of_le hB hb.size
  have hne : B ≠ W.heap.size := by omega
  show Calls Tryd.prog 47 #[.agg #[.string x.1, .int .i64 x.2], .pointer (some ⟨B, 0, none⟩)] W _
  go_enter Tryd.func47, Tryd.ntmps47
  go_wp2
  all_goals (go_ret; exact ⟨rfl, hb.alloc hb.size _⟩)

def hasB (sig : List Sy) (nm : ByteArray) : Bool := sig.any fun x => sameS x.1 nm

set_option maxRecDepth 100000 in
set_option maxHeartbeats 1000000 in
theorem hasName_any (g off cap : Nat) (n : Nat) (sig : List Sy) (nm : ByteArray) (w : World) (hs : Sg w (.slice (some ⟨g, off, none⟩) sig.length cap) sig) (hn : n ≤ sig.length) (hl : 0 < sig.length) :
    Calls Tryd.prog 31 #[.slice (some ⟨g, off, none⟩) n cap, .string nm] w fun e w' => e = .returned (.bool (hasB (sig.take n) nm)) ∧ Below w.heap.size w w' := by
  have eg : ∀ args w, (callFunc 47 args).run Tryd.prog w = .ok (.enter 47 args) w := enters_of Tryd.func47 (by kernel_rfl) rfl
  obtain ⟨so, sc, hv, _, hsc, _⟩ := Row.flat hs
  have hg : g < w.heap.size := by
    obtain ⟨g', off', s, a, he, _, hc, _⟩ := Sg.at hs hl
    simp only [Option.some.injEq, Addr.mk.injEq] at he
    obtain ⟨rfl, _⟩ := he
    exact World.block_lt_of_cell? _ _ hc
  have hbig : n ≤ 9223372036854775807 := by
    simp only [Value.slice.injEq] at hv
    obtain ⟨_, _, rfl⟩ := hv
    unfold maxLen at hsc; omega
  have hcon := AnyQ.slices_ContainsFunc Tryd.hasLay 2 Tryd.isAgg40 Tryd.sizeOf40 encS (fun _ => rfl) (fun x => sameS x.1 nm) 47 #[.pointer (some ⟨w.heap.size, 0, none⟩)] eg g off n cap sig (w.alloc (.cells #[.string nm] 9))
    (hasClosure nm w.heap.size _ (by simp) (by simp)) hn hbig (by simp; omega) (fun j hj i v hi => by
      refine Lib.cell?_alloc_some _ ?_
      obtain ⟨g', off', s, a, he, hm, h1, h2, _⟩ := Sg.at hs hj
      simp only [Option.some.injEq, Addr.mk.injEq] at he
      obtain ⟨rfl, rfl, _⟩ := he
      have hy : sig[j]! = (s, a) := by rw [List.getElem!_eq_getElem?_getD, hm]; rfl
      rw [hy] at hi
      match i, hi with
      | 0, hi => simp [encS] at hi; rw [← hi]; exact h1
      | 1, hi => simp [encS] at hi; rw [← hi]; exact h2
      | i + 2, hi => simp [encS] at hi)
  change Calls Tryd.prog 46 _ _ _ at hcon
  change Calls Tryd.prog _ _ _ (fun e w' => e = .returned (.bool (hasB (sig.take n) nm)) ∧ _) at hcon
  generalize hasB (sig.take n) nm = r at hcon ⊢
  have HC := hid hcon
  clear hcon hs hg hv
  go_enter Tryd.func31, Tryd.ntmps31
  go_wp2_with fail
  refine HC.out.mono ?_
  rintro e w' ⟨rfl, hb'⟩
  go_wp2
  go_ret
  exact ⟨rfl, ((Below.refl _ w).alloc (Nat.le_refl _) _).trans (hb'.mono (by simp))⟩

/-- What is wrong with a signature, from a place on. -/
def sigGo (sig : List Sy) : Nat → List Sy → Int
  | _, [] => 0
  | k, s :: r => if symB s.1 then (if s.2 < 0 ∨ 8 < s.2 then 35 else if hasB (sig.take k) s.1 then 36 else sigGo sig (k + 1) r) else 34

def sigE (sig : List Sy) : Int := if 128 < sig.length then 37 else sigGo sig 0 sig

theorem Tabs.below {w w' : World} (h : Tabs w) (hb : Below w.heap.size w w') : Tabs w' := Utf8Tabs_below h hb

set_option maxRecDepth 100000 in
set_option maxHeartbeats 1600000 in
theorem checkSig_any (sv : Value) (sig : List Sy) (w : World) (hs : Sg w sv sig) (hT : Tabs w) :
    Calls Tryd.prog 10 #[sv] w fun e w' => e = .returned (.int .i64 (sigE sig)) ∧ Below w.heap.size w w' := by
  obtain ⟨so, sc, rfl, hso, hsc, _⟩ := Row.flat hs
  unfold maxLen at hsc
  have HS : Hid (Sg w (.slice so sig.length sc) sig) := hs
  have HT : Hid (Tabs w) := hT
  clear hs hT
  go_enter Tryd.func10, Tryd.ntmps10
  by_cases h128 : 128 < sig.length
  · have HR : Hid (sigE sig = 37) := by show _ = _; unfold sigE; rw [if_pos h128]
    go_wp2
    go_ret
    exact ⟨ret1i HR.out.symm, Below.refl _ _⟩
  · have HR : Hid (sigE sig = sigGo sig 0 sig) := by show _ = _; unfold sigE; rw [if_neg h128]
    go_wp2
    go_loopw [10] (fun i wr => ∃ k : Nat, k ≤ sig.length ∧ i = .int .i64 k ∧ sigGo sig 0 sig = sigGo sig k (sig.drop k) ∧ Below w.heap.size w wr) (fun i _ => sig.length - (intOf i).toNat)
    case atStart => exact ⟨0, Nat.zero_le _, rfl, rfl, Below.refl _ _⟩
    case round =>
      obtain ⟨k, hk, rfl, hgo, hbl⟩ := hrel
      have HG : Hid (sigGo sig 0 sig = sigGo sig k (sig.drop k)) := hgo
      clear hgo
      by_cases hlt : k < sig.length
      · have HSr : Hid (Sg wr (.slice so sig.length sc) sig) := HS.out.kp (Kp.of_below hbl)
        have HTr : Hid (Tabs wr) := HT.out.below hbl
        obtain ⟨g, off, s, a, rfl, hm, hc0, hc1, ha1, ha2, hs3⟩ := HSr.out.at hlt
        have HD : Hid (sigE sig = if symB s then (if a < 0 ∨ 8 < a then 35 else if hasB (sig.take k) s then 36 else sigGo sig (k + 1) (sig.drop (k + 1))) else 34) := by
          show _ = _
          rw [HR.out, HG.out, drop_get hm]
          rfl
        clear hm
        go_wp2_with fail
        refine (isSymbolName_any s _ hs3 (HTr.out.below (below_alloc _))).mono ?_
        rintro e w1 ⟨rfl, hb1⟩
        obtain ⟨hd0, hd1, hbl1⟩ := box2 hb1
        have HB : Hid (Below w.heap.size w w1) := below_step hbl hbl1
        have HS1 : Hid (Sg w1 (.slice (some ⟨g, off, none⟩) sig.length sc) sig) := HSr.out.kp (Kp.of_below hbl1)
        clear hb1 hbl1 hbl hc0 hc1
        cases hsy : symB s
        · have HF : Hid (sigE sig = 34) := by show _ = _; rw [HD.out, hsy]; rfl
          go_wp2
          go_ret
          exact ⟨ret1i HF.out.symm, HB.out⟩
        by_cases ha0 : a < 0
        · have HF : Hid (sigE sig = 35) := by show _ = _; rw [HD.out, hsy, if_pos rfl, if_pos (.inl ha0)]
          go_wp2
          go_ret
          exact ⟨ret1i HF.out.symm, HB.out⟩
        by_cases ha8 : 8 < a
        · have HF : Hid (sigE sig = 35) := by show _ = _; rw [HD.out, hsy, if_pos rfl, if_pos (.inr ha8)]
          go_wp2
          go_ret
          exact ⟨ret1i HF.out.symm, HB.out⟩
        have HF : Hid (sigE sig = if hasB (sig.take k) s then 36 else sigGo sig (k + 1) (sig.drop (k + 1))) := by show _ = _; rw [HD.out, hsy, if_pos rfl, if_neg (by omega)]
        clear HD
        obtain ⟨hs, hhs⟩ : ∃ hs, hs = hasB (sig.take k) s := ⟨_, rfl⟩
        have HH : Hid (∀ W, Below w1.heap.size w1 W → Calls Tryd.prog 31 #[.slice (some ⟨g, off, none⟩) k sc, .string s] W fun e w' => e = .returned (.bool hs) ∧ Below W.heap.size W w') :=
          fun W hW => by rw [hhs]; exact hasName_any g off sc k sig s W (HS1.out.kp (Kp.of_below hW)) (by omega) (by omega)
        rw [← hhs] at HF
        clear hhs
        have hksc : k ≤ sc := by omega
        go_wp2_with fail
        refine region_below (by kernel_rfl) (by kernel_rfl) ?_
        (go_big_quiet_want; go_big_quiet_op; go_big_quiet_on)
        (go_big_quiet_want; go_big_quiet_op; go_big_quiet_on)
        go_big_quiet_want
        refine ⟨.slice (some ⟨g, off, none⟩) k sc, fun w' hw' => ?_, ?_⟩
        · unfold Oper.quietAt; go_simp
        simp only [Act.put, List.setIfInBounds_toArray, List.set_cons_zero, List.set_cons_succ]
        go_big_quiet_on
        go_big_quiet_want
        refine ⟨.pointer (some ⟨wr.heap.size, 0, none⟩), fun w' hw' => ?_, ?_⟩
        · unfold Oper.quietAt; go_simp
        simp only [Act.put, List.setIfInBounds_toArray, List.set_cons_zero, List.set_cons_succ]
        go_big_quiet_on
        go_big_quiet_want
        refine ⟨.string s, fun w' hw' => ?_, ?_⟩
        · have hh0 := (Kp.of_below hw').cell _ _ hd0; unfold Oper.quietAt; go_simp
        simp only [Act.put, List.setIfInBounds_toArray, List.set_cons_zero, List.set_cons_succ]
        go_big_quiet_on
        go_big_quiet_want
        refine ⟨.bool hs, fun w' hw' => ?_, ?_⟩
        · unfold Oper.quietAt; go_simp; exact (HH.out w' hw').mono (fun e w2 ⟨he, hb⟩ => ⟨he, below_step hw' hb⟩)
        simp only [Act.put, List.setIfInBounds_toArray, List.set_cons_zero, List.set_cons_succ]
        go_big_quiet_on
        (go_big_quiet_want; go_big_quiet_op; go_big_quiet_on)
        refine wpQuiet_nil ?_
        intro w2 hb2
        have HB2 : Hid (Below w.heap.size w w2) := below_step HB.out hb2
        clear hb2
        clear HH
        cases hs
        · have HN : Hid (sigGo sig 0 sig = sigGo sig (k + 1) (sig.drop (k + 1))) := by show _ = _; rw [← HR.out, HF.out]; rfl
          go_wp2
          go_roundw
          case rel => exact ⟨k + 1, by omega, by go_num, HN.out, HB2.out⟩
          case measure => simp [intOf]; omega
        · have HN : Hid (sigE sig = 36) := by show _ = _; rw [HF.out]; rfl
          go_wp2
          go_ret
          exact ⟨ret1i HN.out.symm, HB2.out⟩
      · have hke : k = sig.length := by omega
        subst hke
        have HF : Hid (sigE sig = 0) := by show _ = _; rw [HR.out, HG.out, List.drop_length]; rfl
        go_wp2
        go_ret
        exact ⟨ret1i HF.out.symm, hbl⟩

end Go.Proofs.YtjcgngfidnechaaDoor
