/- What Check answers, of a row and of binds. -/
import Derived.Test.YtifpanfgojfbkaaDoorTSig
import Derived.Test.YtifpanfgojfbkaaDoorTShift
namespace Go.Proofs.YtifpanfgojfbkaaDoor
open Go.RowKit Go.Maps Go.BigFrame

theorem sigGo_ok : ∀ (sig : List Sy) (k : Nat) (r : List Sy), sigGo sig k r = 0 → ArOk r
  | _, _, [] => fun _ s hs => by cases hs
  | sig, k, s :: r => fun h => by
    unfold sigGo at h
    split at h
    · split at h
      · cases h
      · rename_i h2
        split at h
        · cases h
        · intro x hx
          cases hx with
          | head => omega
          | tail _ hx => exact sigGo_ok sig (k + 1) r h x hx
    · cases h

theorem sigE_ok {sig : List Sy} (h : sigE sig = 0) : ArOk sig := by
  unfold sigE at h
  split at h
  · cases h
  · exact sigGo_ok sig 0 sig h

theorem sigGo_range : ∀ (sig : List Sy) (k : Nat) (r : List Sy), 0 ≤ sigGo sig k r ∧ sigGo sig k r ≤ 37
  | _, _, [] => by unfold sigGo; omega
  | sig, k, s :: r => by
    have := sigGo_range sig (k + 1) r
    unfold sigGo
    split
    · split
      · omega
      · split <;> omega
    · omega

def termE (sig : List Sy) (t : List Int) : Int := if sigE sig = 0 then rowE sig t else sigE sig

set_option maxRecDepth 100000 in
set_option maxHeartbeats 800000 in
theorem check_any (sv v : Value) (sig : List Sy) (t : List Int) (w : World) (hs : Sg w sv sig) (h : Is w v t) (hT : Tabs w) (hb : t.length * 8 ≤ 140737488351232) :
    Calls Tryd.prog 29 #[sv, v] w fun e w' => e = .returned (.int .i64 (termE sig t)) ∧ Below w.heap.size w w' := by
  have HS : Hid (Sg w sv sig) := hs
  have HI : Hid (Is w v t) := h
  have HT : Hid (Tabs w) := hT
  clear hs h hT
  go_enter Tryd.func29, Tryd.ntmps29
  go_wp2_with fail
  refine (checkSig_any sv sig w HS.out HT.out).mono ?_
  rintro e w1 ⟨rfl, hb1⟩
  have HB : Hid (Below w.heap.size w w1) := hb1
  have HS1 : Hid (Sg w1 sv sig) := HS.out.kp (Kp.of_below hb1)
  have HI1 : Hid (Is w1 v t) := HI.out.kp (Kp.of_below hb1)
  clear hb1
  by_cases he : sigE sig = 0
  · have HA : Hid (ArOk sig) := sigE_ok he
    have HF : Hid (termE sig t = rowE sig t) := by show _ = _; unfold termE; rw [if_pos he]
    rw [he]
    clear he
    go_wp2_with fail
    refine (checkRow_any sv v sig t w1 HS1.out HI1.out HA.out hb).mono ?_
    rintro e w9 ⟨rfl, hw9⟩
    have hw8 := hw9.symm
    subst hw8
    clear hw9
    go_wp2
    go_ret
    exact ⟨ret1i HF.out.symm, HB.out⟩
  · have HF : Hid (termE sig t = sigE sig) := by show _ = _; unfold termE; rw [if_neg he]
    generalize sigE sig = E at he HF ⊢
    have heb : (E != 0) = true := by simpa using he
    go_wp2
    go_ret
    exact ⟨ret1i HF.out.symm, HB.out⟩

/-- A bind: a variable's number, and a row. -/
abbrev Bd := Int × List Int

def EB (w : World) (g o : Nat) (b : Bd) : Prop := -9223372036854775808 ≤ b.1 ∧ b.1 ≤ 9223372036854775807 ∧ b.2.length * 8 ≤ 140737488351232 ∧ w.cell? ⟨g, o, none⟩ = some (.int .i64 b.1) ∧ ∃ v, w.cell? ⟨g, o + 1, none⟩ = some v ∧ Is w v b.2

theorem EB.kp {w w' : World} (hk : Kp w w') (g o : Nat) (b : Bd) (h : EB w g o b) : EB w' g o b := by
  obtain ⟨h1, h2, h3, h4, v, h5, h6⟩ := h
  exact ⟨h1, h2, h3, hk.cell _ _ h4, v, hk.cell _ _ h5, h6.kp hk⟩

def Bs (w : World) (v : Value) (s : List Bd) : Prop := Row EB 2 w v s
theorem Bs.kp {w w' : World} {v : Value} {s : List Bd} (h : Bs w v s) (hk : Kp w w') : Bs w' v s := Row.imp h hk.size (EB.kp hk)

theorem Bs.at {w : World} {ao : Option Addr} {n cap : Nat} {s : List Bd} (h : Bs w (.slice ao n cap) s) {k : Nat} (hk : k < s.length) :
    ∃ g off x a t c, ao = some ⟨g, off, none⟩ ∧ s[k]? = some (x, t) ∧ w.cell? ⟨g, off + k * 2, none⟩ = some (.int .i64 x) ∧ w.cell? ⟨g, off + k * 2 + 1, none⟩ = some (.slice a t.length c) ∧ Is w (.slice a t.length c) t ∧ -9223372036854775808 ≤ x ∧ x ≤ 9223372036854775807 ∧ t.length * 8 ≤ 140737488351232 := by
  obtain ⟨ao', cap', hv, _, _, hx⟩ := Row.flat h
  simp only [Value.slice.injEq] at hv
  obtain ⟨rfl, rfl, rfl⟩ := hv
  obtain ⟨g, off, ⟨x, t⟩, rfl, hm, h1, h2, h3, h4, v, h5, h6⟩ := hx k hk
  obtain ⟨a, c, rfl, _⟩ := Row.flat h6
  exact ⟨g, off, x, a, t, c, rfl, hm, h4, h5, h6, h1, h2, h3⟩

/-- What is wrong with binds, from a place on. -/
def bindGo (sig : List Sy) : Option Int → List Bd → Int
  | _, [] => 0
  | p, b :: r => if isVarB b.1 then (if p.any (fun y => decide (b.1 ≤ y)) then 41 else if termE sig b.2 = 0 then bindGo sig (some b.1) r else termE sig b.2) else 40

def bindE (sig : List Sy) (s : List Bd) : Int := if sigE sig = 0 then bindGo sig none s else sigE sig

/-- The number of the bind ahead of a place. -/
def ahead (s : List Bd) : Nat → Option Int
  | 0 => none
  | k + 1 => (s[k]?).map (·.1)

set_option maxRecDepth 100000 in
set_option maxHeartbeats 1600000 in
theorem substCheck_any (sv bv : Value) (sig : List Sy) (s : List Bd) (w : World) (hs : Sg w sv sig) (h : Bs w bv s) (hT : Tabs w) :
    Calls Tryd.prog 11 #[sv, bv] w fun e w' => e = .returned (.int .i64 (bindE sig s)) ∧ Below w.heap.size w w' := by
  obtain ⟨so, sc, rfl, hso, hsc, _⟩ := Row.flat h
  unfold maxLen at hsc
  have HS : Hid (Sg w sv sig) := hs
  have HI : Hid (Bs w (.slice so s.length sc) s) := h
  have HT : Hid (Tabs w) := hT
  clear hs h hT
  go_enter Tryd.func11, Tryd.ntmps11
  go_wp2_with fail
  refine (checkSig_any sv sig w HS.out HT.out).mono ?_
  rintro e w1 ⟨rfl, hb1⟩
  have HB : Hid (Below w.heap.size w w1) := hb1
  clear hb1
  by_cases he : sigE sig = 0
  · have HF : Hid (bindE sig s = bindGo sig none s) := by show _ = _; unfold bindE; rw [if_pos he]
    rw [he]
    clear he
    go_wp2
    go_loopw [16] (fun i wr => ∃ k : Nat, k ≤ s.length ∧ i = .int .i64 k ∧ bindGo sig none s = bindGo sig (ahead s k) (s.drop k) ∧ Below w.heap.size w wr) (fun i _ => s.length - (intOf i).toNat)
    case atStart => exact ⟨0, Nat.zero_le _, rfl, rfl, HB.out⟩
    case round =>
      obtain ⟨k, hk, rfl, hgo, hbl⟩ := hrel
      have HG : Hid (bindE sig s = bindGo sig (ahead s k) (s.drop k)) := HF.out.trans hgo
      clear hgo
      by_cases hlt : k < s.length
      · have HSr : Hid (Sg wr sv sig) := HS.out.kp (Kp.of_below hbl)
        have HIr : Hid (Bs wr (.slice so s.length sc) s) := HI.out.kp (Kp.of_below hbl)
        have HTr : Hid (Tabs wr) := HT.out.below hbl
        obtain ⟨g, off, x, ba, t, bc, rfl, hm, hc0, hc1, hit, hx1, hx2, hx3⟩ := HIr.out.at hlt
        have HIt : Hid (Is wr (.slice ba t.length bc) t) := hit
        have HD : Hid (bindE sig s = if isVarB x then (if (ahead s k).any (fun y => decide (x ≤ y)) then 41 else if termE sig t = 0 then bindGo sig (some x) (s.drop (k + 1)) else termE sig t) else 40) := by
          show _ = _
          rw [HG.out, drop_get hm]
          rfl
        have HN : Hid (ahead s (k + 1) = some x) := by show (s[k]?).map (·.1) = _; rw [hm]; rfl
        have HBb : Hid (Below w.heap.size w (wr.alloc (.cells #[.int .i64 x, .slice ba t.length bc] 43))) := below_step hbl (below_alloc _)
        clear hm hit HG
        go_wp2_with fail
        refine (isVariable_any x _).mono ?_
        rintro e wb ⟨rfl, hw9⟩
        obtain ⟨hd0, hd1, hbw⟩ := box2 (w := wr) (x := .int .i64 x) (y := .slice ba t.length bc) (t := 43) (Below.refl _ _)
        rw [← hw9] at hd0 hd1 hbw HBb
        have HW : Hid (Below wr.heap.size wr wb) := hbw
        clear hw9 hbw hc0 hc1
        cases hv : isVarB x
        · have HE : Hid (bindE sig s = 40) := by show _ = _; rw [HD.out, hv]; rfl
          go_wp2
          go_ret
          exact ⟨ret1i HE.out.symm, HBb.out⟩
        have HD2 : Hid (bindE sig s = if (ahead s k).any (fun y => decide (x ≤ y)) then 41 else if termE sig t = 0 then bindGo sig (some x) (s.drop (k + 1)) else termE sig t) := by
          show _ = _; rw [HD.out, hv, if_pos rfl]
        clear HD hv
        by_cases hk0 : k = 0
        · subst hk0
          have HD3 : Hid (bindE sig s = if termE sig t = 0 then bindGo sig (some x) (s.drop 1) else termE sig t) := by show _ = _; rw [HD2.out]; rfl
          clear HD2
          go_wp2
          go_quiet (fail)
          have HBq : Hid (Below wr.heap.size wr (wb.drewN nq)) := below_drewN HW.out _
          go_wp2_with fail
          refine (check_any sv _ sig t _ (HSr.out.kp (Kp.of_below HBq.out)) (HIt.out.kp (Kp.of_below HBq.out)) (HTr.out.below HBq.out) hx3).mono ?_
          rintro e w2 ⟨rfl, hb2⟩
          have HB2 : Hid (Below w.heap.size w w2) := below_step hbl (below_step HBq.out hb2)
          clear hb2
          by_cases hte : termE sig t = 0
          · have HE : Hid (bindGo sig none s = bindGo sig (ahead s (0 + 1)) (s.drop (0 + 1))) := by show _ = _; rw [← HF.out, HD3.out, if_pos hte, HN.out]
            rw [hte]
            clear hte
            go_wp2
            go_roundw
            case rel => exact ⟨0 + 1, by omega, by go_num, HE.out, HB2.out⟩
            case measure => simp [intOf]; omega
          · have HE : Hid (bindE sig s = termE sig t) := by show _ = _; rw [HD3.out, if_neg hte]
            generalize termE sig t = E at hte HE ⊢
            have heb : (E != 0) = true := by simpa using hte
            go_wp2
            go_ret
            exact ⟨ret1i HE.out.symm, HB2.out⟩
        · obtain ⟨j, rfl⟩ : ∃ j, k = j + 1 := ⟨k - 1, by omega⟩
          clear hk0
          obtain ⟨g', off', y, ya, u, yc, hq, hm2, he0, he1, _, hy1, hy2, _⟩ := HIr.out.at (k := j) (by omega)
          obtain ⟨rfl, rfl⟩ : g = g' ∧ off = off' := by simpa using hq
          have HA : Hid (ahead s (j + 1) = some y) := by show (s[j]?).map (·.1) = _; rw [hm2]; rfl
          have hg0 : (0 : Int) < (j : Int) + 1 := by omega
          have hjl : j < s.length := by omega
          have hjw : IntKind.i64.wrap (j : Int) = (j : Int) := IntWalk.i64_in _ ⟨by omega, by omega⟩
          have hf0 := (Kp.of_below HW.out).cell _ _ he0
          clear hm2 hq he1 he0
          by_cases hxy : x ≤ y
          · have HE : Hid (bindE sig s = 41) := by show _ = _; rw [HD2.out, HA.out]; simp [hxy]
            go_wp2
            go_quiet (fail)
            go_wp2
            go_ret
            exact ⟨ret1i HE.out.symm, below_drewN HBb.out _⟩
          · have HD3 : Hid (bindE sig s = if termE sig t = 0 then bindGo sig (some x) (s.drop (j + 1 + 1)) else termE sig t) := by show _ = _; rw [HD2.out, HA.out]; simp [hxy]
            clear HD2
            go_wp2
            go_quiet (fail)
            have HBq : Hid (Below wr.heap.size wr (wb.drewN nq)) := below_drewN HW.out _
            go_wp2_with fail
            refine (check_any sv _ sig t _ (HSr.out.kp (Kp.of_below HBq.out)) (HIt.out.kp (Kp.of_below HBq.out)) (HTr.out.below HBq.out) hx3).mono ?_
            rintro e w2 ⟨rfl, hb2⟩
            have HB2 : Hid (Below w.heap.size w w2) := below_step hbl (below_step HBq.out hb2)
            clear hb2
            by_cases hte : termE sig t = 0
            · have HE : Hid (bindGo sig none s = bindGo sig (ahead s (j + 1 + 1)) (s.drop (j + 1 + 1))) := by show _ = _; rw [← HF.out, HD3.out, if_pos hte, HN.out]
              rw [hte]
              clear hte
              go_wp2
              go_roundw
              case rel => exact ⟨j + 1 + 1, by omega, by go_num, HE.out, HB2.out⟩
              case measure => simp [intOf]; omega
            · have HE : Hid (bindE sig s = termE sig t) := by show _ = _; rw [HD3.out, if_neg hte]
              generalize termE sig t = E at hte HE ⊢
              have heb : (E != 0) = true := by simpa using hte
              go_wp2
              go_ret
              exact ⟨ret1i HE.out.symm, HB2.out⟩
      · have hke : k = s.length := by omega
        subst hke
        have HE : Hid (bindE sig s = 0) := by show _ = _; rw [HG.out, List.drop_length]; rfl
        go_wp2
        go_ret
        exact ⟨ret1i HE.out.symm, hbl⟩
  · have HF : Hid (bindE sig s = sigE sig) := by show _ = _; unfold bindE; rw [if_neg he]
    generalize sigE sig = E at he HF ⊢
    have heb : (E != 0) = true := by simpa using he
    go_wp2
    go_ret
    exact ⟨ret1i HF.out.symm, HB.out⟩

end Go.Proofs.YtifpanfgojfbkaaDoor
