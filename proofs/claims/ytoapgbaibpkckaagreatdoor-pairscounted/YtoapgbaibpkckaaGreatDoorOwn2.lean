/- Texts of the proof, one behind the other. -/
import Derived.Test.YtoapgbaibpkckaaGreatDoorOwn1
import Derived.Shelf.Strings.Prefix
import Derived.Maps.Own
import Derived.Maps.OwnOps
import Derived.Maps.OwnSet
import Derived.Shelf.Abstract
/- What Shift answers. -/
namespace Go.Proofs.YtoapgbaibpkckaaGreatDoor
open Go.RowKit Go.Maps

def isVarB (n : Int) : Bool := decide (0 ≤ n) && decide (n < 1048576)

theorem isVariable_any (n : Int) (w : World) : Calls Tryz.prog 93 #[.int .i64 n] w fun e w' => e = .returned (.bool (isVarB n)) ∧ w' = w := by
  go_enter Tryz.func93, Tryz.ntmps93
  by_cases h : 0 ≤ n
  · have HF : Hid (isVarB n = decide (n < 1048576)) := by show _ = _; unfold isVarB; rw [decide_eq_true h]; rfl
    go_wp2
    go_ret
    exact ⟨ret1b HF.out.symm, rfl⟩
  · have HF : Hid (isVarB n = false) := by show _ = _; unfold isVarB; rw [decide_eq_false h]; rfl
    go_wp2
    go_ret
    exact ⟨ret1b HF.out.symm, rfl⟩

/-- The variables of a row numbered by a function with a state. -/
def renG {σ : Type} (φ : σ → Int → Int × σ) : σ → List Int → List Int × σ
  | s, [] => ([], s)
  | s, c :: r => if c < 0 then (((-1 - (φ s (-1 - c)).1) :: (renG φ (φ s (-1 - c)).2 r).1), (renG φ (φ s (-1 - c)).2 r).2) else (c :: (renG φ s r).1, (renG φ s r).2)

theorem set_midI {α : Type} (a : List α) (x y : α) (b : List α) (k : Nat) (h : a.length = k) : (a ++ x :: b).set k y = a ++ y :: b := by
  subst h
  simp

theorem grown_set {w wr : World} {r : Option Nat} {g : Nat} (h : w.grownBy wr r) (hg : w.heap.size ≤ g) (k : Nat) (u : Value) : w.grownBy (wr.setCell ⟨g, k, none⟩ u) r :=
  ⟨h.os, h.tape, h.output, by simpa [World.setCell] using h.size, fun j hj hne => by
    rw [heap_setCell_other _ _ _ _ (show j ≠ g by omega)]
    exact h.block j hj hne⟩

theorem set_grown (w : World) (g k : Nat) (u : Value) : w.grownBy (w.setCell ⟨g, k, none⟩ u) (some g) :=
  ⟨rfl, rfl, rfl, by simp [World.setCell], fun j _ hne => heap_setCell_other _ _ _ _ (fun e => hne (by rw [e]))⟩

set_option maxRecDepth 100000 in
set_option maxHeartbeats 1600000 in
theorem renumber_any {σ : Type} (St : World → σ → Prop) (φ : σ → Int → Int × σ) (Ok : Int → Prop) (b : Nat) (g : FuncId) (cv v : Value) (t : List Int) (s0 : σ) (w : World) (sz : σ → Nat) (hszs : ∀ s n, sz (φ s n).2 ≤ sz s + 1)
    (hb : b < w.heap.size) (hst : St w s0) (hlen : t.length * 8 ≤ 140737488351232)
    (hkeep : ∀ w1 w2 s r, St w1 s → w1.grownBy w2 r → r ≠ some b → (∀ j, r = some j → w.heap.size ≤ j) → b < w1.heap.size → St w2 s)
    (hread : ∀ w', w.grownBy w' (some b) → Is w' v t)
    (hcall : ∀ (n : Int) (s : σ) (w1 : World), Ok n → St w1 s → sz s < sz s0 + t.length → Calls Tryz.prog g #[.int .i64 n, cv] w1 fun e w2 => e = .returned (.int .i64 (φ s n).1) ∧ St w2 (φ s n).2 ∧ w1.grownBy w2 (some b))
    (hrng : ∀ s n w1, Ok n → St w1 s → sz s < sz s0 + t.length → 0 ≤ (φ s n).1 ∧ (φ s n).1 ≤ 9223372036854775807) (hok : ∀ c ∈ t, c < 0 → Ok (-1 - c)) (eg : ∀ args w, (callFunc g args).run Tryz.prog w = .ok (.enter g args) w) :
    Calls Tryz.prog 94 #[v, .func (.func g) #[] #[cv]] w fun e w' => ∃ v', e = .returned v' ∧ OwI w' w.heap.size v' (renG φ s0 t).1 ∧ St w' (renG φ s0 t).2 ∧ w.grownBy w' (some b) := by
  obtain ⟨i1, hi1, hy0, hy1, hy2⟩ := info_parts info_int
  obtain ⟨ao, cap, rfl, hao, hca, q0⟩ := Row.flat (hread w (World.grownBy.refl _ _))
  unfold maxLen at hca
  have HR : Hid (∀ w', w.grownBy w' (some b) → Is w' (.slice ao t.length cap) t) := hread
  have HK : Hid (∀ w1 w2 s r, St w1 s → w1.grownBy w2 r → r ≠ some b → (∀ j, r = some j → w.heap.size ≤ j) → b < w1.heap.size → St w2 s) := hkeep
  have HC : Hid (∀ (n : Int) (s : σ) (w1 : World), Ok n → St w1 s → sz s < sz s0 + t.length → Calls Tryz.prog g #[.int .i64 n, cv] w1 fun e w2 => e = .returned (.int .i64 (φ s n).1) ∧ St w2 (φ s n).2 ∧ w1.grownBy w2 (some b)) := hcall
  have HRn : Hid (∀ s n w1, Ok n → St w1 s → sz s < sz s0 + t.length → 0 ≤ (φ s n).1 ∧ (φ s n).1 ≤ 9223372036854775807) := hrng
  have HOk : Hid (∀ c ∈ t, c < 0 → Ok (-1 - c)) := hok
  have HSt : Hid (St w s0) := hst
  have HSz : Hid (∀ s n, sz (φ s n).2 ≤ sz s + 1) := hszs
  clear hst hkeep hread hcall hrng hok q0 hszs
  go_enter Tryz.func94, Tryz.ntmps94
  go_wp2_with (first
    | (at_make; refine wpList_make_full _ rfl _ _ 36 rfl w.heap.size 3 i1 (.int .i64 0) 1 under_ints hi1 hy0 hy1 .i64 .i64 _ _ t.length rfl rfl (by omega) (by omega) (by rw [hy2]; omega) (by unfold maxLen; omega) (Nat.le_refl _) ?_; intro w0 hown0 hgrow0))
  have hb0' : Below w.heap.size w w0 := (Below.refl _ _).grown hgrow0 (Nat.le_refl _) (by intro k hk; cases hk)
  have HO : Hid (OwI w0 w.heap.size (.slice (some ⟨w.heap.size, 0, none⟩) t.length t.length) (List.replicate t.length 0)) := OwI.made hown0
  have HB0 : Hid (Below w.heap.size w w0) := hb0'
  have HS0 : Hid (St w0 s0) := HK.out _ _ _ none HSt.out (grown_of_below hb0' _) (by simp) (by simp) hb
  clear hown0 hgrow0 hb0'
  go_loopw [13] (fun i wr => ∃ (k : Nat) (Z : List Int) (s : σ), k ≤ t.length ∧ i = .int .i64 k ∧ Z.length = k ∧ renG φ s0 t = (Z ++ (renG φ s (t.drop k)).1, (renG φ s (t.drop k)).2) ∧ OwI wr w.heap.size (.slice (some ⟨w.heap.size, 0, none⟩) t.length t.length) (Z ++ List.replicate (t.length - k) 0) ∧ St wr s ∧ w.grownBy wr (some b) ∧ sz s ≤ sz s0 + k) (fun i _ => t.length - (intOf i).toNat)
  case atStart => exact ⟨0, [], s0, Nat.zero_le _, rfl, rfl, by simp, by simpa using HO.out, HS0.out, grown_of_below HB0.out _, by omega⟩
  case round =>
    obtain ⟨k, Z, s, hk, rfl, hZ, hren, how, hss, hgr, hszk⟩ := hrel
    have HZ : Hid (Z.length = k) := hZ
    have HRen : Hid (renG φ s0 t = (Z ++ (renG φ s (t.drop k)).1, (renG φ s (t.drop k)).2)) := hren
    have HOw : Hid (OwI wr w.heap.size (.slice (some ⟨w.heap.size, 0, none⟩) t.length t.length) (Z ++ List.replicate (t.length - k) 0)) := how
    have HSs : Hid (St wr s) := hss
    have HG : Hid (w.grownBy wr (some b)) := hgr
    have hsz := hgr.size
    clear hZ hren how hss hgr HO HB0 HS0
    by_cases hlt : k < t.length
    · obtain ⟨g2, off, c, rfl, hx1, hx2, hx3, hx4⟩ := (HR.out wr HG.out).at hlt
      have HDr : Hid (t.drop k = c :: t.drop (k + 1)) := drop_get hx1
      have HMem : Hid (c ∈ t) := List.mem_of_getElem? hx1
      have hw := HOw.out
      rw [show t.length - k = (t.length - (k + 1)) + 1 by omega, List.replicate_succ] at hw
      obtain ⟨hc1, hf1⟩ := hw.at (k := k) (x := 0) (by rw [List.getElem?_append_right (by rw [HZ.out]; exact Nat.le_refl _), HZ.out, Nat.sub_self]; rfl)
      have hq := (hw.put (Below.refl w.heap.size wr) (Nat.le_refl _) (by simp; have := HZ.out; omega) (k := k) (z := c) ⟨hx3, hx4⟩ (ys := Z ++ c :: List.replicate (t.length - (k + 1)) 0) (by rw [set_midI _ _ _ _ _ HZ.out])).1
      have HQ : Hid (OwI (wr.setCell ⟨w.heap.size, k, none⟩ (.int .i64 c)) w.heap.size (.slice (some ⟨w.heap.size, 0, none⟩) t.length t.length) (Z ++ c :: List.replicate (t.length - (k + 1)) 0)) := hq
      have HS1 : Hid (St (wr.setCell ⟨w.heap.size, k, none⟩ (.int .i64 c)) s) := HK.out _ _ _ _ HSs.out (set_grown _ _ _ _) (by simp; omega) (by simp) (by omega)
      have HG1 : Hid (w.grownBy (wr.setCell ⟨w.heap.size, k, none⟩ (.int .i64 c)) (some b)) := grown_set HG.out (Nat.le_refl _) _ _
      clear hq hw hx1 HSs HOw
      by_cases hc0 : c < 0
      · have hwr : IntKind.i64.wrap (-1 - c) = -1 - c := IntWalk.i64_in _ ⟨by omega, by omega⟩
        have HOkc : Hid (Ok (-1 - c)) := HOk.out c HMem.out hc0
        go_wp2_with fail
        refine (HC.out (-1 - c) s _ HOkc.out HS1.out (by omega)).mono ?_
        rintro e w2 ⟨rfl, hs2, hg2⟩
        have hr := HRn.out s (-1 - c) _ HOkc.out HS1.out (by omega)
        obtain ⟨n, hn⟩ : ∃ n, n = (φ s (-1 - c)).1 := ⟨_, rfl⟩
        have HNe : Hid (n = (φ s (-1 - c)).1) := hn
        rw [← hn] at hr ⊢
        have hwn : IntKind.i64.wrap (-1 - n) = -1 - n := IntWalk.i64_in _ ⟨by omega, by omega⟩
        have HO2 : Hid (OwI w2 w.heap.size (.slice (some ⟨w.heap.size, 0, none⟩) t.length t.length) (Z ++ c :: List.replicate (t.length - (k + 1)) 0)) := HQ.out.kept hg2 (.inr (by simp [Value.ownBlock]; omega))
        obtain ⟨hc3, hf3⟩ := HO2.out.at (k := k) (x := c) (by rw [List.getElem?_append_right (by rw [HZ.out]; exact Nat.le_refl _), HZ.out, Nat.sub_self]; rfl)
        have hq2 := (HO2.out.put (Below.refl w.heap.size w2) (Nat.le_refl _) (by simp; have := HZ.out; omega) (k := k) (z := -1 - n) ⟨by omega, by omega⟩ (ys := Z ++ (-1 - n) :: List.replicate (t.length - (k + 1)) 0) (by rw [set_midI _ _ _ _ _ HZ.out])).1
        have HQ2 : Hid (OwI (w2.setCell ⟨w.heap.size, k, none⟩ (.int .i64 (-1 - n))) w.heap.size (.slice (some ⟨w.heap.size, 0, none⟩) t.length t.length) (Z ++ (-1 - n) :: List.replicate (t.length - (k + 1)) 0)) := hq2
        have hsz2 := hg2.size
        simp [World.setCell] at hsz2
        have HS2 : Hid (St (w2.setCell ⟨w.heap.size, k, none⟩ (.int .i64 (-1 - n))) (φ s (-1 - c)).2) := HK.out _ _ _ _ hs2 (set_grown _ _ _ _) (by simp; omega) (by simp) (by omega)
        have HG2 : Hid (w.grownBy (w2.setCell ⟨w.heap.size, k, none⟩ (.int .i64 (-1 - n))) (some b)) := grown_set (grown_trans HG1.out hg2) (Nat.le_refl _) _ _
        have HN : Hid (renG φ s0 t = ((Z ++ [-1 - n]) ++ (renG φ (φ s (-1 - c)).2 (t.drop (k + 1))).1, (renG φ (φ s (-1 - c)).2 (t.drop (k + 1))).2)) := by
          show _ = _
          rw [HRen.out, HDr.out, renG, if_pos hc0, ← HNe.out]
          simp
        clear hq2 hs2 hg2 hn
        go_wp2
        go_roundw
        case rel => exact ⟨k + 1, Z ++ [-1 - n], (φ s (-1 - c)).2, by omega, by go_num, by rw [List.length_append, HZ.out]; rfl, HN.out, by simpa using HQ2.out, HS2.out, HG2.out, by have := HSz.out s (-1 - c); omega⟩
        case measure => simp [intOf]; omega
      · have HN : Hid (renG φ s0 t = ((Z ++ [c]) ++ (renG φ s (t.drop (k + 1))).1, (renG φ s (t.drop (k + 1))).2)) := by
          show _ = _
          rw [HRen.out, HDr.out, renG, if_neg hc0]
          simp
        go_wp2
        go_roundw
        case rel => exact ⟨k + 1, Z ++ [c], s, by omega, by go_num, by rw [List.length_append, HZ.out]; rfl, HN.out, by simpa using HQ.out, HS1.out, HG1.out, by omega⟩
        case measure => simp [intOf]; omega
    · have hke : k = t.length := by omega
      have HF : Hid (renG φ s0 t = (Z, s)) := by
        show _ = _
        rw [HRen.out, List.drop_of_length_le (by omega)]
        simp [renG]
      have HOf : Hid (OwI wr w.heap.size (.slice (some ⟨w.heap.size, 0, none⟩) t.length t.length) Z) := by
        have := HOw.out
        rw [show t.length - k = 0 by omega, List.replicate_zero, List.append_nil] at this
        exact this
      go_wp2
      go_ret
      exact ⟨_, rfl, by rw [HF.out]; exact HOf.out, by rw [HF.out]; exact HSs.out, HG.out⟩

end Go.Proofs.YtoapgbaibpkckaaGreatDoor

/- What Check answers, of a row and of binds. -/
namespace Go.Proofs.YtoapgbaibpkckaaGreatDoor
open Go.RowKit Go.Maps Go.BigFrame

theorem sigGo_ok : ∀ (sig : List Sy) (k : Nat) (r : List Sy), sigGo sig k r = 0 → ArOk r
  | _, _, [] => fun _ s hs => by cases hs
  | sig, k, s :: r => fun h => by
    unfold sigGo at h
    split at h
    · split at h
      · cases h
      · rename_i h2
        split at h
        · cases h
        · intro x hx
          cases hx with
          | head => omega
          | tail _ hx => exact sigGo_ok sig (k + 1) r h x hx
    · cases h

theorem sigE_ok {sig : List Sy} (h : sigE sig = 0) : ArOk sig := by
  unfold sigE at h
  split at h
  · cases h
  · exact sigGo_ok sig 0 sig h

def termE (sig : List Sy) (t : List Int) : Int := if sigE sig = 0 then rowE sig t else sigE sig

set_option maxRecDepth 100000 in
set_option maxHeartbeats 800000 in
theorem check_any (sv v : Value) (sig : List Sy) (t : List Int) (w : World) (hs : Sg w sv sig) (h : Is w v t) (hT : Tabs w) (hb : t.length * 8 ≤ 140737488351232) :
    Calls Tryz.prog 80 #[sv, v] w fun e w' => e = .returned (.int .i64 (termE sig t)) ∧ Below w.heap.size w w' := by
  have HS : Hid (Sg w sv sig) := hs
  have HI : Hid (Is w v t) := h
  have HT : Hid (Tabs w) := hT
  clear hs h hT
  go_enter Tryz.func80, Tryz.ntmps80
  go_wp2_with fail
  refine (checkSig_any sv sig w HS.out HT.out).mono ?_
  rintro e w1 ⟨rfl, hb1⟩
  have HB : Hid (Below w.heap.size w w1) := hb1
  have HS1 : Hid (Sg w1 sv sig) := HS.out.kp (Kp.of_below hb1)
  have HI1 : Hid (Is w1 v t) := HI.out.kp (Kp.of_below hb1)
  clear hb1
  by_cases he : sigE sig = 0
  · have HA : Hid (ArOk sig) := sigE_ok he
    have HF : Hid (termE sig t = rowE sig t) := by show _ = _; unfold termE; rw [if_pos he]
    rw [he]
    clear he
    go_wp2_with fail
    refine (checkRow_any sv v sig t w1 HS1.out HI1.out HA.out hb).mono ?_
    rintro e w9 ⟨rfl, hw9⟩
    have hw8 := hw9.symm
    subst hw8
    clear hw9
    go_wp2
    go_ret
    exact ⟨ret1i HF.out.symm, HB.out⟩
  · have HF : Hid (termE sig t = sigE sig) := by show _ = _; unfold termE; rw [if_neg he]
    generalize sigE sig = E at he HF ⊢
    have heb : (E != 0) = true := by simpa using he
    go_wp2
    go_ret
    exact ⟨ret1i HF.out.symm, HB.out⟩

/-- A bind: a variable's number, and a row. -/
abbrev Bd := Int × List Int

def EB (w : World) (g o : Nat) (b : Bd) : Prop := -9223372036854775808 ≤ b.1 ∧ b.1 ≤ 9223372036854775807 ∧ b.2.length * 8 ≤ 140737488351232 ∧ w.cell? ⟨g, o, none⟩ = some (.int .i64 b.1) ∧ ∃ v, w.cell? ⟨g, o + 1, none⟩ = some v ∧ Is w v b.2

theorem EB.kp {w w' : World} (hk : Kp w w') (g o : Nat) (b : Bd) (h : EB w g o b) : EB w' g o b := by
  obtain ⟨h1, h2, h3, h4, v, h5, h6⟩ := h
  exact ⟨h1, h2, h3, hk.cell _ _ h4, v, hk.cell _ _ h5, h6.kp hk⟩

def Bs (w : World) (v : Value) (s : List Bd) : Prop := Row EB 2 w v s
theorem Bs.kp {w w' : World} {v : Value} {s : List Bd} (h : Bs w v s) (hk : Kp w w') : Bs w' v s := Row.imp h hk.size (EB.kp hk)

/-- The number of the bind ahead of a place. -/
def ahead (s : List Bd) : Nat → Option Int
  | 0 => none
  | k + 1 => (s[k]?).map (·.1)

end Go.Proofs.YtoapgbaibpkckaaGreatDoor

/- What Check of package system asks ahead of the rules. -/
namespace Go.Proofs
open Go.Shelf Go.RowKit Go.Lib

def Tryz.sufLay_ren : Go.Shelf.Ren := ⟨fun | 100 => 105 | 207 => 126 | n => n, fun | 9 => 9 | 4 => 4 | 3 => 3 | n => n, fun | n => n⟩
theorem Tryz.sufLay : Go.Proofs.Lays.n100 Tryz.prog Tryz.sufLay_ren := {
  mixed := by kernel_rfl
  f100 := Tryz.func105.trans (congrArg some (by kernel_rfl))
  f207 := Tryz.func126.trans (congrArg some (by kernel_rfl))
  t3 := Tryz.underlying3
  a3 := Tryz.isAgg3
  z3 := Tryz.sizeOf3
  v3 := Tryz.zeroValue3
  t4 := Tryz.underlying4
  a4 := Tryz.isAgg4
  z4 := Tryz.sizeOf4
  v4 := Tryz.zeroValue4
  t9 := Tryz.underlying9
  a9 := Tryz.isAgg9
  z9 := Tryz.sizeOf9
  v9 := Tryz.zeroValue9 }

end Go.Proofs

namespace Go.Proofs.YtoapgbaibpkckaaGreatDoor
open Go.RowKit Go.Maps Go.BigFrame

/-- Whether a name ends with a mark. -/
def sufB (s : ByteArray) : Bool := Lib.hasSuffix s.data.toList "#".toUTF8.data.toList

set_option maxRecDepth 100000 in
theorem isMarked_any (s : ByteArray) (a : Int) (w : World) (hs : s.size ≤ maxLen) :
    Calls Tryz.prog 79 #[.agg #[.string s, .int .i64 a]] w fun e w' => e = .returned (.bool (sufB s)) ∧ Below w.heap.size w w' := by
  have cT : ∀ W, Calls Tryz.prog 105 #[.string s, .string "#".toUTF8] W fun e w' => e = .returned (.bool (sufB s)) ∧ w' = W := fun W => Any.strings_HasSuffix Tryz.sufLay s "#".toUTF8 W hs
  have HT := hid cT
  clear cT
  generalize sufB s = B at HT ⊢
  go_enter Tryz.func79, Tryz.ntmps79
  go_wp2_with fail
  refine (HT.out _).mono ?_
  rintro e w9 ⟨rfl, hw9⟩
  have hw8 := hw9.symm
  subst hw8
  clear hw9
  go_wp2
  go_ret
  exact ⟨rfl, below_alloc _⟩

set_option maxRecDepth 100000 in
set_option maxHeartbeats 800000 in
theorem indexMarked_any (sv : Value) (sig : List Sy) (w : World) (hs : Sg w sv sig) :
    Calls Tryz.prog 104 #[sv, .func (.func 79) #[] #[]] w fun e w' => ∃ n : Int, e = .returned (.int .i64 n) ∧ decide (0 ≤ n) = (sig.any fun s => sufB s.1) ∧ Below w.heap.size w w' := by
  obtain ⟨so, sc, rfl, hso, hsc, _⟩ := Row.flat hs
  unfold maxLen at hsc
  have HS := hid hs
  clear hs
  go_enter Tryz.func104, Tryz.ntmps104
  go_wp2
  go_loopw [8] (fun i wr => ∃ k : Nat, k ≤ sig.length ∧ i = .int .i64 k ∧ (sig.take k).any (fun s => sufB s.1) = false ∧ Below w.heap.size w wr) (fun i _ => sig.length - (intOf i).toNat)
  case atStart => exact ⟨0, Nat.zero_le _, rfl, by simp, Below.refl _ _⟩
  case round =>
    obtain ⟨k, hk, rfl, hno, hbl⟩ := hrel
    have HNo := hid hno
    have HB := hid hbl
    clear hno
    by_cases hlt : k < sig.length
    · obtain ⟨g, off, s, a, rfl, hm, hc0, hc1, ha1, ha2, hs3⟩ := (HS.out.kp (Kp.of_below hbl)).at hlt
      have HM := hid hm
      clear hm hbl
      go_wp2_with fail
      refine (isMarked_any s a wr (by unfold maxLen; omega)).mono ?_
      rintro e w2 ⟨rfl, hb2⟩
      have HB2 := hid (below_step HB.out hb2)
      clear hb2 hc0 hc1
      cases hmk : sufB s with
      | true =>
        have HF : Hid ((sig.any fun s => sufB s.1) = true) := by
          show _ = _
          rw [List.any_eq_true]
          exact ⟨_, List.mem_of_getElem? HM.out, hmk⟩
        clear hmk
        go_wp2
        go_ret
        exact ⟨_, rfl, by rw [HF.out]; simp, HB2.out⟩
      | false =>
        have HF : Hid ((sig.take (k + 1)).any (fun s => sufB s.1) = false) := by
          show _ = _
          rw [take_get HM.out, List.any_append, HNo.out]
          simp [hmk]
        clear hmk
        go_wp2
        go_roundw
        case rel => exact ⟨k + 1, by omega, by go_num, HF.out, HB2.out⟩
        case measure => simp only [intOf]; omega
    · have HF : Hid ((sig.any fun s => sufB s.1) = false) := by
        have h9 := HNo.out
        rw [List.take_of_length_le (by omega)] at h9
        exact h9
      go_wp2
      go_ret
      exact ⟨-1, rfl, by rw [HF.out]; rfl, HB.out⟩

set_option maxRecDepth 100000 in
theorem containsMarked_any (sv : Value) (sig : List Sy) (w : World) (hs : Sg w sv sig) :
    Calls Tryz.prog 78 #[sv, .func (.func 79) #[] #[]] w fun e w' => e = .returned (.bool (sig.any fun s => sufB s.1)) ∧ Below w.heap.size w w' := by
  have HC := hid (indexMarked_any sv sig w hs)
  clear hs
  generalize (sig.any fun s => sufB s.1) = B at HC ⊢
  go_enter Tryz.func78, Tryz.ntmps78
  go_wp2_with fail
  refine HC.out.mono ?_
  rintro e w2 ⟨n, rfl, hn, hb2⟩
  have HN := hid hn
  clear hn
  go_wp2
  go_ret
  exact ⟨ret1b HN.out, hb2⟩

/-- What is wrong with a system ahead of its rules. -/
def aheadE (sig : List Sy) (n : Nat) : Int := if sigE sig = 0 then (if 64 < sig.length then 37 else if (sig.any fun s => sufB s.1) then 34 else if 64 < n then 70 else 0) else sigE sig

set_option maxRecDepth 100000 in
set_option maxHeartbeats 800000 in
theorem checkAhead_any (sv : Value) (ro : Option Addr) (n rc : Nat) (sig : List Sy) (w : World) (hs : Sg w sv sig) (hT : Tabs w) (hn : n ≤ 9223372036854775807) :
    Calls Tryz.prog 54 #[.agg #[sv, .slice ro n rc]] w fun e w' => e = .returned (.int .i64 (aheadE sig n)) ∧ Below w.heap.size w w' := by
  obtain ⟨so, sc, rfl, hso, hsc, _⟩ := Row.flat hs
  unfold maxLen at hsc
  have HS := hid hs
  have HT := hid hT
  clear hs hT
  go_enter Tryz.func54, Tryz.ntmps54
  go_wp2_with fail
  refine (checkSig_any _ sig _ (HS.out.kp (Kp.of_below (below_alloc _))) (HT.out.below (below_alloc _))).mono ?_
  rintro e w1 ⟨rfl, hb1⟩
  obtain ⟨hd0, hd1, hbl1⟩ := box2 hb1
  have HB1 := hid hbl1
  clear hb1 hbl1
  by_cases he : sigE sig = 0
  · rw [he]
    by_cases h64 : 64 < sig.length
    · have HF : Hid (aheadE sig n = 37) := by show _ = _; unfold aheadE; rw [if_pos he, if_pos h64]
      clear he
      have hd : decide ((64 : Int) < (sig.length : Int)) = true := by simpa using (show (64 : Int) < (sig.length : Int) by omega)
      go_wp2
      go_ret
      exact ⟨ret1i HF.out.symm, HB1.out⟩
    · have hd : decide ((64 : Int) < (sig.length : Int)) = false := by simpa using (show ¬ (64 : Int) < (sig.length : Int) by omega)
      have HE := hid he
      have H64 := hid h64
      clear he
      go_wp2_with fail
      refine (containsMarked_any _ sig w1 (HS.out.kp (Kp.of_below HB1.out))).mono ?_
      rintro e w2 ⟨rfl, hb2⟩
      have HB2 := hid (below_step HB1.out hb2)
      have hd1' := (Kp.of_below hb2).cell _ _ hd1
      clear hb2 hd0 hd1
      cases hm : (sig.any fun s => sufB s.1) with
      | true =>
        have HF : Hid (aheadE sig n = 34) := by show _ = _; unfold aheadE; rw [if_pos HE.out, if_neg H64.out, if_pos hm]
        go_wp2
        go_ret
        exact ⟨ret1i HF.out.symm, HB2.out⟩
      | false =>
        by_cases hn64 : 64 < n
        · have HF : Hid (aheadE sig n = 70) := by show _ = _; unfold aheadE; rw [if_pos HE.out, if_neg H64.out, hm, if_neg (by simp), if_pos hn64]
          have hdn : decide ((64 : Int) < (n : Int)) = true := by simpa using (show (64 : Int) < (n : Int) by omega)
          go_wp2
          go_ret
          exact ⟨ret1i HF.out.symm, HB2.out⟩
        · have HF : Hid (aheadE sig n = 0) := by show _ = _; unfold aheadE; rw [if_pos HE.out, if_neg H64.out, hm, if_neg (by simp), if_neg hn64]
          have hdn : decide ((64 : Int) < (n : Int)) = false := by simpa using (show ¬ (64 : Int) < (n : Int) by omega)
          go_wp2
          go_ret
          exact ⟨ret1i HF.out.symm, HB2.out⟩
  · have HF : Hid (aheadE sig n = sigE sig) := by show _ = _; unfold aheadE; rw [if_neg he]
    generalize sigE sig = E at he HF ⊢
    have hne : (E != 0) = true := by simpa using he
    go_wp2
    go_ret
    exact ⟨ret1i HF.out.symm, HB1.out⟩

end Go.Proofs.YtoapgbaibpkckaaGreatDoor

/- A map from numbers to values in memory; a row joined to one's own. -/
namespace Go.Proofs.YtoapgbaibpkckaaGreatDoor
open Go.RowKit Go.Maps

theorem join_ints (ty : TypeId) {w : World} {base : Nat} {x u : Value} {xs es : List Int} (ho : OwI w base x xs) (hs : Is w u es) (hb : base ≤ w.heap.size) (hl : (xs.length + es.length) * 8 ≤ 140737488355328) :
    ∃ v' w', (Builtin.append_ #[36, 36] ty #[x, u]).run Tryz.prog w = .ok v' w' ∧ OwI w' base v' (xs ++ es) ∧ w.grownBy w' x.ownBlock := by
  obtain ⟨i0, hi, hz0, hz1, hz2⟩ := info_parts info_int
  have hZ : ZI es := fun k x hk => by
    obtain ⟨ao, cap, rfl, _, _, hx⟩ := Row.flat hs
    obtain ⟨_, _, y, _, hy, h1, h2, _⟩ := hx k (List.getElem?_eq_some_iff.1 hk).1
    rw [hk] at hy
    cases hy
    exact ⟨h1, h2⟩
  have hZ2 : ZI (xs ++ es) := fun k y hk => by
    by_cases hkl : k < xs.length
    · rw [List.getElem?_append_left hkl] at hk
      exact ho.1 k y hk
    · rw [List.getElem?_append_right (by omega)] at hk
      exact hZ _ y hk
  obtain ⟨ao, cap, rfl, hc, hm, hx⟩ := hs
  by_cases h0 : es.length = 0
  · obtain rfl : es = [] := List.eq_nil_of_length_eq_zero h0
    obtain ⟨bo, bc, rfl, hbc, _⟩ := ho.shape
    refine ⟨_, w, run_append_nothing w 36 36 ty 3 i0 under_ints hi _ xs.length bc hbc _ ?_, by rw [List.append_nil]; exact ho, World.grownBy.refl _ _⟩
    cases ao with
    | none => exact Src.ofNil w under_ints _
    | some a => exact Src.ofSlice w under_ints a 0 _ [] (by simp) (fun j u hj => (by simp at hj)) (fun u hu => (by simp at hu))
  · obtain ⟨g', off, rfl, hg, hcell⟩ := hx (by omega)
    obtain ⟨v', w', hr, h2, h3, _, _⟩ := run_append_own_at (P := Tryz.prog) w base 36 ty 3 i0 _ 1 8 under_ints hi hz0 hz1 hz2 rfl (by decide) _ xs.length (xs.map I64) ho.2 ⟨g', off, none⟩ es.length cap (es.map I64) (by simp) (fun j u hj => by
      rw [List.getElem?_map] at hj
      cases hk : es[j]? with
      | none => rw [hk] at hj; simp at hj
      | some x =>
        rw [hk] at hj
        simp at hj
        subst hj
        rw [Addr.add_lit]
        have := (hcell j x hk).2.2
        rw [Nat.mul_one] at this
        exact this) (fun u hu => by obtain ⟨x, _, rfl⟩ := List.mem_map.1 hu; rfl) (by unfold maxLen; omega) (by omega) hb
    refine ⟨v', w', hr, ⟨hZ2, ?_⟩, h3⟩
    rw [List.length_append, List.map_append]
    exact h2

/-- An element, read as the value that it is. -/
def RV (v : Value) : Option (DataW Value × List MemPlace) := some (.held v, [])

/-- Block b of w is the map L. -/
def MapV (w : World) (b : Nat) (L : List (Int × Value)) : Prop :=
  ∃ D : DataW Value, w.ownsMap Tryz.prog 3 RV b L.length D ∧ Maps.size D = L.length ∧
    (∀ k v, L.lookup k = some v → ∀ z, D.atKey (.int .i64 k) z = .held v) ∧ (∀ k, Maps.has D (.int .i64 k) = (L.lookup k).isSome)

theorem MapV.isMap {w : World} {b : Nat} {L : List (Int × Value)} (h : MapV w b L) : ∃ es clock, w.heap[b]? = some (.map es clock) := by
  obtain ⟨D, ⟨es, clock, hb, _⟩, _⟩ := h
  exact ⟨es, clock, hb⟩

theorem MapV.lt {w : World} {b : Nat} {L : List (Int × Value)} (h : MapV w b L) : b < w.heap.size := by
  obtain ⟨es, clock, hb⟩ := h.isMap
  exact (Array.getElem?_eq_some_iff.1 hb).1

theorem MapV.kept {w w' : World} {b : Nat} {L : List (Int × Value)} {row : Option Nat} (h : MapV w b L) (hg : w.grownBy w' row) (hr : row ≠ some b) : MapV w' b L := by
  obtain ⟨D, h1, h2, h3, h4⟩ := h
  exact ⟨D, h1.kept hg (fun e => hr e.symm), h2, h3, h4⟩

theorem MapV.later {w w' : World} {b : Nat} {L : List (Int × Value)} (h : MapV w b L) (hb : Below w.heap.size w w') : MapV w' b L :=
  h.kept (grown_of_below hb none) (by simp)

theorem MapV.made (w : World) : MapV (w.alloc (.map #[] 0)) w.heap.size [] :=
  ⟨DataW.map [], World.ownsMap_made w _ _ _, rfl, fun k v hk => (by cases hk), fun k => (by simp [Maps.has])⟩

theorem MapV.look {w : World} {b : Nat} {L : List (Int × Value)} (h : MapV w b L) {t e : TypeId} {z : Value} (ht : Tryz.prog.underlying t = some (.map 3 e)) (hz : (zeroValue e).run Tryz.prog w = .ok z w) {k : Int} (h1 : -9223372036854775808 ≤ k) (h2 : k ≤ 9223372036854775807) :
    (Instr.lookup t (.map (some b)) (.int .i64 k) true).run Tryz.prog w = .ok (.tuple #[(L.lookup k).getD z, .bool (L.lookup k).isSome]) w := by
  obtain ⟨D, hD, _, ha, hh⟩ := h
  obtain ⟨v, ps, hrun, hv⟩ := hD.look_ok set_keyed ht hz (zd := .held z) (zp := []) rfl (key_int h1 h2)
  rw [hrun, hh]
  have hv2 : D.atKey (.int .i64 k) (.held z) = .held v := by
    simp only [RV, Option.some.injEq, Prod.mk.injEq] at hv
    exact hv.1.symm
  cases hl : L.lookup k with
  | none =>
    rw [atKey_of_not_has (by rw [hh, hl]; rfl)] at hv2
    rw [DataW.held.inj hv2]
    simp only [Option.getD, Option.isSome]
  | some u =>
    rw [ha k u hl] at hv2
    rw [DataW.held.inj hv2]
    simp only [Option.getD, Option.isSome]

theorem MapV.store {w : World} {b : Nat} {L : List (Int × Value)} (h : MapV w b L) {t e : TypeId} (ht : Tryz.prog.underlying t = some (.map 3 e)) {k : Int} (h1 : -9223372036854775808 ≤ k) (h2 : k ≤ 9223372036854775807) (hn : L.lookup k = none) (hL : L.length < maxLen) (v : Value) :
    ∃ w', (Instr.mapUpdate t (.map (some b)) (.int .i64 k) v).run Tryz.prog w = .ok () w' ∧ MapV w' b ((k, v) :: L) ∧ w.grownBy w' (some b) := by
  obtain ⟨D, hD, hs, ha, hh⟩ := h
  have hT := hD.tidy set_keyed
  have hK : WideAt.IsKeyLit (.int .i64 k) := set_keyed.key (key_int h1 h2)
  obtain ⟨w', hrun, r1, r2⟩ := hD.store set_keyed ht hL (key_int h1 h2) (val := v) (d := .held v) (ps := []) rfl
  refine ⟨w', hrun, ⟨D.put (.int .i64 k) (.held v), r1, ?_, fun k' v' hl z => ?_, fun k' => ?_⟩, r2.grown⟩
  · rw [size_put hT, hs, hh, hn]
    rfl
  · rw [List.lookup_cons] at hl
    by_cases e : k' = k
    · subst e
      simp at hl
      subst hl
      exact atKey_put_same hT.isMap hK _ z
    · rw [show (k' == k) = false by simpa using e] at hl
      rw [atKey_put_other (by simpa using e)]
      exact ha k' v' hl z
  · rw [List.lookup_cons]
    by_cases e : k' = k
    · subst e
      rw [has_put_same hT.isMap hK]
      simp
    · rw [has_put_other (by simpa using e), hh, show (k' == k) = false by simpa using e]

theorem MapV.len {w : World} {b : Nat} {L : List (Int × Value)} (h : MapV w b L) {t e : TypeId} (ht : Tryz.prog.underlying t = some (.map 3 e)) (ty : TypeId) : (Builtin.len_ #[t] ty #[.map (some b)]).run Tryz.prog w = .ok (.int .i64 (L.length : Int)) w := by
  obtain ⟨D, h1, h2, _⟩ := h
  have := h1.len ht ty
  rw [h2] at this
  exact this

end Go.Proofs.YtoapgbaibpkckaaGreatDoor

/- What lay and Apply answer. -/
namespace Go.Proofs.YtoapgbaibpkckaaGreatDoor
open Go.RowKit Go.Maps

/-- What a code becomes. -/
def piece (f : Int → Option (List Int)) (c : Int) : List Int := if c < 0 then (f (-1 - c)).getD [c] else [c]

theorem nilI (w : World) (base : Nat) : OwI w base (.slice none 0 0) [] := ⟨fun k x hk => (by simp at hk), World.ownsRow_nil _ _ _ _⟩

section
variable {P : Program} {w w' : World} {ops : Array Oper} {rest : List Oper} {o : Oper} {a : Act} {Q : Exit → Act → World → Prop}

theorem wpList_append_run (hg : o.guard = none) (s x : Operand) (t : TypeId) (ho : o.op = .call { callee := .builtin .append, args := #[s, x], argTypes := #[t, t] }) (v u : Value) {v' : Value} (hs : a.eval s = v) (hx : a.eval x = u)
    (hr : (Builtin.append_ #[t, t] o.type #[v, u]).run P w = .ok v' w') (h : wpList P ops Q rest (a.put o.dst v') w') : wpList P ops Q (o :: rest) a w := by
  refine wpList_plain hg fun K' hK' => ?_
  unfold Oper.wp
  simp [execOp, ho, resolve, invoke, builtin, hs, hx, hr, Result.andThen]
  exact hK' _ _ h

end

end Go.Proofs.YtoapgbaibpkckaaGreatDoor

/- What Apply answers. -/
namespace Go.Proofs.YtoapgbaibpkckaaGreatDoor
open Go.RowKit Go.Maps

theorem lookup_mem {α : Type} : ∀ {l : List (Int × α)} {n : Int} {x : α}, l.lookup n = some x → (n, x) ∈ l
  | (k, v) :: l, n, x, h => by
    rw [List.lookup_cons] at h
    cases hk : n == k with
    | true =>
      rw [hk] at h
      cases h
      rw [beq_iff_eq] at hk
      subst hk
      exact .head _
    | false =>
      rw [hk] at h
      exact .tail _ (lookup_mem h)

end Go.Proofs.YtoapgbaibpkckaaGreatDoor

/- What Shift, and the document's Shift, answer. -/
namespace Go.Proofs.YtoapgbaibpkckaaGreatDoor
open Go.RowKit Go.Maps

def okShift (d : Int) (t : List Int) : Bool := t.all fun c => !decide (c < 0) || isVarB (-1 - c + d)
def shiftE (d : Int) (t : List Int) : Int := if okShift d t = true then 0 else 40
def shiftL (d : Int) (t : List Int) : List Int := if okShift d t = true then t.map (fun c => if c < 0 then c - d else c) else []

theorem mem_metA : ∀ {t m : List Int} {c : Int}, c ∈ metA m t ↔ c ∈ m ∨ (c ∈ t ∧ c < 0)
  | [], m, c => by simp [metA]
  | a :: t, m, c => by
    unfold metA
    split
    · rename_i h
      rw [mem_metA]
      constructor
      · rintro (h1 | ⟨h1, h2⟩)
        · exact .inl h1
        · exact .inr ⟨List.mem_cons_of_mem _ h1, h2⟩
      · rintro (h1 | ⟨h1, h2⟩)
        · exact .inl h1
        · rcases List.mem_cons.1 h1 with rfl | h1
          · rcases h with h | h
            · omega
            · exact .inl h
          · exact .inr ⟨h1, h2⟩
    · rename_i h
      rw [mem_metA]
      constructor
      · rintro (h1 | ⟨h1, h2⟩)
        · rcases List.mem_append.1 h1 with h1 | h1
          · exact .inl h1
          · simp at h1
            subst h1
            exact .inr ⟨by simp, by have := fun hh => h (.inl hh); omega⟩
        · exact .inr ⟨List.mem_cons_of_mem _ h1, h2⟩
      · rintro (h1 | ⟨h1, h2⟩)
        · exact .inl (List.mem_append.2 (.inl h1))
        · rcases List.mem_cons.1 h1 with rfl | h1
          · exact .inl (by simp)
          · exact .inr ⟨h1, h2⟩

theorem mem_varsL {t : List Int} {x : Int} : x ∈ varsL t ↔ ∃ c ∈ t, c < 0 ∧ x = -1 - c := by
  unfold varsL
  rw [List.mem_map]
  constructor
  · rintro ⟨c, hc, rfl⟩
    rcases mem_metA.1 hc with h | ⟨h, h2⟩
    · cases h
    · exact ⟨c, h, h2, rfl⟩
  · rintro ⟨c, hc, h2, rfl⟩
    exact ⟨c, mem_metA.2 (.inr ⟨hc, h2⟩), rfl⟩

theorem okShift_vars {d : Int} {t : List Int} : okShift d t = true ↔ ∀ x ∈ varsL t, isVarB (x + d) = true := by
  unfold okShift
  rw [List.all_eq_true]
  constructor
  · intro h x hx
    obtain ⟨c, hc, h2, rfl⟩ := mem_varsL.1 hx
    have := h c hc
    rw [decide_eq_true h2] at this
    simpa using this
  · intro h c hc
    by_cases h2 : c < 0
    · rw [decide_eq_true h2, h _ (mem_varsL.2 ⟨c, hc, h2, rfl⟩)]
      rfl
    · rw [decide_eq_false h2]
      rfl

theorem isVarB_iff {n : Int} : isVarB n = true ↔ 0 ≤ n ∧ n < 1048576 := by
  unfold isVarB
  rw [Bool.and_eq_true, decide_eq_true_eq, decide_eq_true_eq]

theorem isVar_wrap {x d : Int} (h1 : 0 ≤ x) (h2 : x ≤ 9223372036854775807) (h3 : -9223372036854775808 ≤ d) (h4 : d ≤ 9223372036854775807) : isVarB (wrap64 (x + d)) = isVarB (x + d) := by
  by_cases h : x + d ≤ 9223372036854775807
  · rw [IntWalk.wrap64_in _ ⟨by omega, h⟩]
  · have e : wrap64 (x + d) = x + d - 18446744073709551616 := by unfold wrap64; omega
    rw [e]
    have a : isVarB (x + d - 18446744073709551616) = false := by rw [Bool.eq_false_iff]; intro hh; have := isVarB_iff.1 hh; omega
    have b : isVarB (x + d) = false := by rw [Bool.eq_false_iff]; intro hh; have := isVarB_iff.1 hh; omega
    rw [a, b]

theorem renG_shift (d : Int) : ∀ t : List Int, (renG (fun (_ : Unit) n => (n + d, ())) () t).1 = t.map fun c => if c < 0 then c - d else c
  | [] => rfl
  | c :: t => by
    unfold renG
    by_cases h : c < 0
    · rw [if_pos h, List.map_cons, if_pos h, renG_shift d t]
      show (-1 - (-1 - c + d)) :: _ = _
      rw [show -1 - (-1 - c + d) = c - d by omega]
    · rw [if_neg h, List.map_cons, if_neg h, renG_shift d t]

theorem shiftFn_any (n d : Int) (g : Nat) (w : World) (h : w.cell? ⟨g, 0, none⟩ = some (.int .i64 d)) (hn : -9223372036854775808 ≤ n + d ∧ n + d ≤ 9223372036854775807) :
    Calls Tryz.prog 95 #[.int .i64 n, .pointer (some ⟨g, 0, none⟩)] w fun e w' => e = .returned (.int .i64 (n + d)) ∧ w' = w := by
  have hw : IntKind.i64.wrap (n + d) = n + d := IntWalk.i64_in _ hn
  go_enter Tryz.func95, Tryz.ntmps95
  go_wp2
  go_ret
  exact ⟨rfl, rfl⟩

theorem enterShift : ∀ args w, (callFunc 95 args).run Tryz.prog w = .ok (.enter 95 args) w := enters_of Tryz.func95 (by kernel_rfl) rfl

set_option maxRecDepth 100000 in
set_option maxHeartbeats 1600000 in
theorem shift_any (v : Value) (t : List Int) (d : Int) (w : World) (h : Is w v t) (hb : t.length * 8 ≤ 140737488351232) (hd1 : -9223372036854775808 ≤ d) (hd2 : d ≤ 9223372036854775807) :
    Calls Tryz.prog 67 #[v, .int .i64 d] w fun e w' => ∃ v', e = .returned (.tuple #[v', .int .i64 (shiftE d t)]) ∧ OwI w' w.heap.size v' (shiftL d t) ∧ Below w.heap.size w w' := by
  obtain ⟨ao, cap, rfl, hao, hca, q0⟩ := Row.flat h
  unfold maxLen at hca
  have HT : Hid (Is w (.slice ao t.length cap) t) := h
  have HZt : Hid (ZI t) := h.range
  clear h q0
  go_enter Tryz.func67, Tryz.ntmps67
  go_wp2_with fail
  refine (vars_any _ t _ (HT.out.kp (Kp.of_below (below_alloc _))) hb).mono ?_
  rintro e w1 ⟨v1, rfl, ho1, hb1⟩
  obtain ⟨bo, cap', rfl, hbo, hcb⟩ := ho1.shape
  unfold maxLen at hcb
  have hx0 : w1.cell? ⟨w.heap.size, 0, none⟩ = some (.int .i64 d) := (Kp.of_below hb1).cell _ _ (by rw [cell_of_row _ _ _ _ _ _ (heap_alloc_new _ _)]; rfl)
  have hszb : w.heap.size < w1.heap.size := Nat.lt_of_lt_of_le (by simp) hb1.size
  have HO : Hid (Is w1 (.slice bo (varsL t).length cap') (varsL t)) := ho1.is
  have HX0 : Hid (w1.cell? ⟨w.heap.size, 0, none⟩ = some (.int .i64 d)) := hx0
  have HB1 : Hid (Below w.heap.size w w1) := below_step (below_alloc _) hb1
  clear ho1 hb1
  go_wp2
  go_loopw [11] (fun i wr => ∃ k : Nat, k ≤ (varsL t).length ∧ i = .int .i64 k ∧ (∀ (j : Nat) (x : Int), j < k → (varsL t)[j]? = some x → isVarB (x + d) = true) ∧ wr = w1) (fun i _ => (varsL t).length - (intOf i).toNat)
  case atStart => exact ⟨0, Nat.zero_le _, rfl, fun j x hj => absurd hj (by omega), rfl⟩
  case round =>
    obtain ⟨k, hk, rfl, hall, hw1⟩ := hrel
    have hw8 := hw1.symm
    subst hw8
    have HAll : Hid (∀ (j : Nat) (x : Int), j < k → (varsL t)[j]? = some x → isVarB (x + d) = true) := hall
    clear hall hw1
    by_cases hlt : k < (varsL t).length
    · obtain ⟨g, off, x, rfl, hx1, hx2, hx3, hx4⟩ := HO.out.at hlt
      have HX : Hid ((varsL t)[k]? = some x) := hx1
      have hx0' : 0 ≤ x := by
        obtain ⟨c, _, h2, rfl⟩ := mem_varsL.1 (List.mem_of_getElem? hx1)
        omega
      have hwr := isVar_wrap hx0' hx4 hd1 hd2
      clear hx1
      cases hv : isVarB (x + d)
      · have HF : Hid (shiftE d t = 40 ∧ shiftL d t = []) := by
          have : ¬ okShift d t = true := fun hh => by
            have := okShift_vars.1 hh x (List.mem_of_getElem? HX.out)
            rw [hv] at this
            cases this
          unfold shiftE shiftL
          rw [if_neg this, if_neg this]
          exact ⟨rfl, rfl⟩
        rw [hv] at hwr
        go_wp2_with fail
        refine (isVariable_any _ _).mono ?_
        rw [hwr]
        rintro e w9 ⟨rfl, hw9⟩
        have hw8 := hw9.symm
        subst hw8
        clear hw9 hwr
        go_wp2
        go_ret2
        exact ⟨_, ret2i HF.out.1.symm, by rw [HF.out.2]; exact ⟨fun k x hk => (by simp at hk), World.ownsRow_nil _ _ _ _⟩, HB1.out⟩
      · rw [hv] at hwr
        have HVx : Hid (isVarB (x + d) = true) := hv
        go_wp2_with fail
        refine (isVariable_any _ _).mono ?_
        rw [hwr]
        rintro e w9 ⟨rfl, hw9⟩
        have hw8 := hw9.symm
        subst hw8
        clear hw9 hwr hv
        go_wp2
        go_roundw
        case rel =>
          refine ⟨k + 1, by omega, by go_num, fun j y hj hy => ?_, trivial⟩
          by_cases hjk : j = k
          · subst hjk; rw [HX.out] at hy; cases hy; exact HVx.out
          · exact HAll.out j y (by omega) hy
        case measure => simp [intOf]; omega
    · have HOk : Hid (okShift d t = true) := by
        refine okShift_vars.2 fun x hx => ?_
        obtain ⟨j, hj⟩ := List.mem_iff_getElem?.1 hx
        exact HAll.out j x (by have := (List.getElem?_eq_some_iff.1 hj).1; omega) hj
      go_wp2_with fail
      obtain ⟨gb, hgb⟩ : ∃ gb, gb = w.heap.size := ⟨_, rfl⟩
      rw [← hgb] at hszb HX0 ⊢
      refine (renumber_any (σ := Unit) (fun w _ => w.cell? ⟨gb, 0, none⟩ = some (.int .i64 d)) (fun _ n => (n + d, ())) (fun n => isVarB (n + d) = true) gb 95 (.pointer (some ⟨gb, 0, none⟩)) (.slice ao t.length cap) t () _ (fun _ => 0) (fun _ _ => by omega) hszb HX0.out hb ?_ ?_ ?_ ?_ ?_ enterShift).mono ?_
      · intro a b _ r ha hg hr _ hlt
        rw [World.cell?_of_block (hg.block gb hlt (fun e => hr e.symm))]
        exact ha
      · intro w' hg
        refine HT.out.kp ⟨Nat.le_trans HB1.out.size hg.size, fun a v hv => ?_⟩
        have hlt := World.block_lt_of_cell? w a hv
        rw [World.cell?_of_block (hg.block a.block (Nat.lt_of_lt_of_le hlt HB1.out.size) (by simp; omega))]
        exact (Kp.of_below HB1.out).cell _ _ hv
      · intro n _ a hn ha _
        have := isVarB_iff.1 hn
        exact (shiftFn_any n d gb a ha ⟨by omega, by omega⟩).mono (fun e w2 ⟨he, hw⟩ => ⟨he, by rw [hw]; exact ha, by rw [hw]; exact World.grownBy.refl _ _⟩)
      · intro _ n _ hn _ _
        have := isVarB_iff.1 hn
        simp only
        omega
      · intro c hc h0
        exact okShift_vars.1 HOk.out _ (mem_varsL.2 ⟨c, hc, h0, rfl⟩)
      · rintro e w2 ⟨v2, rfl, ho2, _, hg2⟩
        have HF : Hid (shiftE d t = 0 ∧ shiftL d t = t.map fun c => if c < 0 then c - d else c) := by
          unfold shiftE shiftL
          rw [if_pos HOk.out, if_pos HOk.out]
          exact ⟨rfl, rfl⟩
        rw [renG_shift] at ho2
        have HO2 : Hid (OwI w2 w.heap.size v2 (shiftL d t)) := by
          show OwI _ _ _ _
          rw [HF.out.2]
          exact ho2.mono HB1.out.size
        have HB2 : Hid (Below w.heap.size w w2) := HB1.out.grown hg2 HB1.out.size (fun j hj => by cases hj; omega)
        clear ho2 hg2 hgb
        go_wp2
        go_ret2
        exact ⟨_, ret2i HF.out.1.symm, HO2.out, HB2.out⟩

end Go.Proofs.YtoapgbaibpkckaaGreatDoor

/- What Canon answers. -/
namespace Go.Proofs.YtoapgbaibpkckaaGreatDoor
open Go.RowKit Go.Maps

theorem under_numbers : Tryz.prog.underlying 141 = some (.map 3 3) := by kernel_rfl
theorem zero_int (w : World) : (zeroValue 3).run Tryz.prog w = .ok (.int .i64 0) w := by kernel_rfl

/-- The numbers met, the last one first, with what they became. -/
abbrev Met := List (Int × Int)
def metV (m : Met) : List (Int × Value) := m.map fun p => (p.1, .int .i64 p.2)
def numN (m : Met) (n : Int) : Int × Met := match m.lookup n with | some i => (i, m) | none => ((m.length : Int), (n, (m.length : Int)) :: m)

theorem metV_lookup (n : Int) : ∀ m : Met, (metV m).lookup n = (m.lookup n).map (Value.int .i64)
  | [] => rfl
  | (k, i) :: m => by
    show List.lookup n ((k, _) :: metV m) = _
    rw [List.lookup_cons, List.lookup_cons]
    cases n == k with
    | true => rfl
    | false => exact metV_lookup n m

set_option maxRecDepth 100000 in
set_option maxHeartbeats 800000 in
theorem number_closure (n : Int) (b bx : Nat) (m : Met) (w : World) (hc : w.cell? ⟨bx, 0, none⟩ = some (.map (some b))) (hm : MapV w b (metV m)) (hl : m.length < 9223372036854775806) (h1 : -9223372036854775808 ≤ n) (h2 : n ≤ 9223372036854775807) :
    Calls Tryz.prog 118 #[.int .i64 n, .pointer (some ⟨bx, 0, none⟩)] w fun e w' => e = .returned (.int .i64 (numN m n).1) ∧ w'.cell? ⟨bx, 0, none⟩ = some (.map (some b)) ∧ MapV w' b (metV (numN m n).2) ∧ w.grownBy w' (some b) := by
  have hlk := hm.look under_numbers (zero_int w) h1 h2
  rw [metV_lookup] at hlk
  have HM := hid hm
  have HCx := hid hc
  clear hm
  cases hn : m.lookup n with
  | some i =>
    have HN : Hid (numN m n = (i, m)) := by show _ = _; unfold numN; rw [hn]
    rw [hn] at hlk
    have HL : Hid ((Instr.lookup 141 (.map (some b)) (.int .i64 n) true).run Tryz.prog w = .ok (.tuple #[.int .i64 i, .bool true]) w) := hlk
    clear hlk hn
    go_enter Tryz.func118, Tryz.ntmps118
    go_wp2_with (first
      | (at_lookup; refine wpList_lookup_run rfl _ _ _ _ rfl _ _ _ rfl rfl HL.out ?_))
    go_ret
    exact ⟨by rw [HN.out]; rfl, HCx.out, by rw [HN.out]; exact HM.out, World.grownBy.refl _ _⟩
  | none =>
    have HN : Hid (numN m n = ((m.length : Int), (n, (m.length : Int)) :: m)) := by show _ = _; unfold numN; rw [hn]
    have hnone : (metV m).lookup n = none := by rw [metV_lookup, hn]; rfl
    rw [hn] at hlk
    have HL : Hid ((Instr.lookup 141 (.map (some b)) (.int .i64 n) true).run Tryz.prog w = .ok (.tuple #[.int .i64 0, .bool false]) w) := hlk
    have hml : (metV m).length = m.length := by simp [metV]
    have hlen := HM.out.len under_numbers 3
    rw [hml] at hlen
    obtain ⟨w4, hr4, hm4, hg4⟩ := HM.out.store under_numbers h1 h2 hnone (by rw [hml]; unfold maxLen; omega) (.int .i64 (m.length : Int))
    obtain ⟨es, ck, hes⟩ := HM.out.isMap
    have HR4 := hid hr4
    have HM4 : Hid (MapV w4 b (metV ((n, (m.length : Int)) :: m))) := hm4
    have HC4 : Hid (w4.cell? ⟨bx, 0, none⟩ = some (.map (some b))) := (Kp.of_map hg4 hes).cell _ _ hc
    have HG4 := hid hg4
    clear hlk hn hnone hr4 hm4 hg4 hes
    go_enter Tryz.func118, Tryz.ntmps118
    go_wp2_with (first
      | (at_lookup; refine wpList_lookup_run rfl _ _ _ _ rfl _ _ _ rfl rfl HL.out ?_)
      | (at_mapUpdate; refine wpList_mapUpdate_run rfl _ _ _ _ rfl _ _ _ rfl rfl rfl HR4.out ?_))
    go_ret
    exact ⟨by rw [HN.out]; rfl, HC4.out, by rw [HN.out]; exact HM4.out, HG4.out⟩

end Go.Proofs.YtoapgbaibpkckaaGreatDoor

/- What Canon answers. -/
namespace Go.Proofs.YtoapgbaibpkckaaGreatDoor
open Go.RowKit Go.Maps

theorem numbersAsMet_any (w : World) : Calls Tryz.prog 96 #[] w fun e w' => ∃ b bx, e = .returned (.func (.func 118) #[] #[.pointer (some ⟨bx, 0, none⟩)]) ∧ w'.cell? ⟨bx, 0, none⟩ = some (.map (some b)) ∧ MapV w' b [] ∧ w.heap.size ≤ b ∧ w.heap.size ≤ bx ∧ b ≠ bx ∧ Below w.heap.size w w' := by
  have hmm := @run_makeMap Tryz.prog
  go_enter Tryz.func96, Tryz.ntmps96
  go_wp2
  go_ret
  refine ⟨w.heap.size, w.heap.size + 1, rfl, by simp, (MapV.made w).later (below_alloc _), Nat.le_refl _, by omega, by omega, below_step (below_alloc _) (below_alloc _)⟩

def ER (w : World) (g o : Nat) (x : List Int) : Prop := x.length * 8 ≤ 140737488351232 ∧ ∃ u, w.cell? ⟨g, o, none⟩ = some u ∧ Is w u x
theorem ER.kp {w w' : World} (hk : Kp w w') (g o : Nat) (x : List Int) (h : ER w g o x) : ER w' g o x := by
  obtain ⟨h0, u, h1, h2⟩ := h
  exact ⟨h0, u, hk.cell _ _ h1, h2.kp hk⟩

/-- A list of rows. -/
def Rs (w : World) (v : Value) (l : List (List Int)) : Prop := Row ER 1 w v l
theorem Rs.kp {w w' : World} {v : Value} {l : List (List Int)} (h : Rs w v l) (hk : Kp w w') : Rs w' v l := Row.imp h hk.size (ER.kp hk)

theorem Rs.at {w : World} {ao : Option Addr} {n cap : Nat} {l : List (List Int)} (h : Rs w (.slice ao n cap) l) {k : Nat} (hk : k < l.length) :
    ∃ g off a t c, ao = some ⟨g, off, none⟩ ∧ l[k]? = some t ∧ w.cell? ⟨g, off + k, none⟩ = some (.slice a t.length c) ∧ Is w (.slice a t.length c) t ∧ t.length * 8 ≤ 140737488351232 := by
  obtain ⟨ao', cap', hv, _, _, hx⟩ := Row.flat h
  simp only [Value.slice.injEq] at hv
  obtain ⟨rfl, rfl, rfl⟩ := hv
  obtain ⟨g, off, t, rfl, hm, h3, v, h5, h6⟩ := hx k hk
  obtain ⟨a, c, rfl, _⟩ := Row.flat h6
  rw [Nat.mul_one] at h5
  exact ⟨g, off, a, t, c, rfl, hm, h5, h6, h3⟩

def canG : Met → List (List Int) → List (List Int)
  | _, [] => []
  | m, t :: l => (renG numN m t).1 :: canG (renG numN m t).2 l

def canL (l : List (List Int)) : List (List Int) := canG [] l

/-- Rows of one's own, by their values. -/
def OwR (w : World) (base : Nat) (vs : List Value) (l : List (List Int)) : Prop := vs.length = l.length ∧ ∀ (j : Nat) (u : Value) (x : List Int), vs[j]? = some u → l[j]? = some x → OwI w base u x

def NumOk (b bx : Nat) (w : World) (m : Met) : Prop := w.cell? ⟨bx, 0, none⟩ = some (.map (some b)) ∧ MapV w b (metV m) ∧ ∀ p ∈ m, 0 ≤ p.2 ∧ p.2 < (m.length : Int)

theorem numN_len (m : Met) (n : Int) : (numN m n).2.length ≤ m.length + 1 := by
  unfold numN
  split <;> simp

theorem numN_in {m : Met} {n : Int} (h : ∀ p ∈ m, 0 ≤ p.2 ∧ p.2 < (m.length : Int)) : (0 ≤ (numN m n).1 ∧ (numN m n).1 ≤ (m.length : Int)) ∧ ∀ p ∈ (numN m n).2, 0 ≤ p.2 ∧ p.2 < ((numN m n).2.length : Int) := by
  unfold numN
  split
  · rename_i i hi
    have := h _ (lookup_mem hi)
    exact ⟨by simp only at this ⊢; omega, h⟩
  · refine ⟨by simp only; omega, fun p hp => ?_⟩
    simp only [List.length_cons]
    cases hp with
    | head => simp only; omega
    | tail _ hp => have := h p hp; omega

theorem renumber_canon (b bx : Nat) (v : Value) (t : List Int) (m : Met) (w : World) (hb : b < w.heap.size) (hbx : bx < w.heap.size) (_hne : b ≠ bx) (hst : NumOk b bx w m) (h : Is w v t) (hlen : t.length * 8 ≤ 140737488351232) (hm : m.length ≤ 4611686018427387904) :
    Calls Tryz.prog 94 #[v, .func (.func 118) #[] #[.pointer (some ⟨bx, 0, none⟩)]] w fun e w' => ∃ v', e = .returned v' ∧ OwI w' w.heap.size v' (renG numN m t).1 ∧ NumOk b bx w' (renG numN m t).2 ∧ w.grownBy w' (some b) := by
  refine renumber_any (σ := Met) (NumOk b bx) numN (fun n => 0 ≤ n ∧ n ≤ 9223372036854775807) b 118 (.pointer (some ⟨bx, 0, none⟩)) v t m w List.length numN_len hb hst hlen ?_ ?_ ?_ ?_ ?_ (enters_of Tryz.func118 (by kernel_rfl) rfl)
  · rintro w1 w2 s r ⟨h1, h2, h3⟩ hg hr hj _
    refine ⟨?_, h2.kept hg hr, h3⟩
    have hx : some bx ≠ r := fun e => by
      have := hj bx e.symm
      omega
    rw [World.cell?_of_block (hg.block bx (World.block_lt_of_cell? _ _ h1) hx)]
    exact h1
  · intro w' hg
    obtain ⟨es, ck, hes⟩ := hst.2.1.isMap
    exact h.kp (Kp.of_map hg hes)
  · rintro n s w1 ⟨hn1, hn2⟩ ⟨h1, h2, h3⟩ hs
    refine (number_closure n b bx s w1 h1 h2 (by omega) (by omega) hn2).mono ?_
    rintro e w2 ⟨rfl, k1, k2, k3⟩
    exact ⟨rfl, ⟨k1, k2, (numN_in h3).2⟩, k3⟩
  · rintro s n w1 _ ⟨h1, h2, h3⟩ hs
    have := (numN_in (n := n) h3).1
    omega
  · intro c hc h0
    have hz : -9223372036854775808 ≤ c := by
      obtain ⟨ao, cap, rfl, _, _, hx⟩ := Row.flat h
      obtain ⟨k, hk, rfl⟩ := List.getElem_of_mem hc
      obtain ⟨_, _, y, _, hy, h1, _⟩ := hx k hk
      rw [List.getElem?_eq_getElem hk] at hy
      cases hy
      exact h1
    omega

theorem info_ints : (Tryz.prog.info? 36).map (fun i => (i.zero, i.size, i.bytes)) = some (some (.slice none 0 0), 1, 24) := by kernel_rfl
theorem under_rows : Tryz.prog.underlying 41 = some (.slice 36) := by kernel_rfl

theorem made_nilS (n : Nat) : (madeCells (Value.slice none 0 0).cells (n * 1)).toList = List.replicate n (.slice none 0 0) := by
  have : (Value.slice none 0 0).cells = #[Value.slice none 0 0] := rfl
  rw [this, toList_madeCells_one, Nat.mul_one]

theorem own_lt {w : World} {base g n c m : Nat} {e : TypeId} {s : Nat} {xs : List Value} (h : w.ownsRow base e s (.slice (some ⟨g, 0, none⟩) n c) m xs) : g < w.heap.size := by
  rcases h.2 with ⟨hv, _⟩ | ⟨g', cap, cur, hv, _, hg, _⟩
  · cases hv
  · cases hv
    exact (Array.getElem?_eq_some_iff.1 hg).1

theorem sum_take : ∀ (l : List (List Int)) (k : Nat), ((l.take k).map List.length).sum ≤ (l.map List.length).sum
  | [], k => by simp
  | a :: l, 0 => by simp
  | a :: l, k + 1 => by
    have := sum_take l k
    simp only [List.take_succ_cons, List.map_cons, List.sum_cons]
    omega

theorem renG_len : ∀ (t : List Int) (m : Met), (renG numN m t).2.length ≤ m.length + t.length
  | [], m => by simp [renG]
  | c :: t, m => by
    unfold renG
    split
    · have h1 := renG_len t (numN m (-1 - c)).2
      have h2 := numN_len m (-1 - c)
      simp only [List.length_cons]
      omega
    · have h1 := renG_len t m
      simp only [List.length_cons]
      omega

set_option maxRecDepth 100000 in
set_option maxHeartbeats 1600000 in
theorem canon_any (v : Value) (l : List (List Int)) (w : World) (h : Rs w v l) (hn : l.length * 24 ≤ 140737488351232) (hsum : (l.map List.length).sum ≤ 4611686018427387904) :
    Calls Tryz.prog 68 #[v] w fun e w' => ∃ v' vs, e = .returned v' ∧ w'.ownsRow w.heap.size 36 1 v' l.length vs ∧ OwR w' w.heap.size vs (canL l) ∧ Below w.heap.size w w' := by
  obtain ⟨i1, hi1, hy0, hy1, hy2⟩ := info_parts info_ints
  obtain ⟨ao, cap, rfl, hao, hca, q0⟩ := Row.flat h
  unfold maxLen at hca
  have HR := hid h
  clear h q0
  go_enter Tryz.func68, Tryz.ntmps68
  go_wp2_with fail
  refine (numbersAsMet_any w).mono ?_
  rintro e w1 ⟨b, bx, rfl, hbx, hmv, hb1, hb2, hb3, hbl⟩
  have HBx := hid hbx
  have HMv := hid hmv
  have HB1 := hid hbl
  clear hbx hmv hbl
  go_wp2_with (first
    | (at_make; refine wpList_make_full _ rfl _ _ 41 rfl w.heap.size 36 i1 (.slice none 0 0) 1 under_rows hi1 hy0 hy1 .i64 .i64 _ _ l.length rfl rfl (by omega) (by omega) (by rw [hy2]; omega) (by unfold maxLen; omega) HB1.out.size ?_; intro w0 hown0 hgrow0))
  have hbR : b < w1.heap.size := HMv.out.lt
  have hbxR : bx < w1.heap.size := World.block_lt_of_cell? _ _ HBx.out
  have hRw : w.heap.size ≤ w1.heap.size := HB1.out.size
  have hb0 : Below w1.heap.size w1 w0 := (Below.refl _ _).grown hgrow0 (Nat.le_refl _) (by intro k hk; cases hk)
  rw [made_nilS] at hown0
  have HO0 := hid hown0
  have HB0 : Hid (Below w.heap.size w w0) := below_step HB1.out hb0
  have HN0 : Hid (NumOk b bx w0 []) := ⟨(Kp.of_below hb0).cell _ _ HBx.out, HMv.out.later hb0, fun p hp => (by cases hp)⟩
  clear hown0 hgrow0 hb0
  obtain ⟨R, hR⟩ : ∃ R, R = w1.heap.size := ⟨_, rfl⟩
  rw [← hR] at hbR hbxR hRw HO0 ⊢
  clear hR HBx HMv
  go_loopw [13] (fun i wr => ∃ (k : Nat) (vs : List Value) (dn : List (List Int)) (m : Met), k ≤ l.length ∧ i = .int .i64 k ∧ dn.length = k ∧ canL l = dn ++ canG m (l.drop k) ∧ wr.ownsRow w.heap.size 36 1 (.slice (some ⟨R, 0, none⟩) l.length l.length) l.length (vs ++ List.replicate (l.length - k) (.slice none 0 0)) ∧ OwR wr w.heap.size vs dn ∧ NumOk b bx wr m ∧ m.length ≤ ((l.take k).map List.length).sum ∧ Below w.heap.size w wr) (fun i _ => l.length - (intOf i).toNat)
  case atStart => exact ⟨0, [], [], [], Nat.zero_le _, rfl, rfl, rfl, by simpa using HO0.out, ⟨rfl, fun j u x hj => (by simp at hj)⟩, HN0.out, by simp, HB0.out⟩
  case round =>
    obtain ⟨k, vs, dn, m, hk, rfl, hdn, hcan, how, howr, hnum, hml, hbl⟩ := hrel
    have HDn := hid hdn
    have HCan := hid hcan
    have HOw := hid how
    have HOwr := hid howr
    have HNum := hid hnum
    have HMl := hid hml
    have HB := hid hbl
    clear hdn hcan how howr hnum hml HO0 HB0 HN0
    by_cases hlt : k < l.length
    · obtain ⟨g, off, ra, t, rc, rfl, hm, hc0, hit, ht8⟩ := (HR.out.kp (Kp.of_below hbl)).at hlt
      have HIt := hid hit
      have hvl : vs.length = k := HOwr.out.1.trans HDn.out
      have hRlt : R < wr.heap.size := own_lt HOw.out
      have HSum : Hid (m.length ≤ 4611686018427387904 ∧ (m.length + t.length ≤ ((l.take (k + 1)).map List.length).sum)) := by
        have h1 := HMl.out
        have h2 := sum_take l k
        rw [List.take_add_one, hm]
        simp only [Option.toList, List.map_append, List.map_cons, List.map_nil, List.sum_append, List.sum_cons, List.sum_nil]
        exact ⟨by omega, by omega⟩
      have HDr : Hid (l.drop k = t :: l.drop (k + 1)) := drop_get hm
      clear hm hit
      go_wp2_with fail
      refine (renumber_canon b bx _ t m wr (by omega) (by omega) hb3 HNum.out HIt.out ht8 HSum.out.1).mono ?_
      rintro e w2 ⟨v', rfl, ho2, hn2, hg2⟩
      obtain ⟨es, ck, hes⟩ := HNum.out.2.1.isMap
      have hR2 : R ≠ b := by omega
      have ho : w2.ownsRow w.heap.size 36 1 (.slice (some ⟨R, 0, none⟩) l.length l.length) l.length (vs ++ List.replicate (l.length - k) (.slice none 0 0)) := HOw.out.kept hg2 (.inr (by simp [Value.ownBlock]; omega))
      have hc3 : w2.cell? ⟨R, k, none⟩ = some (.slice none 0 0) := by
        have := World.ownsRow.cellAt ho k (by omega)
        rw [this, List.getElem?_append_right (by omega), hvl, Nat.sub_self, List.getElem?_replicate, if_pos (by omega)]
      have hf3 : w2.frozen? ⟨R, k, none⟩ = false := World.ownsRow.frozenAt ho k
      have hst := (World.ownsRow.stored ho k v').1
      have hset : (vs ++ List.replicate (l.length - k) (Value.slice none 0 0)).set k v' = (vs ++ [v']) ++ List.replicate (l.length - (k + 1)) (Value.slice none 0 0) := by
        rw [show l.length - k = (l.length - (k + 1)) + 1 by omega, List.replicate_succ, set_midI _ _ _ _ _ hvl]
        simp
      rw [hset] at hst
      have HSt := hid hst
      have HOwr2 : Hid (OwR (w2.setCell ⟨R, k, none⟩ v') w.heap.size (vs ++ [v']) (dn ++ [(renG numN m t).1])) := by
        refine ⟨by rw [List.length_append, List.length_append, HOwr.out.1]; rfl, fun j u x hj hx => ?_⟩
        have hstep : ∀ {u x}, OwI w2 w.heap.size u x → OwI (w2.setCell ⟨R, k, none⟩ v') w.heap.size u x := fun {u x} hu => hu.kept (set_grown w2 R k v') (ownsRow_apart hu.2 ho (by decide))
        by_cases hjl : j < vs.length
        · rw [List.getElem?_append_left hjl] at hj
          rw [List.getElem?_append_left (by rw [← HOwr.out.1]; exact hjl)] at hx
          have hu := HOwr.out.2 j u x hj hx
          exact hstep (hu.kept hg2 (own_notMap hu.2 hes))
        · rw [List.getElem?_append_right (by omega)] at hj
          rw [List.getElem?_append_right (by rw [← HOwr.out.1]; omega), ← HOwr.out.1] at hx
          have hj0 : j - vs.length = 0 := by
            have := (List.getElem?_eq_some_iff.1 hj).1
            simp at this
            omega
          rw [hj0] at hj hx
          simp at hj hx
          subst hj
          subst hx
          exact hstep (ho2.mono HB.out.size)
      have HNum2 : Hid (NumOk b bx (w2.setCell ⟨R, k, none⟩ v') (renG numN m t).2) := by
        refine ⟨?_, hn2.2.1.kept (set_grown w2 R k v') (by simpa using hR2), hn2.2.2⟩
        have hx : some bx ≠ some R := by simp; omega
        rw [World.cell?_of_block ((set_grown w2 R k v').block bx (World.block_lt_of_cell? _ _ hn2.1) hx)]
        exact hn2.1
      have HB2 : Hid (Below w.heap.size w (w2.setCell ⟨R, k, none⟩ v')) := (HB.out.grown hg2 HB.out.size (fun j hj => by cases hj; exact hb1)).setCell (p := ⟨R, k, none⟩) hRw _
      have HMl2 : Hid ((renG numN m t).2.length ≤ ((l.take (k + 1)).map List.length).sum) := by
        have h1 := renG_len t m
        have h2 := HSum.out.2
        show _ ≤ _
        omega
      have HCan2 : Hid (canL l = (dn ++ [(renG numN m t).1]) ++ canG (renG numN m t).2 (l.drop (k + 1))) := by
        show _ = _
        rw [HCan.out, HDr.out, canG]
        simp
      obtain ⟨va, vc, rfl, _, _⟩ := ho2.shape
      clear ho2 hn2 hg2 hst hset hes ho
      go_wp2
      go_roundw
      case rel => exact ⟨k + 1, vs ++ [_], dn ++ [(renG numN m t).1], (renG numN m t).2, by omega, by go_num, by rw [List.length_append, HDn.out]; rfl, HCan2.out, HSt.out, HOwr2.out, HNum2.out, HMl2.out, HB2.out⟩
      case measure => simp [intOf]; omega
    · have hke : k = l.length := by omega
      have HF : Hid (canL l = dn) := by
        show _ = _
        rw [HCan.out, List.drop_of_length_le (by omega)]
        simp [canG]
      have HO : Hid (wr.ownsRow w.heap.size 36 1 (.slice (some ⟨R, 0, none⟩) l.length l.length) l.length vs) := by
        have := HOw.out
        rw [show l.length - k = 0 by omega, List.replicate_zero, List.append_nil] at this
        exact this
      go_wp2
      go_ret
      exact ⟨_, vs, rfl, HO.out, by rw [HF.out]; exact HOwr.out, HB.out⟩

end Go.Proofs.YtoapgbaibpkckaaGreatDoor
