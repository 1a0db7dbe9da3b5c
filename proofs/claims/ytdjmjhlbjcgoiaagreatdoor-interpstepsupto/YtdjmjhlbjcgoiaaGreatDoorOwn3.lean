/- Texts of the proof, one behind the other. -/
import Derived.Test.YtdjmjhlbjcgoiaaGreatDoorOwn2
import Derived.Deep.Quiet
import Derived.BigQuiet
import Derived.Laws.Bits64b
import Derived.Test.YtdjmjhlbjcgoiaaGreatDoorOwn1
import Derived.Laws.Rows
import Derived.Laws.ResultCell
import Derived.Laws.Shifts
import Derived.Deep.MidRow
import Derived.BigRegion
import Derived.ChangeKeysEq
import Derived.Deep.WholeRow
import Derived.Laws.MakeOwn
set_option maxRecDepth 1000000
set_option maxHeartbeats 6400000
namespace Go.Proofs.YtdjmjhlbjcgoiaaGreatDoor
open Go.RowKit Go.Maps Go.BigFrame
theorem hid {p : Prop} (h : p) : Hid p := h
theorem box2 {w w1 : World} {x y : Value} {t : TypeId} (hb : Below (w.alloc (.cells #[x, y] t)).heap.size (w.alloc (.cells #[x, y] t)) w1) :
  w1.cell? ⟨w.heap.size, 0, none⟩ = some x ∧ w1.cell? ⟨w.heap.size, 1, none⟩ = some y ∧ Below w.heap.size w w1 :=
 ⟨(hb.cell (p := ⟨w.heap.size, 0, none⟩) (by simp)).trans (by simp), (hb.cell (p := ⟨w.heap.size, 1, none⟩) (by simp)).trans (by simp), zS (zA _) hb⟩
theorem xBR {P : Program} {id : Nat} {Q : Exit → Act → World → Prop} {a : Act} {w : World} {l : List Oper} (hm : P.follows .mixedOrders = true) (hB : Region.lexB .any l.toArray = true)
  (h : wpQuiet P l.toArray (fun w' => Below w.heap.size w w') (fun a' => ∀ w', Below w.heap.size w w' → Q .normal a' w') l a) : (Code.region id l.toArray true).wp P Q a w :=
 wp_region_quiet (C := fun w' => Below w.heap.size w w') hm hB (Below.refl _ _).drew (by simpa using h)
def encS (s : Sy) : List Value := [.string s.1, .int .i64 s.2]
def sameS (a b : ByteArray) : Bool := a.toList == b.toList
theorem hasClosure (nm : ByteArray) (B : Nat) (w : World) (hB : B < w.heap.size) (hcell : w.cell? ⟨B, 0, none⟩ = some (.string nm)) :
  PredBelow Tryz.prog 142 #[.pointer (some ⟨B, 0, none⟩)] (fun x => .agg (encS x).toArray) (fun x => sameS x.1 nm) w := fun W x hb => by
 have hc : W.cell? ⟨B, 0, none⟩ = some (.string nm) := (hb.cell (p := ⟨B, 0, none⟩) hB).trans hcell
 have hBW : B < W.heap.size := Nat.lt_of_lt_of_le hB hb.size
 have hne : B ≠ W.heap.size := by omega
 show Calls Tryz.prog 142 #[.agg #[.string x.1, .int .i64 x.2], .pointer (some ⟨B, 0, none⟩)] W _
 go_enter Tryz.func142, Tryz.ntmps142
 go_wp2
 all_goals (go_ret; exact ⟨rfl, hb.alloc hb.size _⟩)
def hasB (sig : List Sy) (nm : ByteArray) : Bool := sig.any fun x => sameS x.1 nm
theorem hasName_any (g off cap : Nat) (n : Nat) (sig : List Sy) (nm : ByteArray) (w : World) (hs : Sg w (.slice (some ⟨g, off, none⟩) sig.length cap) sig) (hn : n ≤ sig.length) (hl : 0 < sig.length) :
  Calls Tryz.prog 85 #[.slice (some ⟨g, off, none⟩) n cap, .string nm] w fun e w' => e = .returned (.bool (hasB (sig.take n) nm)) ∧ Below w.heap.size w w' := by
 have eg : ∀ args w, (callFunc 142 args).run Tryz.prog w = .ok (.enter 142 args) w := enters_of Tryz.func142 (by kernel_rfl) rfl
 obtain ⟨so, sc, hv, _, hsc, _⟩ := Row.flat hs
 have hg : g < w.heap.size := by
  obtain ⟨g', off', s, a, he, _, hc, _⟩ := Sg.at hs hl
  simp only [zX, Addr.mk.injEq] at he
  obtain ⟨rfl, _⟩ := he
  exact yJ _ _ hc
 have hbig : n ≤ 9223372036854775807 := by
  simp only [zZ] at hv
  obtain ⟨_, _, rfl⟩ := hv
  unfold maxLen at hsc; omega
 have hcon := AnyQ.slices_ContainsFunc Tryz.hasLay 2 Tryz.isAgg79 Tryz.sizeOf79 encS (fun _ => rfl) (fun x => sameS x.1 nm) 142 #[.pointer (some ⟨w.heap.size, 0, none⟩)] eg g off n cap sig (w.alloc (.cells #[.string nm] 9))
  (hasClosure nm w.heap.size _ (by simp) (by simp)) hn hbig (by simp; omega) (fun j hj i v hi => by
   refine Lib.cell?_alloc_some _ ?_
   obtain ⟨g', off', s, a, he, hm, h1, h2, _⟩ := Sg.at hs hj
   simp only [zX, Addr.mk.injEq] at he
   obtain ⟨rfl, rfl, _⟩ := he
   have hy : sig[j]! = (s, a) := by rw [List.getElem!_eq_getElem?_getD, hm]; rfl
   rw [hy] at hi
   match i, hi with
   | 0, hi => simp [encS] at hi; rw [← hi]; exact h1
   | 1, hi => simp [encS] at hi; rw [← hi]; exact h2
   | i + 2, hi => simp [encS] at hi)
 change Calls Tryz.prog 141 _ _ _ at hcon
 change Calls Tryz.prog _ _ _ (fun e w' => e = .returned (.bool (hasB (sig.take n) nm)) ∧ _) at hcon
 generalize hasB (sig.take n) nm = r at hcon ⊢
 have HC := hid hcon
 clear hcon hs hg hv
 go_enter Tryz.func85, Tryz.ntmps85
 go_wp2_with fail
 refine HC.out.mono ?_
 rintro e w' ⟨rfl, hb'⟩
 go_wp2
 go_ret
 exact ⟨rfl, ((Below.refl _ w).alloc (Nat.le_refl _) _).trans (hb'.mono (by simp))⟩
def sigGo (sig : List Sy) : Nat → List Sy → Int
 | _, [] => 0
 | k, s :: r => if symB s.1 then (if s.2 < 0 ∨ 8 < s.2 then 35 else if hasB (sig.take k) s.1 then 36 else sigGo sig (k + 1) r) else 34
def sigE (sig : List Sy) : Int := if 128 < sig.length then 37 else sigGo sig 0 sig
theorem Tabs.below {w w' : World} (h : Tabs w) (hb : Below w.heap.size w w') : Tabs w' := Utf8Tabs_below h hb
theorem xDQ (sv : Value) (sig : List Sy) (w : World) (hs : Sg w sv sig) (hT : Tabs w) :
  Calls Tryz.prog 38 #[sv] w fun e w' => e = .returned (.int .i64 (sigE sig)) ∧ Below w.heap.size w w' := by
 obtain ⟨so, sc, rfl, hso, hsc, _⟩ := Row.flat hs
 unfold maxLen at hsc
 have HS : Hid (Sg w (.slice so sig.length sc) sig) := hs
 have HT : Hid (Tabs w) := hT
 clear hs hT
 go_enter Tryz.func38, Tryz.ntmps38
 by_cases h128 : 128 < sig.length
 ·have HR : Hid (sigE sig = 37) := by show _ = _; unfold sigE; rw [if_pos h128]
  go_wp2
  go_ret
  exact ⟨ret1i HR.out.symm, Below.refl _ _⟩
 have HR : Hid (sigE sig = sigGo sig 0 sig) := by show _ = _; unfold sigE; rw [if_neg h128]
 go_wp2
 go_loopw [10] (fun i wr => ∃ k : Nat, k ≤ sig.length ∧ i = .int .i64 k ∧ sigGo sig 0 sig = sigGo sig k (sig.drop k) ∧ Below w.heap.size w wr) (fun i _ => sig.length - (intOf i).toNat)
 case atStart => exact ⟨0, Nat.zero_le _, rfl, rfl, Below.refl _ _⟩
 case round =>
  obtain ⟨k, hk, rfl, hgo, hbl⟩ := hrel
  have HG : Hid (sigGo sig 0 sig = sigGo sig k (sig.drop k)) := hgo
  clear hgo
  by_cases hlt : k < sig.length
  ·have HSr : Hid (Sg wr (.slice so sig.length sc) sig) := HS.out.kp (zK hbl)
   have HTr : Hid (Tabs wr) := HT.out.below hbl
   obtain ⟨g, off, s, a, rfl, hm, hc0, hc1, ha1, ha2, hs3⟩ := HSr.out.at hlt
   have HD : Hid (sigE sig = if symB s then (if a < 0 ∨ 8 < a then 35 else if hasB (sig.take k) s then 36 else sigGo sig (k + 1) (sig.drop (k + 1))) else 34) := by
    show _ = _
    rw [HR.out, HG.out, xAR hm]
    rfl
   clear hm
   go_wp2_with fail
   refine (isSymbolName_any s _ hs3 (HTr.out.below (zA _))).mono ?_
   rintro e w1 ⟨rfl, hb1⟩
   obtain ⟨hd0, hd1, hbl1⟩ := box2 hb1
   have HB : Hid (Below w.heap.size w w1) := zS hbl hbl1
   have HS1 : Hid (Sg w1 (.slice (some ⟨g, off, none⟩) sig.length sc) sig) := HSr.out.kp (zK hbl1)
   clear hb1 hbl1 hbl hc0 hc1
   cases hsy : symB s
   ·have HF : Hid (sigE sig = 34) := by show _ = _; rw [HD.out, hsy]; rfl
    go_wp2
    go_ret
    exact ⟨ret1i HF.out.symm, HB.out⟩
   by_cases ha0 : a < 0
   ·have HF : Hid (sigE sig = 35) := by show _ = _; rw [HD.out, hsy, if_pos rfl, if_pos (.inl ha0)]
    go_wp2
    go_ret
    exact ⟨ret1i HF.out.symm, HB.out⟩
   by_cases ha8 : 8 < a
   ·have HF : Hid (sigE sig = 35) := by show _ = _; rw [HD.out, hsy, if_pos rfl, if_pos (.inr ha8)]
    go_wp2
    go_ret
    exact ⟨ret1i HF.out.symm, HB.out⟩
   have HF : Hid (sigE sig = if hasB (sig.take k) s then 36 else sigGo sig (k + 1) (sig.drop (k + 1))) := by show _ = _; rw [HD.out, hsy, if_pos rfl, if_neg (by omega)]
   clear HD
   obtain ⟨hs, hhs⟩ : ∃ hs, hs = hasB (sig.take k) s := ⟨_, rfl⟩
   have HH : Hid (∀ W, Below w1.heap.size w1 W → Calls Tryz.prog 85 #[.slice (some ⟨g, off, none⟩) k sc, .string s] W fun e w' => e = .returned (.bool hs) ∧ Below W.heap.size W w') :=
    fun W hW => by rw [hhs]; exact hasName_any g off sc k sig s W (HS1.out.kp (zK hW)) (by omega) (by omega)
   rw [← hhs] at HF
   clear hhs
   have hksc : k ≤ sc := by omega
   go_wp2_with fail
   refine xBR (by kernel_rfl) (by kernel_rfl) ?_
   (go_big_quiet_want; go_big_quiet_op; go_big_quiet_on)
   (go_big_quiet_want; go_big_quiet_op; go_big_quiet_on)
   go_big_quiet_want
   refine ⟨.slice (some ⟨g, off, none⟩) k sc, fun w' hw' => ?_, ?_⟩
   ·unfold Oper.quietAt; go_simp
   simp only [Act.put, sA, sB, sC]
   go_big_quiet_on
   go_big_quiet_want
   refine ⟨.pointer (some ⟨wr.heap.size, 0, none⟩), fun w' hw' => ?_, ?_⟩
   ·unfold Oper.quietAt; go_simp
   simp only [Act.put, sA, sB, sC]
   go_big_quiet_on
   go_big_quiet_want
   refine ⟨.string s, fun w' hw' => ?_, ?_⟩
   ·have hh0 := (zK hw').cell _ _ hd0; unfold Oper.quietAt; go_simp
   simp only [Act.put, sA, sB, sC]
   go_big_quiet_on
   go_big_quiet_want
   refine ⟨.bool hs, fun w' hw' => ?_, ?_⟩
   ·unfold Oper.quietAt; go_simp; exact (HH.out w' hw').mono (fun e w2 ⟨he, hb⟩ => ⟨he, zS hw' hb⟩)
   simp only [Act.put, sA, sB, sC]
   go_big_quiet_on
   (go_big_quiet_want; go_big_quiet_op; go_big_quiet_on)
   refine wpQuiet_nil ?_
   intro w2 hb2
   have HB2 : Hid (Below w.heap.size w w2) := zS HB.out hb2
   clear hb2
   clear HH
   cases hs
   ·have HN : Hid (sigGo sig 0 sig = sigGo sig (k + 1) (sig.drop (k + 1))) := by show _ = _; rw [← HR.out, HF.out]; rfl
    go_wp2
    go_roundw
    case rel => exact ⟨k + 1, by omega, by go_num, HN.out, HB2.out⟩
    case measure => simp [intOf]; omega
   have HN : Hid (sigE sig = 36) := by show _ = _; rw [HF.out]; rfl
   go_wp2
   go_ret
   exact ⟨ret1i HN.out.symm, HB2.out⟩
  have hke : k = sig.length := by omega
  subst hke
  have HF : Hid (sigE sig = 0) := by show _ = _; rw [HR.out, HG.out, List.drop_length]; rfl
  go_wp2
  go_ret
  exact ⟨ret1i HF.out.symm, hbl⟩
def E2 (w : World) (g o : Nat) (x : Int × Int) : Prop :=
 (-9223372036854775808 ≤ x.1 ∧ x.1 ≤ 9223372036854775807) ∧ (-9223372036854775808 ≤ x.2 ∧ x.2 ≤ 9223372036854775807) ∧ w.cell? ⟨g, o, none⟩ = some (.int .i64 x.1) ∧ w.cell? ⟨g, o + 1, none⟩ = some (.int .i64 x.2)
theorem xGJ {t : TypeId} {z : Value} {n b : Nat} (h : (Tryz.prog.info? t).map (fun i => (i.zero, i.size, i.bytes)) = some (some z, n, b)) : ∃ i, Tryz.prog.info? t = some i ∧ i.zero = some z ∧ i.size = n ∧ i.bytes = b := by
 cases hi : Tryz.prog.info? t with
 | none => rw [hi] at h; cases h
 | some i =>
  rw [hi] at h
  simp only [Option.map_some, zX, Prod.mk.injEq] at h
  exact ⟨i, rfl, h.1, h.2.1, h.2.2⟩
def rowB (n : Nat) (U : Nat → Bool) : Array Value := ((List.range n).map fun j => Value.bool (U j)).toArray
theorem rowB_get {n : Nat} (U : Nat → Bool) {j : Nat} (hj : j < n) : (rowB n U)[j]? = some (.bool (U j)) := by simp [rowB, hj]
theorem rowB_set {n : Nat} (U : Nat → Bool) (j : Nat) (x : Bool) : (rowB n U).setIfInBounds j (.bool x) = rowB n (fun b => if b = j then x else U b) := by
 apply Array.ext_getElem?
 intro k
 rw [Array.getElem?_setIfInBounds]
 by_cases hk : k < n
 ·by_cases e : j = k
  ·subst e
   rw [if_pos rfl, if_pos (by simp [rowB]; omega), rowB_get _ hk, if_pos rfl]
  rw [if_neg e, rowB_get _ hk, rowB_get _ hk, if_neg (fun h => e h.symm)]
 have hs : ∀ V : Nat → Bool, (rowB n V)[k]? = none := fun V => by simp [rowB]; omega
 rw [hs, hs]
 split
 ·rw [if_neg (by simp [rowB]; omega)]
 rfl
theorem info_boolB : (Tryz.prog.info? 4).map (fun i => (i.zero, i.size, i.bytes)) = some (some (.bool false), 1, 1) := by kernel_rfl
theorem under_rowB : Tryz.prog.underlying 76 = some (.slice 4) := by kernel_rfl
theorem made_bool (n : Nat) : madeCells (Value.bool false).cells (n * 1) = rowB n (fun _ => false) := by
 apply Array.ext'
 have : (Value.bool false).cells = #[Value.bool false] := rfl
 rw [this, toList_madeCells_one]
 simp [rowB, List.map_const']
abbrev Ip := Int × List Mn
def EN (w : World) (g o : Nat) (x : Ip) : Prop := -9223372036854775808 ≤ x.1 ∧ x.1 ≤ 9223372036854775807 ∧ w.cell? ⟨g, o, none⟩ = some (.int .i64 x.1) ∧ ∃ pv, w.cell? ⟨g, o + 1, none⟩ = some pv ∧ Ms w pv x.2
theorem EN.kp {w w' : World} (hk : Kp w w') (g o : Nat) (x : Ip) (h : EN w g o x) : EN w' g o x := by
 obtain ⟨h1, h2, h3, pv, h4, h5⟩ := h
 exact ⟨h1, h2, hk.cell _ _ h3, pv, hk.cell _ _ h4, h5.kp hk⟩
def Ins (w : World) (v : Value) (l : List Ip) : Prop := Row EN 2 w v l
theorem Ins.kp {w w' : World} {v : Value} {l : List Ip} (h : Ins w v l) (hk : Kp w w') : Ins w' v l := Row.imp h hk.size (EN.kp hk)
theorem Ins.at {w : World} {ao : Option Addr} {n cap : Nat} {l : List Ip} (h : Ins w (.slice ao n cap) l) {k : Nat} (hk : k < l.length) :
  ∃ g off c p a1 c1, ao = some ⟨g, off, none⟩ ∧ l[k]? = some (c, p) ∧ w.cell? ⟨g, off + k * 2, none⟩ = some (.int .i64 c) ∧ w.cell? ⟨g, off + k * 2 + 1, none⟩ = some (.slice a1 p.length c1) ∧ Ms w (.slice a1 p.length c1) p ∧ -9223372036854775808 ≤ c ∧ c ≤ 9223372036854775807 ∧ p.length ≤ c1 ∧ c1 ≤ 9223372036854775807 := by
 obtain ⟨ao', cap', hv, _, _, hx⟩ := Row.flat h
 simp only [zZ] at hv
 obtain ⟨rfl, rfl, rfl⟩ := hv
 obtain ⟨g, off, ⟨c, p⟩, rfl, hm, h1, h2, h3, pv, h4, h5⟩ := hx k hk
 obtain ⟨a1, c1, rfl, hc1, hc2, _⟩ := Row.flat h5
 unfold maxLen at hc2
 exact ⟨g, off, c, p, a1, c1, rfl, hm, h3, h4, h5, h1, h2, hc1, by omega⟩
def lackB (f : Nat → Bool) (n : Nat) : Bool := (List.range n).any fun i => !f i
theorem lackB_no {f : Nat → Bool} {n : Nat} (h : ∀ i, i < n → f i = true) : lackB f n = false := by
 simp only [lackB, List.any_eq_false, List.mem_range]
 intro i hi
 simp [h i hi]
theorem lackB_yes {f : Nat → Bool} {n i : Nat} (hi : i < n) (h : f i = false) : lackB f n = true := by
 simp only [lackB, List.any_eq_true, List.mem_range]
 exact ⟨i, hi, by simp [h]⟩
theorem indexB_any (g : Nat) (f : Nat → Bool) (n cap : Nat) (w : World) (hn : n ≤ 9223372036854775807) (hg : ∀ i, i < n → w.cell? ⟨g, i, none⟩ = some (.bool (f i))) (hcap : n ≤ cap) :
  Calls Tryz.prog 88 #[.slice (some ⟨g, 0, none⟩) n cap, .bool false] w fun e w' => (∃ k : Int, e = .returned (.int .i64 k) ∧ (decide (0 ≤ k) = lackB f n)) ∧ w' = w := by
 have HG := hid hg
 clear hg
 go_enter Tryz.func88, Tryz.ntmps88
 go_wp2
 go_loopw [8] (fun x wr => ∃ k : Nat, k ≤ n ∧ x = .int .i64 k ∧ (∀ i, i < k → f i = true) ∧ wr = w) (fun x _ => n - (intOf x).toNat)
 case atStart => exact ⟨0, Nat.zero_le _, rfl, fun i h => absurd h (by omega), rfl⟩
 case round =>
  obtain ⟨k, hk, rfl, hf, hwr⟩ := hrel
  have HF := hid hf
  subst hwr
  clear hf
  by_cases hlt : k < n
  ·have hc := HG.out k hlt
   cases hfk : f k with
   | true =>
    rw [hfk] at hc
    go_wp2
    go_roundw
    case rel => exact ⟨k + 1, hlt, by go_num, fun i hi => (by rcases Nat.lt_succ_iff_lt_or_eq.1 hi with h | h; exact HF.out i h; rw [h]; exact hfk), trivial⟩
    case measure => simp [intOf]; omega
   | false =>
    rw [hfk] at hc
    go_wp2
    go_ret
    exact ⟨⟨k, rfl, by rw [lackB_yes hlt hfk]; simp⟩, rfl⟩
  obtain rfl : k = n := by omega
  go_wp2
  go_ret
  exact ⟨⟨-1, rfl, by rw [lackB_no HF.out]; rfl⟩, rfl⟩
theorem lacks_any (g : Nat) (f : Nat → Bool) (n cap : Nat) (w : World) (hn : n ≤ 9223372036854775807) (hg : ∀ i, i < n → w.cell? ⟨g, i, none⟩ = some (.bool (f i))) (hcap : n ≤ cap) :
  Calls Tryz.prog 40 #[.slice (some ⟨g, 0, none⟩) n cap, .bool false] w fun e w' => e = .returned (.bool (lackB f n)) ∧ w' = w := by
 have HC := hid (indexB_any g f n cap w hn hg hcap)
 clear hg
 go_enter Tryz.func40, Tryz.ntmps40
 go_wp2_with fail
 refine HC.out.mono ?_
 rintro e w1 ⟨⟨k, rfl, hk⟩, hw⟩
 have hw' := hw.symm
 subst hw'
 clear hw
 have HK := hid hk
 clear hk
 generalize hX : lackB f n = X at HK
 have HX := hid hX
 clear hX
 cases X with
 | true =>
  have h0 : 0 ≤ k := of_decide_eq_true HK.out
  go_wp2
  go_ret
  exact ⟨by rw [HX.out]; rfl, rfl⟩
 | false =>
  have h0 : decide (0 ≤ k) = false := HK.out
  go_wp2
  go_ret
  exact ⟨by rw [HX.out]; simp, rfl⟩
def arI (sig : List Sy) (c : Int) : Int := match sig[c.toNat]? with | none => 0 | some s => s.2
def gvn (f : Nat → Bool) (c : Nat) : Nat → Bool := fun i => if i = c then true else f i
def inGo (sig : List Sy) : (Nat → Bool) → List Ip → Int
 | f, [] => if lackB f sig.length = true then 120 else 0
 | f, (c, p) :: r => if c < 0 ∨ (sig.length : Int) ≤ c ∨ f c.toNat = true then 120 else if checkE p (arI sig c) = 20 then 121 else if checkE p (arI sig c) = 2 then 2 else inGo sig (gvn f c.toNat) r
def inE (sig : List Sy) (l : List Ip) : Int := if sigE sig = 0 then inGo sig (fun _ => false) l else sigE sig
theorem sigE_len {sig : List Sy} (h : sigE sig = 0) : sig.length ≤ 1000 := by
 unfold sigE at h
 split at h
 ·cases h
 omega
theorem xAG (w : World) : Below w.heap.size w w.drew := (Below.refl w.heap.size w).drew
theorem run_make_boolI (w : World) (n : Nat) (hn : n ≤ 140737488355328) : (Instr.makeSlice 76 (.int .i64 (n : Int)) (.int .i64 (n : Int))).run Tryz.prog w = .ok (.slice (some ⟨w.heap.size, 0, none⟩) n n) (w.alloc (.cells (rowB n (fun _ => false)) 4)) := by
 obtain ⟨i0, hi, hz0, hz1, hz2⟩ := xGJ info_boolB
 have h := run_make (P := Tryz.prog) w 76 4 i0 (.bool false) under_rowB hi hz0 .i64 .i64 (n : Int) (n : Int) (by omega) (Int.le_refl _) (by rw [hz2]; omega) (by omega)
 rw [hz1, Int.toNat_natCast, made_bool] at h
 exact h
theorem xCK (sv lv : Value) (sig : List Sy) (l : List Ip) (w : World) (hs : Sg w sv sig) (hl : Ins w lv l) (hT : Tabs w) :
  Calls Tryz.prog 11 #[sv, lv] w fun e w' => e = .returned (.int .i64 (inE sig l)) ∧ Below w.heap.size w w' := by
 obtain ⟨so, sc, rfl, hso, hsc, _⟩ := Row.flat hs
 obtain ⟨lo, lc, rfl, hlo, hlc, _⟩ := Row.flat hl
 unfold maxLen at hsc hlc
 have HS := hid hs
 have HL := hid hl
 have HT := hid hT
 clear hs hl hT
 go_enter Tryz.func11, Tryz.ntmps11
 go_wp2_with fail
 refine (xDQ _ sig w HS.out HT.out).mono ?_
 rintro e w1 ⟨rfl, hb1⟩
 have B1 := hid hb1
 clear hb1
 by_cases hE : sigE sig = 0
 ·have hn : sig.length ≤ 1000 := sigE_len hE
  have HE : Hid (inE sig l = inGo sig (fun _ => false) l) := by show _ = _; unfold inE; rw [if_pos hE]
  rw [hE]
  clear hE
  have hmk := run_make_boolI w1 sig.length (by omega)
  have hg0 : Hid ((w1.alloc (.cells (rowB sig.length (fun _ => false)) 4)).heap[w1.heap.size]? = some (.cells (rowB sig.length (fun _ => false)) 4 (0, 0))) := hid (yU _ _)
  have B2 := hid (zS B1.out (zA (w := w1) (.cells (rowB sig.length (fun _ => false)) 4)))
  have hgx : w.heap.size ≤ w1.heap.size := B1.out.size
  go_wp2
  clear hmk
  generalize w1.alloc (.cells (rowB sig.length (fun _ => false)) 4) = W2 at hg0 B2 ⊢
  generalize w1.heap.size = gx at hg0 hgx ⊢
  go_loopw [19] (fun x wr => ∃ (k : Nat) (f : Nat → Bool), k ≤ l.length ∧ x = .int .i64 k ∧ wr.heap[gx]? = some (.cells (rowB sig.length f) 4 (0, 0)) ∧ inGo sig (fun _ => false) l = inGo sig f (l.drop k) ∧ Below w.heap.size w wr) (fun x _ => l.length - (intOf x).toNat)
  case atStart => exact ⟨0, _, Nat.zero_le _, rfl, hg0.out, rfl, B2.out⟩
  case round =>
   clear hg0 B2
   obtain ⟨k, f, hk, rfl, hgb, hgo, hbl⟩ := hrel
   have HG := hid hgb
   have HO := hid hgo
   have BL := hid hbl
   clear hgb hgo hbl
   by_cases hlt : k < l.length
   ·obtain ⟨g, off, c, p, a1, c1, rfl, hm, hc0w, hc1w, hp, hcl, hcu, hp1, hp2⟩ := HL.out.at hlt
    have HD := hid (HO.out.trans (by rw [xAR hm]))
    clear HO
    have HM := hid hp
    have HMw := HM
    have HGx : Hid (gx < wr.heap.size) := hid (zL.1 HG.out).1
    obtain ⟨W, hW⟩ : ∃ X, X = wr.alloc (.cells #[.int .i64 c, .slice a1 p.length c1] 51) := ⟨_, rfl⟩
    have BW : Hid (Below wr.heap.size wr W) := by rw [hW]; exact zA _
    have y0 : W.cell? ⟨wr.heap.size, 0, none⟩ = some (.int .i64 c) := by rw [hW, cell_of_row _ _ _ _ _ _ (yU _ _)]; rfl
    have y1 : W.cell? ⟨wr.heap.size, 1, none⟩ = some (.slice a1 p.length c1) := by rw [hW, cell_of_row _ _ _ _ _ _ (yU _ _)]; rfl
    have HGW : Hid (W.heap[gx]? = some (.cells (rowB sig.length f) 4 (0, 0))) := hid ((BW.out.block _ HGx.out).trans HG.out)
    have BLW := hid (zS BL.out BW.out)
    have hc0 := (zK BL.out).cell _ _ hc0w
    have hc1 := (zK BL.out).cell _ _ hc1w
    have hgw : g < wr.heap.size := yJ _ _ hc0
    clear hm hp hc0w hc1w
    go_upto_region 8 with fail
    rw [← hW]
    clear hW hc0 hc1
    by_cases hneg : c < 0
    ·have hd : decide (c < 0) = true := decide_eq_true hneg
     have HR : Hid (inE sig l = 120) := by show _ = _; rw [HE.out, HD.out, inGo, if_pos (Or.inl hneg)]
     clear HD
     go_wp2
     go_ret
     exact ⟨ret1i HR.out.symm, BLW.out⟩
    by_cases hbig : (sig.length : Int) ≤ c
    ·have hd : decide (c < 0) = false := decide_eq_false hneg
     have hd2 : decide ((sig.length : Int) ≤ c) = true := decide_eq_true hbig
     have HR : Hid (inE sig l = 120) := by show _ = _; rw [HE.out, HD.out, inGo, if_pos (Or.inr (Or.inl hbig))]
     clear HD
     go_wp2
     go_ret
     exact ⟨ret1i HR.out.symm, BLW.out⟩
    obtain ⟨ci, rfl⟩ := Int.eq_ofNat_of_zero_le (Int.not_lt.1 hneg)
    have hci : ci < sig.length := by omega
    clear hneg hbig
    have hcg : W.cell? ⟨gx, ci, none⟩ = some (.bool (f ci)) := by rw [cell_of_row _ _ _ _ _ _ HGW.out, rowB_get _ hci]
    cases hfc : f ci with
    | true =>
     rw [hfc] at hcg
     have HR : Hid (inE sig l = 120) := by show _ = _; rw [HE.out, HD.out, inGo, if_pos (Or.inr (Or.inr (by simpa using hfc)))]
     clear HD
     go_wp2
     go_ret
     exact ⟨ret1i HR.out.symm, BLW.out⟩
    | false =>
     rw [hfc] at hcg
     have hfr : W.frozen? ⟨gx, ci, none⟩ = false := frozen_of_row W _ _ _ _ HGW.out
     obtain ⟨gs, os, sn, ar, rfl, hsm, _, hsa, hal, hau, _⟩ := HS.out.at hci
     have HAr : Hid (arI sig (ci : Int) = ar) := by show _ = _; unfold arI; rw [Int.toNat_natCast, hsm]
     obtain ⟨W3, hW3⟩ : ∃ X, X = W.setCell ⟨gx, ci, none⟩ (.bool true) := ⟨_, rfl⟩
     have HG3 : Hid (W3.heap[gx]? = some (.cells (rowB sig.length (gvn f ci)) 4 (0, 0))) := by show _ = _; rw [hW3, heap_setCell_same _ _ _ _ _ _ HGW.out, rowB_set]; rfl
     have B3 : Hid (Below w.heap.size w W3) := by rw [hW3]; exact BLW.out.setCell (p := ⟨gx, ci, none⟩) hgx (.bool true)
     have x0 : W3.cell? ⟨wr.heap.size, 0, none⟩ = some (.int .i64 (ci : Int)) := by rw [hW3, World.cell?_setCell_other _ _ _ _ (fun e => by injection e with e1; exact absurd HGx.out (by omega))]; exact y0
     have x1 : W3.cell? ⟨wr.heap.size, 1, none⟩ = some (.slice a1 p.length c1) := by rw [hW3, World.cell?_setCell_other _ _ _ _ (fun e => by injection e with e1; exact absurd HGx.out (by omega))]; exact y1
     have x2 := (zK B3.out).cell _ _ hsa
     have HM3 := hid (HMw.out.kp (zK B3.out))
     have HDn : Hid (inGo sig (fun _ => false) l = if checkE p ar = 20 then 121 else if checkE p ar = 2 then 2 else inGo sig (gvn f ci) (l.drop (k + 1))) := by show _ = _; rw [HD.out, inGo, if_neg (by rintro (h | h | h); exact absurd h (by omega); exact absurd h (by omega); rw [Int.toNat_natCast, hfc] at h; cases h), HAr.out, Int.toNat_natCast]
     clear HD hsm hsa HAr hfc
     go_upto_region 11 with fail
     rw [← hW3]
     clear hW3 y0 y1 hcg hfr HGW BLW BW HM
     have hS : Kp W3 W3.drew := zK (xAG W3)
     refine wp_region_held_drew (S := fun w' => Kp W3 w') (by kernel_rfl) hS (fun _ => ?_)
     obtain ⟨W0, hW0⟩ : ∃ X, X = W3.drew := ⟨_, rfl⟩
     have bW0 : Below W3.heap.size W3 W0 := by rw [hW0]; exact xAG W3
     rw [← hW0] at hS ⊢
     clear hW0
     refine wpAnyH_take (i := 0) (v := .pointer (some ⟨wr.heap.size, 1, none⟩)) rfl (by kernel_rfl) (by kernel_rfl) (by kernel_rfl) (fun _ _ _ h => h) (Or.inl ⟨by rfl, fun w' h => by go_simp⟩) hS ?_
     simp only [Act.put, sA]
     refine wpAnyH_take (i := 1) (v := .slice a1 p.length c1) rfl (by kernel_rfl) (by kernel_rfl) (by kernel_rfl) (fun _ _ _ h => h) (Or.inl ⟨by rfl, fun w' h => by have hh0 := h.cell _ _ x1; go_simp⟩) hS ?_
     simp only [Act.put]
     refine wpAnyH_take (i := 2) (v := .slice (some ⟨gs, os, none⟩) sig.length sc) rfl (by kernel_rfl) (by kernel_rfl) (by kernel_rfl) (fun _ _ _ h => h) (Or.inl ⟨by rfl, fun w' h => by go_simp⟩) hS ?_
     simp only [Act.put]
     refine wpAnyH_take (i := 3) (v := .pointer (some ⟨wr.heap.size, 0, none⟩)) rfl (by kernel_rfl) (by kernel_rfl) (by kernel_rfl) (fun _ _ _ h => h) (Or.inl ⟨by rfl, fun w' h => by go_simp⟩) hS ?_
     simp only [Act.put]
     refine wpAnyH_take (i := 4) (v := .int .i64 (ci : Int)) rfl (by kernel_rfl) (by kernel_rfl) (by kernel_rfl) (fun _ _ _ h => h) (Or.inl ⟨by rfl, fun w' h => by have hh0 := h.cell _ _ x0; go_simp⟩) hS ?_
     simp only [Act.put]
     refine wpAnyH_take (i := 5) (v := .pointer (some ⟨gs, os + ci * 2, none⟩)) rfl (by kernel_rfl) (by kernel_rfl) (by kernel_rfl) (fun _ _ _ h => h) (Or.inl ⟨by rfl, fun w' h => by go_simp⟩) hS ?_
     simp only [Act.put]
     refine wpAnyH_take (i := 6) (v := .pointer (some ⟨gs, os + ci * 2 + 1, none⟩)) rfl (by kernel_rfl) (by kernel_rfl) (by kernel_rfl) (fun _ _ _ h => h) (Or.inl ⟨by rfl, fun w' h => by go_simp⟩) hS ?_
     simp only [Act.put]
     refine wpAnyH_take (i := 7) (v := .int .i64 ar) rfl (by kernel_rfl) (by kernel_rfl) (by kernel_rfl) (fun _ _ _ h => h) (Or.inl ⟨by rfl, fun w' h => by have hh0 := h.cell _ _ x2; go_simp⟩) hS ?_
     simp only [Act.put]
     refine wpAnyH_ready (rs := [8]) (by kernel_rfl) (by simp) (AllReadyH.cons rfl (fun K hK => ?_) (AllReadyH.nil))
     go_simp
     refine (check_anyY _ p ar W0 (HM3.out.kp hS) hal hau).mono ?_
     rintro e w4 ⟨rfl, hb4⟩
     have HG4 : Hid (w4.heap[gx]? = some (.cells (rowB sig.length (gvn f ci)) 4 (0, 0))) := by
      have h3 : gx < W3.heap.size := (zL.1 HG3.out).1
      have h4 : gx < W0.heap.size := Nat.lt_of_lt_of_le h3 bW0.size
      exact (hb4.block _ h4).trans ((bW0.block _ h3).trans HG3.out)
     have B4 := hid (zS B3.out (zS bW0 hb4))
     refine hK.out _ _ (hS.trans (zK hb4)) (fun _ => ?_)
     clear hK K hS hb4 bW0 HG3 B3 HM3 x0 x1 x2
     try simp only [Act.put, sA]
     refine wpAnyH_done (by kernel_rfl) ?_ _
     try simp only [sD, sE, sF, sA, sC, sB]
     generalize hz : checkE p ar = z at HDn ⊢
     clear hz
     by_cases h20 : z = 20
     ·subst h20
      have HR : Hid (inE sig l = 121) := by show _ = _; rw [HE.out, HDn.out, if_pos rfl]
      go_wp2
      go_ret
      exact ⟨ret1i HR.out.symm, B4.out⟩
     have hn20 : (z == 20) = false := by simpa using h20
     have hd20 : decide (z = 20) = false := decide_eq_false h20
     by_cases h2 : z = 2
     ·subst h2
      have HR : Hid (inE sig l = 2) := by show _ = _; rw [HE.out, HDn.out, if_neg (by decide), if_pos rfl]
      clear h20
      go_wp2
      go_ret
      exact ⟨ret1i HR.out.symm, B4.out⟩
     have hn2 : (z == 2) = false := by simpa using h2
     have hd2 : decide (z = 2) = false := decide_eq_false h2
     have HN : Hid (inGo sig (fun _ => false) l = inGo sig (gvn f ci) (l.drop (k + 1))) := by show _ = _; rw [HDn.out, if_neg h20, if_neg h2]
     clear HDn
     go_wp2
     go_roundw
     case rel => exact ⟨k + 1, _, hlt, by go_num, HG4.out, HN.out, B4.out⟩
     case measure => simp [intOf]; omega
   obtain rfl : k = l.length := by omega
   have HR : Hid (inE sig l = if lackB f sig.length = true then 120 else 0) := by show _ = _; rw [HE.out, HO.out, List.drop_length, inGo]
   clear HO
   go_upto_region 17 with fail
   go_wp2_with fail
   refine (lacks_any gx f sig.length sig.length wr (by omega) (fun i hi => by rw [cell_of_row _ _ _ _ _ _ HG.out, rowB_get _ hi]) (Nat.le_refl _)).mono ?_
   rintro e w5 ⟨rfl, hw5⟩
   have hw6 := hw5.symm
   subst hw6
   clear hw5
   generalize lackB f sig.length = X at HR ⊢
   cases X with
   | true =>
    go_wp2
    go_ret
    exact ⟨ret1i (by rw [HR.out]; rfl), BL.out⟩
   | false =>
    go_wp2
    go_ret
    exact ⟨ret1i (by rw [HR.out]; rfl), BL.out⟩
 have HE : Hid (inE sig l = sigE sig) := by show _ = _; unfold inE; rw [if_neg hE]
 have hne : (sigE sig != 0) = true := by rw [bne_iff_ne]; exact hE
 clear hE
 generalize hz : sigE sig = z at hne ⊢
 have HZ := hid hz
 clear hz
 go_wp2_with fail
 go_wp2
 go_ret
 exact ⟨ret1i (by rw [HE.out, HZ.out]), B1.out⟩
theorem is_takeI {w : World} {ao : Option Addr} {n cap v : Nat} {es : List Int} (h : Is w (.slice ao n cap) es) (hv : v ≤ es.length) : Is w (.slice ao v cap) (es.take v) := by
 obtain ⟨ao', cap', hv', h1, h2, hx⟩ := h
 simp only [zZ] at hv'
 obtain ⟨rfl, rfl, rfl⟩ := hv'
 refine ⟨ao, cap, by rw [zH, Nat.min_eq_left hv], by rw [zH, Nat.min_eq_left hv]; omega, h2, fun h0 => ?_⟩
 obtain ⟨g, off, e1, e2, e3⟩ := hx (by rw [zH, Nat.min_eq_left hv] at h0; omega)
 refine ⟨g, off, e1, e2, fun k x hk => e3 k x ?_⟩
 rw [List.getElem?_take] at hk
 split at hk
 ·exact hk
 cases hk
theorem notZero_any (x : Int) (w : World) :
  Calls Tryz.prog 97 #[.int .i64 x] w fun e w' => e = .returned (.bool (x != 0)) ∧ w' = w := by
 go_enter Tryz.func97, Tryz.ntmps97
 go_wp2
 go_ret
 exact ⟨rfl, rfl⟩
theorem indexNZ_any (vv : Value) (xs : List Int) (w : World) (hv : Is w vv xs) :
  Calls Tryz.prog 150 #[vv, .func (.func 97) #[] #[]] w fun e w' => ∃ n : Int, e = .returned (.int .i64 n) ∧ decide (0 ≤ n) = (xs.any fun x => x != 0) ∧ w' = w := by
 obtain ⟨ao, cap, rfl, hao, hca, _⟩ := Row.flat hv
 unfold maxLen at hca
 have HV := hid hv
 clear hv
 go_enter Tryz.func150, Tryz.ntmps150
 go_wp2
 go_loopw [8] (fun i wr => ∃ k : Nat, k ≤ xs.length ∧ i = .int .i64 k ∧ (xs.take k).any (fun x => x != 0) = false ∧ wr = w) (fun i _ => xs.length - (intOf i).toNat)
 case atStart => exact ⟨0, Nat.zero_le _, rfl, by simp, rfl⟩
 case round =>
  obtain ⟨k, hk, rfl, hno, hwr⟩ := hrel
  have HNo := hid hno
  subst hwr
  clear hno
  by_cases hlt : k < xs.length
  ·obtain ⟨g, off, x, rfl, hx1, hx2, hx3, hx4⟩ := HV.out.at hlt
   have HX := hid hx1
   clear hx1
   go_wp2_with fail
   refine (notZero_any x wr).mono ?_
   rintro e w2 ⟨rfl, hw2⟩
   have hw3 := hw2.symm
   subst hw3
   clear hw2 hx2
   cases hl : (x != 0) with
   | true =>
    have HF : Hid ((xs.any fun x => x != 0) = true) := by
     show _ = _
     rw [List.any_eq_true]
     exact ⟨x, zD HX.out, hl⟩
    clear hl
    go_wp2
    go_ret
    exact ⟨_, rfl, by rw [HF.out]; simp, rfl⟩
   | false =>
    have HF : Hid ((xs.take (k + 1)).any (fun x => x != 0) = false) := by
     show _ = _
     rw [xAM HX.out, List.any_append, HNo.out]
     simp only [List.any_cons, List.any_nil, hl, Bool.or_self]
    clear hl
    go_wp2
    go_roundw
    case rel => exact ⟨k + 1, by omega, by go_num, HF.out, trivial⟩
    case measure => simp only [intOf]; omega
  have HF : Hid ((xs.any fun x => x != 0) = false) := by
   have h9 := HNo.out
   rw [zO (by omega)] at h9
   exact h9
  go_wp2
  go_ret
  exact ⟨-1, rfl, by rw [HF.out]; rfl, rfl⟩
theorem containsNZ_any (vv : Value) (xs : List Int) (w : World) (hv : Is w vv xs) :
  Calls Tryz.prog 96 #[vv, .func (.func 97) #[] #[]] w fun e w' => e = .returned (.bool (xs.any fun x => x != 0)) ∧ w' = w := by
 have HC := hid (indexNZ_any vv xs w hv)
 clear hv
 generalize (xs.any fun x => x != 0) = B at HC ⊢
 go_enter Tryz.func96, Tryz.ntmps96
 go_wp2_with fail
 refine HC.out.mono ?_
 rintro e w2 ⟨n, rfl, hn, hw2⟩
 have hw3 := hw2.symm
 subst hw3
 clear hw2
 have HN := hid hn
 clear hn
 go_wp2
 go_ret
 exact ⟨ret1b HN.out, rfl⟩
def alonB (v : Nat) (m : Mn) : Bool := decide (m.2.length = v + 1) && !((m.2.take v).any fun x => x != 0)
theorem riseClosure_any (cv ev : Value) (m : Mn) (v c : Nat) (w : World) (hm : Mo w cv ev m) (hc : w.cell? ⟨c, 0, none⟩ = some (.int .i64 (v : Int))) (hv : v ≤ 1000) :
  Calls Tryz.prog 95 #[.agg #[cv, ev], .pointer (some ⟨c, 0, none⟩)] w fun e w' => e = .returned (.bool (alonB v m)) ∧ Below w.heap.size w w' := by
 obtain ⟨a1, c1, rfl, hc1, hc2, _⟩ := hm.1.flat
 obtain ⟨a2, c2, rfl, he1, he2, _⟩ := Row.flat hm.2
 unfold maxLen at hc2 he2
 have HM := hid hm.2
 clear hm
 obtain ⟨W, hW⟩ : ∃ X, X = w.alloc (.cells #[.slice a1 m.1.length c1, .slice a2 m.2.length c2] 37) := ⟨_, rfl⟩
 have BW : Hid (Below w.heap.size w W) := by rw [hW]; exact zA _
 have y1 : W.cell? ⟨w.heap.size, 1, none⟩ = some (.slice a2 m.2.length c2) := by rw [hW, cell_of_row _ _ _ _ _ _ (yU _ _)]; rfl
 have y2 := (zK BW.out).cell _ _ hc
 subst hW
 by_cases hl : m.2.length = v + 1
 ·have HA : Hid (alonB v m = !((m.2.take v).any fun x => x != 0)) := by show _ = _; unfold alonB; rw [decide_eq_true hl, Bool.true_and]
  have HT := hid ((is_takeI (v := v) HM.out (by omega)).kp (zK BW.out))
  have hd1 : ((m.2.length : Int) == (v : Int) + 1) = true := by simp; omega
  have hlc : v ≤ c2 := by omega
  generalize m.2.length = N at hl hd1 y1 HT BW y2 ⊢
  clear hl
  go_enter Tryz.func95, Tryz.ntmps95
  go_wp2_with fail
  refine (containsNZ_any _ _ _ HT.out).mono ?_
  rintro e w2 ⟨rfl, hw2⟩
  have hw3 := hw2.symm
  subst hw3
  clear hw2
  go_wp2
  go_ret
  exact ⟨ret1b HA.out.symm, BW.out⟩
 have HA : Hid (alonB v m = false) := by show _ = _; unfold alonB; rw [decide_eq_false hl, Bool.false_and]
 have hd1 : ((m.2.length : Int) == (v : Int) + 1) = false := by simp; omega
 generalize m.2.length = N at hl hd1 y1 BW y2 ⊢
 clear hl
 go_enter Tryz.func95, Tryz.ntmps95
 go_wp2
 go_ret
 exact ⟨ret1b HA.out.symm, BW.out⟩
theorem indexRise_any (vv : Value) (p : List Mn) (v c : Nat) (w : World) (hp : Ms w vv p) (hc : w.cell? ⟨c, 0, none⟩ = some (.int .i64 (v : Int))) (hv : v ≤ 1000) :
  Calls Tryz.prog 149 #[vv, .func (.func 95) #[] #[.pointer (some ⟨c, 0, none⟩)]] w fun e w' => ∃ n : Int, e = .returned (.int .i64 n) ∧ decide (0 ≤ n) = p.any (alonB v) ∧ Below w.heap.size w w' := by
 obtain ⟨ao, cap, rfl, hao, hca, _⟩ := Row.flat hp
 unfold maxLen at hca
 have HV := hid hp
 have HC := hid hc
 clear hp hc
 go_enter Tryz.func149, Tryz.ntmps149
 go_wp2
 go_loopw [8] (fun i wr => ∃ k : Nat, k ≤ p.length ∧ i = .int .i64 k ∧ (p.take k).any (alonB v) = false ∧ Below w.heap.size w wr) (fun i _ => p.length - (intOf i).toNat)
 case atStart => exact ⟨0, Nat.zero_le _, rfl, by simp, Below.refl _ _⟩
 case round =>
  obtain ⟨k, hk, rfl, hno, hbl⟩ := hrel
  have HNo := hid hno
  have HB := hid hbl
  clear hno
  by_cases hlt : k < p.length
  ·obtain ⟨g, off, cc, es, a1, c1, a2, c2, rfl, hx1, hx2, hx3, hmo, _, _, _, _⟩ := (HV.out.kp (zK hbl)).at hlt
   have HX := hid hx1
   have HMo := hid hmo
   clear hx1 hbl hmo
   go_wp2_with fail
   refine (riseClosure_any _ _ (cc, es) v c wr HMo.out ((zK HB.out).cell _ _ HC.out) hv).mono ?_
   rintro e w2 ⟨rfl, hb2⟩
   have HB2 := hid (zS HB.out hb2)
   clear hb2 hx2 hx3
   cases hl : alonB v (cc, es) with
   | true =>
    have HF : Hid (p.any (alonB v) = true) := by
     show _ = _
     rw [List.any_eq_true]
     exact ⟨_, zD HX.out, hl⟩
    clear hl
    go_wp2
    go_ret
    exact ⟨_, rfl, by rw [HF.out]; simp, HB2.out⟩
   | false =>
    have HF : Hid ((p.take (k + 1)).any (alonB v) = false) := by
     show _ = _
     rw [xAM HX.out, List.any_append, HNo.out]
     simp only [List.any_cons, List.any_nil, hl, Bool.or_self]
    clear hl
    go_wp2
    go_roundw
    case rel => exact ⟨k + 1, by omega, by go_num, HF.out, HB2.out⟩
    case measure => simp only [intOf]; omega
  have HF : Hid (p.any (alonB v) = false) := by
   have h9 := HNo.out
   rw [zO (by omega)] at h9
   exact h9
  go_wp2
  go_ret
  exact ⟨-1, rfl, by rw [HF.out]; rfl, HB.out⟩
theorem containsRise_any (vv : Value) (p : List Mn) (v c : Nat) (w : World) (hp : Ms w vv p) (hc : w.cell? ⟨c, 0, none⟩ = some (.int .i64 (v : Int))) (hv : v ≤ 1000) :
  Calls Tryz.prog 94 #[vv, .func (.func 95) #[] #[.pointer (some ⟨c, 0, none⟩)]] w fun e w' => e = .returned (.bool (p.any (alonB v))) ∧ Below w.heap.size w w' := by
 have HC := hid (indexRise_any vv p v c w hp hc hv)
 clear hp hc
 generalize p.any (alonB v) = B at HC ⊢
 go_enter Tryz.func94, Tryz.ntmps94
 go_wp2_with fail
 refine HC.out.mono ?_
 rintro e w2 ⟨n, rfl, hn, hb2⟩
 have HN := hid hn
 clear hn
 go_wp2
 go_ret
 exact ⟨ret1b HN.out, hb2⟩
theorem risesAlone_any (vv : Value) (p : List Mn) (v : Nat) (w : World) (hp : Ms w vv p) (hv : v ≤ 1000) :
  Calls Tryz.prog 43 #[vv, .int .i64 (v : Int)] w fun e w' => e = .returned (.bool (p.any (alonB v))) ∧ Below w.heap.size w w' := by
 have HB := hid (zA (w := w) (.cells #[.int .i64 (v : Int)] 3))
 have HC := hid (containsRise_any vv p v w.heap.size (w.alloc (.cells #[.int .i64 (v : Int)] 3)) (hp.kp (zK HB.out)) (by rw [cell_of_row _ _ _ _ _ _ (yU _ _)]; rfl) hv)
 clear hp
 go_enter Tryz.func43, Tryz.ntmps43
 go_wp2_with fail
 refine HC.out.mono ?_
 rintro e w2 ⟨rfl, hb2⟩
 have HB2 := hid (zS HB.out hb2)
 clear hb2
 go_wp2
 go_ret
 exact ⟨rfl, HB2.out⟩
def metA : List Int → List Int → List Int
 | m, [] => m
 | m, c :: r => if 0 ≤ c ∨ c ∈ m then metA m r else metA (m ++ [c]) r
def varsL (t : List Int) : List Int := (metA [] t).map fun c => -1 - c
theorem set_keyed : Keyed Tryz.prog 3 := int_keyed (q := .i64) (by kernel_rfl)
theorem xER : Tryz.prog.underlying 98 = some (.map 3 99) := by kernel_rfl
theorem zero_unit (w : World) : (zeroValue 99).run Tryz.prog w = .ok (.agg #[]) w := by kernel_rfl
theorem key_int {c : Int} (h1 : -9223372036854775808 ≤ c) (h2 : c ≤ 9223372036854775807) : keyOf Tryz.prog 3 (.int .i64 c) = some (.int .i64 c) := by
 refine keyOf_int_mk (by kernel_rfl) ?_
 have e0 : IntKind.i64.min = -9223372036854775808 := by decide
 have e1 : IntKind.i64.max = 9223372036854775807 := by decide
 simp [Lit.wf, e0, e1]
 omega
theorem Is.flatI {w : World} {v : Value} {xs : List Int} (h : Is w v xs) : ∃ ao cap, v = .slice ao xs.length cap ∧ xs.length ≤ cap ∧ cap ≤ 9223372036854775807 ∧
  ∀ k : Nat, k < xs.length → ∃ g off x, ao = some ⟨g, off, none⟩ ∧ xs[k]? = some x ∧ w.cell? ⟨g, off + k, none⟩ = some (.int .i64 x) := by
 obtain ⟨ao, cap, rfl, h1, h2, hx⟩ := Row.flat h
 refine ⟨ao, cap, rfl, h1, by unfold maxLen at h2; omega, fun k hk => ?_⟩
 obtain ⟨g, off, x, rfl, hm, _, _, h3⟩ := hx k hk
 rw [Nat.mul_one] at h3
 exact ⟨g, off, x, rfl, hm, h3⟩
theorem xAX {w w' : World} {n : Nat} (h : w' = w.drewN n) : Below w.heap.size w w' := by rw [h]; exact below_drewN (Below.refl _ _) n
theorem cell_int_new (w : World) (x : Int) (j : Nat) (u : Value) (hj : [Value.int .i64 x][j]? = some u) : (w.alloc (.cells #[.int .i64 x] 3)).cell? ((⟨w.heap.size, 0, none⟩ : Addr).add j) = some u := by
 rw [Addr.add_lit, Nat.zero_add, cell_of_row _ _ _ _ _ _ (yU _ _)]
 simpa using hj
theorem own_notMap {w : World} {base n : Nat} {e : TypeId} {s b : Nat} {v : Value} {xs : List Value} {es : Array MapEntry} {clock : Nat} (h : w.ownsRow base e s v n xs) (hb : w.heap[b]? = some (.map es clock)) : v.ownBlock = none ∨ v.ownBlock ≠ some b := by
 rcases h.2 with ⟨rfl, _⟩ | ⟨g, cap, cur, rfl, _, hg, _⟩
 ·exact .inl rfl
 refine .inr ?_
 simp only [Value.ownBlock]
 intro e
 cases e
 rw [hg] at hb
 cases hb
theorem vars_row {H : Type} {w wr w4 : World} {o o' : Obj} {n b : Nat} {R : Value → Option (DataW H × List MemPlace)} {D : DataW H} {x : Value} {zs : List Int} {kt : TypeId} (h : OwI wr w.heap.size x zs) (hm : wr.ownsMap Tryz.prog kt R b n D) (hg : (wr.alloc o).grownBy w4 (some b)) :
  OwI w4 w.heap.size x zs ∧ (w4.alloc o').ownsRow w.heap.size 3 1 x zs.length (zs.map I64) := by
 have hm2 := hm.alloc o
 obtain ⟨es, clock, hb, _⟩ := hm2
 have h2 := h.later (zA o)
 have h3 := h2.kept hg (own_notMap h2.2 hb)
 exact ⟨h3, xAC h3.2 (zA o')⟩
theorem vars_next {H : Type} {w wr w4 w5 : World} {o o' : Obj} {b : Nat} {D : DataW H} {x5 x4 : Value} {m : List Int} {x : Int} (hB : Below w.heap.size w wr) (h : OwI wr w.heap.size x4 (m.map fun c => -1 - c)) (hm : wr.ownsMap Tryz.prog 3 unitElem b m.length D) (hh : ∀ c : Int, Maps.has D (.int .i64 c) = decide (c ∈ m))
  (hg : (wr.alloc o).grownBy w4 (some b)) (hm4 : w4.ownsMap Tryz.prog 3 unitElem b (m.length + 1) (D.put (.int .i64 x) (.agg []))) (hown : w5.ownsRow w.heap.size 3 1 x5 ((m.map fun c => -1 - c).length + 1) ((m.map fun c => -1 - c).map I64 ++ [.int .i64 (-1 - x)])) (hgr : (w4.alloc o').grownBy w5 x4.ownBlock) (hz : -9223372036854775808 ≤ -1 - x ∧ -1 - x ≤ 9223372036854775807) (hb : w.heap.size ≤ b := by exact Nat.le_refl _) :
  Hid (OwI w5 w.heap.size x5 ((m ++ [x]).map fun c => -1 - c) ∧ w5.ownsMap Tryz.prog 3 unitElem b (m ++ [x]).length (D.put (.int .i64 x) (.agg [])) ∧ (∀ c : Int, Maps.has (D.put (.int .i64 x) (.agg [])) (.int .i64 c) = decide (c ∈ m ++ [x])) ∧ Below w.heap.size w w5) := by
 have hT := hm.tidy set_keyed
 have hK : WideAt.IsKeyLit (.int .i64 x) := set_keyed.key (key_int (by omega) (by omega))
 obtain ⟨h4, h4'⟩ := vars_row (o' := o') h hm hg
 obtain ⟨es, clock, hbm, _⟩ := hm4.alloc o'
 have b1 : Below w.heap.size w w4 := (zS hB (zA o)).grown hg (zS hB (zA o)).size (fun j hj => by cases hj; exact hb)
 have b2 : Below w.heap.size w (w4.alloc o') := zS b1 (zA o')
 refine ⟨⟨fun j z hj => ?_, ?_⟩, ?_, fun c => ?_, b2.grown hgr b2.size (fun j hj => own_blk h4' hj)⟩
 ·rw [yI] at hj
  by_cases hjl : j < (m.map fun c => -1 - c).length
  ·rw [zN hjl] at hj
   exact h.1 j z hj
  rw [zM (by omega)] at hj
  have e0 : j - (m.map fun c => -1 - c).length = 0 := by
   have := (zB.1 hj).1
   simp at this
   simp
   omega
  rw [e0] at hj
  simp at hj
  omega
 ·rw [yI, yI, zF]
  exact hown
 ·rw [zF]
  refine (hm4.alloc o').kept hgr (fun e => ?_)
  rcases own_notMap h4' hbm with h0 | h0
  ·rw [h0] at e
   cases e
  exact h0 e.symm
 by_cases e : c = x
 ·subst e
  rw [has_put_same hT.isMap hK]
  simp
 rw [has_put_other (by simpa using e), hh]
 simp [e]
theorem vars_any (v : Value) (t : List Int) (w : World) (h : Is w v t) (hb : t.length * 8 ≤ 140737488351232) :
  Calls Tryz.prog 23 #[v] w fun e w' => ∃ v', e = .returned v' ∧ OwI w' w.heap.size v' (varsL t) ∧ Below w.heap.size w w' := by
 obtain ⟨i1, hi1, hy0, hy1, hy2⟩ := info_parts info_int
 obtain ⟨ao, cap, rfl, hao, hca, q0⟩ := Row.flat h
 unfold maxLen at hca
 have HT : Hid (Is w (.slice ao t.length cap) t) := h
 clear h q0
 have hmm := @run_makeMap Tryz.prog
 go_enter Tryz.func23, Tryz.ntmps23
 go_wp2
 go_loopw [4, 12] (fun x i wr => ∃ (k : Nat) (m : List Int) (D : DataW Unit), k ≤ t.length ∧ i = .int .i64 k ∧ metA [] t = metA m (t.drop k) ∧ m.length ≤ k ∧ OwI wr w.heap.size x (m.map fun c => -1 - c) ∧ wr.ownsMap Tryz.prog 3 unitElem w.heap.size m.length D ∧ (∀ c : Int, Maps.has D (.int .i64 c) = decide (c ∈ m)) ∧ Below w.heap.size w wr) (fun _ i _ => t.length - (intOf i).toNat)
 case atStart => exact ⟨0, [], .map [], Nat.zero_le _, rfl, rfl, Nat.le_refl _, ⟨fun k x hk => (by simp at hk), World.ownsRow_nil _ _ _ _⟩, World.ownsMap_made w _ _ _, fun c => (by simp [Maps.has]), zA _⟩
 case round =>
  obtain ⟨k, m, D, hk, rfl, hme, hml, how, hmap, hhas, hbl⟩ := hrel
  have HMe : Hid (metA [] t = metA m (t.drop k)) := hme
  have HOw : Hid (OwI wr w.heap.size u4 (m.map fun c => -1 - c)) := how
  have HMap : Hid (wr.ownsMap Tryz.prog 3 unitElem w.heap.size m.length D) := hmap
  have HHas : Hid (∀ c : Int, Maps.has D (.int .i64 c) = decide (c ∈ m)) := hhas
  have HB : Hid (Below w.heap.size w wr) := hbl
  clear hme how hmap hhas
  by_cases hlt : k < t.length
  ·obtain ⟨g, off, x, rfl, hx1, hx2, hx3, hx4⟩ := (HT.out.kp (zK hbl)).at hlt
   have hd : t.drop k = x :: t.drop (k + 1) := xAR hx1
   have HD : Hid (t.drop k = x :: t.drop (k + 1)) := hd
   clear hx1 hd hbl
   by_cases hx0 : 0 ≤ x
   ·have HN : Hid (metA [] t = metA m (t.drop (k + 1))) := by show _ = _; rw [HMe.out, HD.out, metA, if_pos (.inl hx0)]
    go_wp2
    go_roundw
    case rel => exact ⟨k + 1, m, D, by omega, by go_num, HN.out, by omega, HOw.out, HMap.out, HHas.out, HB.out⟩
    case measure => simp [intOf]; omega
   have HKey : Hid (keyOf Tryz.prog 3 (.int .i64 x) = some (.int .i64 x)) := key_int hx3 hx4
   by_cases hin : x ∈ m
   ·have HN : Hid (metA [] t = metA m (t.drop (k + 1))) := by show _ = _; rw [HMe.out, HD.out, metA, if_pos (.inr hin)]
    have hh : Maps.has D (.int .i64 x) = true := by rw [HHas.out, decide_eq_true hin]
    go_wp2_with (first
     | (at_lookup; refine wpList_lookup_own_unit _ rfl _ _ 98 rfl 3 99 set_keyed xER (zero_unit _) w.heap.size m.length D rfl HMap.out _ _ rfl HKey.out ?_; rw [hh]))
    go_roundw
    case rel => exact ⟨k + 1, m, D, by omega, by go_num, HN.out, by omega, HOw.out.later (zA _), HMap.out.alloc _, HHas.out, zS HB.out (zA _)⟩
    case measure => simp [intOf]; omega
   have HN : Hid (metA [] t = metA (m ++ [x]) (t.drop (k + 1))) := by
    show _ = _
    rw [HMe.out, HD.out, metA, if_neg (fun hh => by rcases hh with hh | hh; exact hx0 hh; exact hin hh)]
   have hh : Maps.has D (.int .i64 x) = false := by rw [HHas.out, decide_eq_false hin]
   have hw : IntKind.i64.wrap (-1 - x) = -1 - x := yA _ ⟨by omega, by omega⟩
   have hml2 : m.length < maxLen := by unfold maxLen; omega
   have HZ : Hid (-9223372036854775808 ≤ -1 - x ∧ -1 - x ≤ 9223372036854775807) := ⟨by omega, by omega⟩
   go_wp2_with (first
    | (at_lookup; refine wpList_lookup_own_unit _ rfl _ _ 98 rfl 3 99 set_keyed xER (zero_unit _) w.heap.size m.length D rfl HMap.out _ _ rfl HKey.out ?_; rw [hh])
    | (at_mapUpdate; refine wpList_mapUpdate_in _ rfl _ _ _ 98 rfl 3 99 set_keyed xER unitElem w.heap.size m.length D rfl (HMap.out.alloc _) hml2 _ _ _ rfl rfl HKey.out (.agg []) [] unitElem_mk ?_; intro w4 hown4 hturn4; have HM4 : Hid (w4.ownsMap Tryz.prog 3 unitElem w.heap.size (m.length + 1) (D.put (.int .i64 x) (.agg []))) := hown4; have HG4 : Hid ((wr.alloc (.cells #[] 99)).grownBy w4 (some w.heap.size)) := hturn4.grown; clear hown4 hturn4)
    | (at_builtin; refine wpList_append_own _ rfl _ _ 30 rfl w.heap.size 3 i1 _ 1 8 xBQ hi1 hy0 hy1 hy2 rfl (by decide) u4 (m.map fun c => -1 - c).length ((m.map fun c => -1 - c).map I64) rfl (vars_row HOw.out HMap.out HG4.out).2 ⟨w4.heap.size, 0, none⟩ 1 1 [.int .i64 (-1 - x)] rfl rfl (cell_int_new _ _) (by intro u hu; simp at hu; subst hu; rfl) (by rw [zJ]; unfold maxLen; omega) (by rw [zJ]; omega) (Nat.le_trans (Nat.le_trans HB.out.size (zA _).size) (Nat.le_trans HG4.out.size (zA _).size)) ?_; intro v5 w5 hown5 hgrow5 _))
   have HFin := vars_next (H := Unit) (b := w.heap.size) HB.out HOw.out HMap.out HHas.out HG4.out HM4.out hown5 hgrow5 HZ.out
   clear hown5 hgrow5
   try go_wp2
   go_roundw
   case rel => exact ⟨k + 1, m ++ [x], _, by omega, by go_num, HN.out, by rw [zF, List.length_singleton]; omega, HFin.out.1, HFin.out.2.1, HFin.out.2.2.1, HFin.out.2.2.2⟩
   case measure => simp [intOf]; omega
  have hke : k = t.length := by omega
  have HF : Hid (varsL t = m.map fun c => -1 - c) := by show _ = _; unfold varsL; rw [HMe.out, zP (by omega)]; rfl
  clear hbl
  go_wp2
  go_ret
  exact ⟨_, rfl, by rw [HF.out]; exact HOw.out, HB.out⟩
def isVarB (n : Int) : Bool := decide (0 ≤ n) && decide (n < 1048576)
theorem isVariable_any (n : Int) (w : World) : Calls Tryz.prog 55 #[.int .i64 n] w fun e w' => e = .returned (.bool (isVarB n)) ∧ w' = w := by
 go_enter Tryz.func55, Tryz.ntmps55
 by_cases h : 0 ≤ n
 ·have HF : Hid (isVarB n = decide (n < 1048576)) := by show _ = _; unfold isVarB; rw [decide_eq_true h]; rfl
  go_wp2
  go_ret
  exact ⟨ret1b HF.out.symm, rfl⟩
 have HF : Hid (isVarB n = false) := by show _ = _; unfold isVarB; rw [decide_eq_false h]; rfl
 go_wp2
 go_ret
 exact ⟨ret1b HF.out.symm, rfl⟩
end Go.Proofs.YtdjmjhlbjcgoiaaGreatDoor
