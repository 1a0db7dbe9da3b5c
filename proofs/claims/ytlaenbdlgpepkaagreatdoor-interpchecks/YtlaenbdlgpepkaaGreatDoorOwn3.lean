/- Texts of the proof, one behind the other. -/
import Derived.Test.YtlaenbdlgpepkaaGreatDoorOwn2
import Derived.Laws.RangeString
import Derived.Laws.RangeAny
import Derived.Ground.NamesProg
import Derived.Ground.SlgfProg
import Derived.Shelf.SlGeneric
import Derived.Shelf.Strings.Prefix
import Derived.Shelf.Unicode.ValidAny
import Derived.Shelf.SlicesQ.IndexFunc
import Derived.Deep.Quiet
import Derived.BigQuiet
import Derived.Laws.Bits64b
import Derived.Test.YtlaenbdlgpepkaaGreatDoorOwn1
import Derived.Laws.Rows
import Derived.Laws.ResultCell
import Derived.Laws.Shifts
import Derived.Deep.MidRow
import Derived.BigRegion
import Derived.ChangeKeysEq
import Derived.Deep.WholeRow
import Derived.Laws.MakeOwn
/- What isName answers. -/
namespace Go.Proofs.YtlaenbdlgpepkaaGreatDoor
open Go.RowKit Go.Maps

def letB (r : Int) : Bool := (decide (97 ≤ r) && decide (r ≤ 122)) || (decide (65 ≤ r) && decide (r ≤ 90)) || decide (128 ≤ r)
def folB (r : Int) : Bool := (decide (48 ≤ r) && decide (r ≤ 57)) || decide (r = 95) || decide (r = 39)

set_option maxRecDepth 100000 in
theorem isLetter_any (r : Int) (w : World) : Calls Tryz.prog 173 #[.int .i32 r] w fun e w' => e = .returned (.bool (letB r)) ∧ w' = w := by
  obtain ⟨B, hB⟩ : ∃ B, B = letB r := ⟨_, rfl⟩
  rw [← hB]
  have HB : Hid (B = letB r) := hB
  clear hB
  go_enter Tryz.func173, Tryz.ntmps173
  by_cases h1 : 97 ≤ r
  · by_cases h2 : r ≤ 122
    · have HF : Hid (B = true) := by show _ = _; rw [HB.out]; unfold letB; simp [h1, h2]
      clear HB
      go_wp2
      go_ret
      exact ⟨ret1b HF.out.symm, rfl⟩
    · have HF : Hid (B = decide (128 ≤ r)) := by show _ = _; rw [HB.out]; unfold letB; rw [decide_eq_false h2, decide_eq_false (show ¬ r ≤ 90 by omega)]; simp
      clear HB
      have h3 : 65 ≤ r := by omega
      have h4 : ¬ r ≤ 90 := by omega
      go_wp2
      go_ret
      exact ⟨ret1b HF.out.symm, rfl⟩
  · by_cases h3 : 65 ≤ r
    · by_cases h4 : r ≤ 90
      · have HF : Hid (B = true) := by show _ = _; rw [HB.out]; unfold letB; simp [h3, h4]
        clear HB
        go_wp2
        go_ret
        exact ⟨ret1b HF.out.symm, rfl⟩
      · have HF : Hid (B = decide (128 ≤ r)) := by show _ = _; rw [HB.out]; unfold letB; rw [decide_eq_false h1, decide_eq_false h4]; simp
        clear HB
        go_wp2
        go_ret
        exact ⟨ret1b HF.out.symm, rfl⟩
    · have HF : Hid (B = decide (128 ≤ r)) := by show _ = _; rw [HB.out]; unfold letB; rw [decide_eq_false h1, decide_eq_false h3]; simp
      clear HB
      go_wp2
      go_ret
      exact ⟨ret1b HF.out.symm, rfl⟩

set_option maxRecDepth 100000 in
theorem followsLetter_any (r : Int) (w : World) : Calls Tryz.prog 174 #[.int .i32 r] w fun e w' => e = .returned (.bool (folB r)) ∧ w' = w := by
  obtain ⟨B, hB⟩ : ∃ B, B = folB r := ⟨_, rfl⟩
  rw [← hB]
  have HB : Hid (B = folB r) := hB
  clear hB
  go_enter Tryz.func174, Tryz.ntmps174
  by_cases h1 : 48 ≤ r
  · by_cases h2 : r ≤ 57
    · have HF : Hid (B = true) := by show _ = _; rw [HB.out]; unfold folB; simp [h1, h2]
      clear HB
      go_wp2
      go_ret
      exact ⟨ret1b HF.out.symm, rfl⟩
    · by_cases h3 : r = 95
      · have HF : Hid (B = true) := by show _ = _; rw [HB.out]; unfold folB; simp [h3]
        have h3b : (r == 95) = true := by rw [beq_iff_eq]; exact h3
        clear HB
        go_wp2
        go_ret
        exact ⟨ret1b HF.out.symm, rfl⟩
      · have HF : Hid (B = decide (r = 39)) := by show _ = _; rw [HB.out]; unfold folB; rw [decide_eq_false h2, decide_eq_false h3]; simp
        have h3b : (r == 95) = false := by rw [beq_eq_false_iff_ne]; exact h3
        clear HB
        go_wp2
        go_ret
        exact ⟨ret1b (by rw [HF.out]; rfl), rfl⟩
  · by_cases h3 : r = 95
    · omega
    · have HF : Hid (B = decide (r = 39)) := by show _ = _; rw [HB.out]; unfold folB; rw [decide_eq_false h1, decide_eq_false h3]; simp
      have h3b : (r == 95) = false := by rw [beq_eq_false_iff_ne]; exact h3
      clear HB
      go_wp2
      go_ret
      exact ⟨ret1b (by rw [HF.out]; rfl), rfl⟩

theorem width_pos (s : ByteArray) (pos : Nat) (h : pos < s.size) : 1 ≤ (Utf8.decode s pos).2 := by
  by_cases ha : (s[pos]'h).toNat < 128
  · rw [decode_ascii s pos h ha]
    exact Nat.le_refl _
  · exact (decode_high s pos h (by omega)).2

/-- Whether the runes from a place on may stand in a name. -/
def nmGo (s : ByteArray) : Nat → Nat → Bool
  | 0, _ => true
  | b + 1, pos => if pos < s.size then (letB (Utf8.decode s pos).1 || (!decide (pos = 0) && folB (Utf8.decode s pos).1)) && nmGo s b (pos + (Utf8.decode s pos).2) else true

theorem nmGo_end (s : ByteArray) (b pos : Nat) (h : ¬ pos < s.size) : nmGo s b pos = true := by
  cases b with
  | zero => rfl
  | succ b => simp [nmGo, h]

def nameB (B : Bool) (s : ByteArray) : Bool := !decide (s.size = 0) && (!decide (32 < s.size) && (B && nmGo s s.size 0))

theorem below_iter (w : World) (s : ByteArray) (pos : Nat) : Below w.heap.size w (w.iter s pos) := below_alloc _

set_option maxRecDepth 1000000 in
set_option maxHeartbeats 1600000 in
theorem isName_any (B : Bool) (s : ByteArray) (w : World) (hs : s.size ≤ 9223372036854775807) (hV : Calls Tryz.prog 172 #[.string s] w fun e w' => e = .returned (.bool B) ∧ Below w.heap.size w w') :
    Calls Tryz.prog 139 #[.string s] w fun e w' => e = .returned (.bool (nameB B s)) ∧ Below w.heap.size w w' := by
  have HV : Hid (Calls Tryz.prog 172 #[.string s] w fun e w' => e = .returned (.bool B) ∧ Below w.heap.size w w') := hV
  clear hV
  go_enter Tryz.func139, Tryz.ntmps139
  by_cases h0 : s.size = 0
  · have he : s.toList.isEmpty = true := by
      have hl : s.toList.length = 0 := by rw [← h0]; simp [ByteArray.toList_eq]
      rw [List.length_eq_zero_iff.mp hl]; rfl
    have HF : Hid (nameB B s = false) := by show _ = _; unfold nameB; rw [decide_eq_true h0]; rfl
    go_wp2
    go_ret
    exact ⟨ret1b HF.out.symm, Below.refl _ _⟩
  · have he : s.toList.isEmpty = false := by
      cases hl : s.toList with
      | nil => exact absurd (by have := congrArg List.length hl; simpa [ByteArray.toList_eq] using this) h0
      | cons a l => rfl
    by_cases h32 : 32 < s.size
    · have HF : Hid (nameB B s = false) := by show _ = _; unfold nameB; rw [decide_eq_true h32]; simp
      go_wp2
      go_ret
      exact ⟨ret1b HF.out.symm, Below.refl _ _⟩
    · go_wp2_with fail
      refine HV.out.mono ?_
      rintro e w1 ⟨rfl, hb1⟩
      have HB1 : Hid (Below w.heap.size w w1) := hb1
      clear hb1
      cases B
      · have HF : Hid (nameB false s = false) := by show _ = _; unfold nameB; simp
        go_wp2
        go_ret
        exact ⟨ret1b HF.out.symm, HB1.out⟩
      · have HF : Hid (nameB true s = nmGo s s.size 0) := by show _ = _; unfold nameB; rw [decide_eq_false h0, decide_eq_false h32]; rfl
        go_wp2
        go_loopw [] (fun w' => ∃ (pos b : Nat), w' = w1.iter s pos ∧ nmGo s s.size 0 = nmGo s b pos ∧ s.size ≤ pos + b) (fun w' => s.size - w'.iterPos w1.heap.size)
        case atStart => exact ⟨0, s.size, rfl, rfl, by omega⟩
        case round =>
          obtain ⟨pos, b, rfl, hc, hb⟩ := hrel
          have HC : Hid (nmGo s s.size 0 = nmGo s b pos) := hc
          clear hc
          by_cases hp : pos < s.size
          · have hnx : ∀ ty, (Instr.next (.pointer (some ⟨w1.heap.size, 0, none⟩)) true ty).run Tryz.prog (w1.iter s pos) = _ := fun ty => run_next_any w1 s pos ty hp
            have hwd := width_pos s pos hp
            obtain ⟨b', rfl⟩ : ∃ b', b = b' + 1 := ⟨b - 1, by omega⟩
            obtain ⟨r, hr⟩ : ∃ r : Nat, r = (Utf8.decode s pos).1 := ⟨_, rfl⟩
            obtain ⟨wd, hwd2⟩ : ∃ wd : Nat, wd = (Utf8.decode s pos).2 := ⟨_, rfl⟩
            have HS : Hid (nmGo s s.size 0 = ((letB (r : Int) || (!decide (pos = 0) && folB (r : Int))) && nmGo s b' (pos + wd))) := by
              show _ = _
              rw [HC.out, nmGo, if_pos hp, ← hr, ← hwd2]
            rw [← hwd2] at hwd
            have HFi : Hid (s.size ≤ pos + wd + b') := by show _ ≤ _; omega
            rw [← hr, ← hwd2] at hnx
            clear hr hwd2 HC
            go_wp2_with fail
            refine (isLetter_any (r : Int) _).mono ?_
            rintro e w9 ⟨rfl, hw9⟩
            have hw8 := hw9.symm
            subst hw8
            clear hw9 hnx
            cases hL : letB (r : Int)
            · by_cases hp0 : pos = 0
              · have HFF : Hid (nameB true s = false) := by show _ = _; rw [HF.out, HS.out, hL, decide_eq_true hp0]; rfl
                subst hp0
                go_wp2
                go_ret
                exact ⟨ret1b HFF.out.symm, below_step HB1.out (below_iter _ _ _)⟩
              · have hp0b : ((pos : Int) == 0) = false := by rw [beq_eq_false_iff_ne]; omega
                go_wp2_with fail
                refine (followsLetter_any (r : Int) _).mono ?_
                rintro e w9 ⟨rfl, hw9⟩
                have hw8 := hw9.symm
                subst hw8
                clear hw9
                cases hFo : folB (r : Int)
                · have HFF : Hid (nameB true s = false) := by show _ = _; rw [HF.out, HS.out, hL, hFo]; simp
                  go_wp2
                  go_ret
                  exact ⟨ret1b HFF.out.symm, below_step HB1.out (below_iter _ _ _)⟩
                · have HN : Hid (nmGo s s.size 0 = nmGo s b' (pos + wd)) := by show _ = _; rw [HS.out, hL, hFo, decide_eq_false hp0]; rfl
                  go_wp2
                  go_roundw
                  case rel => exact ⟨pos + wd, b', rfl, HN.out, HFi.out⟩
                  case measure => simp; omega
            · have HN : Hid (nmGo s s.size 0 = nmGo s b' (pos + wd)) := by show _ = _; rw [HS.out, hL]; rfl
              go_wp2
              go_roundw
              case rel => exact ⟨pos + wd, b', rfl, HN.out, HFi.out⟩
              case measure => simp; omega
          · have HFF : Hid (nameB true s = true) := by show _ = _; rw [HF.out, HC.out, nmGo_end s b pos hp]
            have hnx : ∀ ty, (Instr.next (.pointer (some ⟨w1.heap.size, 0, none⟩)) true ty).run Tryz.prog (w1.iter s pos) = _ := fun ty => run_next_end w1 s pos ty hp
            go_wp2
            go_ret
            exact ⟨ret1b HFF.out.symm, below_step HB1.out (below_iter _ _ _)⟩

end Go.Proofs.YtlaenbdlgpepkaaGreatDoor

/- The library's functions that term reaches, laid at this program. -/
namespace Go.Proofs
open Go.Shelf Go.RowKit Go.Lib

/- 140 -/
def Tryz.trimLay_ren : Go.Shelf.Ren := ⟨fun | 102 => 140 | 209 => 175 | 207 => 195 | n => n, fun | 9 => 9 | 4 => 4 | 3 => 3 | n => n, fun | n => n⟩
theorem Tryz.trimLay : Go.Proofs.Lays.n102 Tryz.prog Tryz.trimLay_ren := {
  mixed := by kernel_rfl
  f102 := Tryz.func140.trans (congrArg some (by kernel_rfl))
  f207 := Tryz.func195.trans (congrArg some (by kernel_rfl))
  f209 := Tryz.func175.trans (congrArg some (by kernel_rfl))
  t3 := Tryz.underlying3
  a3 := Tryz.isAgg3
  z3 := Tryz.sizeOf3
  v3 := Tryz.zeroValue3
  t4 := Tryz.underlying4
  a4 := Tryz.isAgg4
  z4 := Tryz.sizeOf4
  v4 := Tryz.zeroValue4
  t9 := Tryz.underlying9
  a9 := Tryz.isAgg9
  z9 := Tryz.sizeOf9
  v9 := Tryz.zeroValue9 }

/- 172 -/
def Tryz.validLay_ren : Go.Shelf.Ren := ⟨fun | 196 => 172 | 259 => 194 | n => n, fun | 9 => 9 | 4 => 4 | 3 => 3 | 5 => 5 | 12 => 12 | 119 => 251 | 0 => 0 | 46 => 204 | 139 => 254 | 138 => 253 | 53 => 207 | n => n, fun | 3 => 1 | 4 => 2 | n => n⟩
theorem Tryz.validLay : Go.Proofs.Lays.n196 Tryz.prog Tryz.validLay_ren := {
  mixed := by kernel_rfl
  f196 := Tryz.func172.trans (congrArg some (by kernel_rfl))
  f259 := Tryz.func194.trans (congrArg some (by kernel_rfl))
  t0 := Tryz.underlying0
  a0 := Tryz.isAgg0
  z0 := Tryz.sizeOf0
  v0 := Tryz.zeroValue0
  t3 := Tryz.underlying3
  a3 := Tryz.isAgg3
  z3 := Tryz.sizeOf3
  v3 := Tryz.zeroValue3
  t4 := Tryz.underlying4
  a4 := Tryz.isAgg4
  z4 := Tryz.sizeOf4
  v4 := Tryz.zeroValue4
  t5 := Tryz.underlying5
  a5 := Tryz.isAgg5
  z5 := Tryz.sizeOf5
  v5 := Tryz.zeroValue5
  t9 := Tryz.underlying9
  a9 := Tryz.isAgg9
  z9 := Tryz.sizeOf9
  v9 := Tryz.zeroValue9
  t12 := Tryz.underlying12
  a12 := Tryz.isAgg12
  z12 := Tryz.sizeOf12
  v12 := Tryz.zeroValue12
  t46 := Tryz.underlying204
  a46 := Tryz.isAgg204
  z46 := Tryz.sizeOf204
  v46 := Tryz.zeroValue204
  t53 := Tryz.underlying207
  a53 := Tryz.isAgg207
  z53 := Tryz.sizeOf207
  v53 := Tryz.zeroValue207
  t119 := Tryz.underlying251
  a119 := Tryz.isAgg251
  z119 := Tryz.sizeOf251
  t138 := Tryz.underlying253
  a138 := Tryz.isAgg253
  z138 := Tryz.sizeOf253
  v138 := Tryz.zeroValue253
  t139 := Tryz.underlying254
  a139 := Tryz.isAgg254
  z139 := Tryz.sizeOf254
  v139 := Tryz.zeroValue254
  g3 := by kernel_rfl
  g4 := by kernel_rfl }

def Tryz.hasLay_ren : Go.Shelf.Ren := ⟨fun | 8 => 141 | 6 => 176 | n => n, fun | 22 => 22 | 23 => 79 | 25 => 196 | 4 => 4 | 3 => 3 | 0 => 0 | n => n, fun | n => n⟩
theorem Tryz.hasLay : Go.Proofs.SlLaysH0.n8 Tryz.prog Tryz.hasLay_ren := {
  mixed := by kernel_rfl
  f6 := ⟨Tryz.f176.name, by decide, Tryz.func176.trans (congrArg some (by kernel_rfl))⟩
  f8 := ⟨Tryz.f141.name, by decide, Tryz.func141.trans (congrArg some (by kernel_rfl))⟩
  t0 := Tryz.underlying0
  a0 := Tryz.isAgg0
  z0 := Tryz.sizeOf0
  v0 := Tryz.zeroValue0
  t3 := Tryz.underlying3
  a3 := Tryz.isAgg3
  z3 := Tryz.sizeOf3
  v3 := Tryz.zeroValue3
  t4 := Tryz.underlying4
  a4 := Tryz.isAgg4
  z4 := Tryz.sizeOf4
  v4 := Tryz.zeroValue4
  t22 := Tryz.underlying22
  a22 := Tryz.isAgg22
  z22 := Tryz.sizeOf22
  v22 := Tryz.zeroValue22
  t25 := Tryz.underlying196
  a25 := Tryz.isAgg196
  z25 := Tryz.sizeOf196
  v25 := Tryz.zeroValue196 }

end Go.Proofs

namespace Go.Proofs.YtlaenbdlgpepkaaGreatDoor
open Go.RowKit Go.Maps

/- 172 -/
def Tabs (w : World) : Prop := Lib.Utf8Tabs (Tryz.validLay_ren.g 3) (Tryz.validLay_ren.g 4) w

theorem valid_any (s : ByteArray) (w : World) (hs : s.size ≤ 9223372036854775807) (hT : Tabs w) :
    Calls Tryz.prog 172 #[.string s] w fun e w' => e = .returned (.bool (Lib.validD s.data.toList)) ∧ Below w.heap.size w w' := Any.utf8_ValidString Tryz.validLay s w hs hT

/-- A name without its mark. -/
def bare (s : ByteArray) : ByteArray := ⟨(Lib.trimSuffix s.data.toList "#".toUTF8.data.toList).toArray⟩

def symB (s : ByteArray) : Bool := nameB (Lib.validD (bare s).data.toList) (bare s)

theorem bare_size (s : ByteArray) : (bare s).size ≤ s.size := by
  show (Lib.trimSuffix s.data.toList _).toArray.size ≤ s.data.size
  unfold Lib.trimSuffix
  split
  · simp only [List.size_toArray, List.length_take, Array.length_toList]; omega
  · simp

set_option maxRecDepth 100000 in
theorem isSymbolName_any (s : ByteArray) (w : World) (hs : s.size ≤ 9223372036854775807) (hT : Tabs w) :
    Calls Tryz.prog 84 #[.string s] w fun e w' => e = .returned (.bool (symB s)) ∧ Below w.heap.size w w' := by
  have cT : Calls Tryz.prog 140 #[.string s, .string "#".toUTF8] w fun e w' => e = .returned (.string (bare s)) ∧ w' = w := Any.strings_TrimSuffix Tryz.trimLay s "#".toUTF8 w hs
  have hb := bare_size s
  have cN := isName_any (Lib.validD (bare s).data.toList) (bare s) w (by omega) (valid_any _ w (by omega) hT)
  have HT : Hid (Calls Tryz.prog 140 #[.string s, .string "#".toUTF8] w fun e w' => e = .returned (.string (bare s)) ∧ w' = w) := cT
  have HN : Hid (Calls Tryz.prog 139 #[.string (bare s)] w fun e w' => e = .returned (.bool (symB s)) ∧ Below w.heap.size w w') := cN
  clear cT cN hb
  generalize bare s = b at HT HN
  generalize symB s = B at HN ⊢
  go_enter Tryz.func84, Tryz.ntmps84
  go_wp2_with fail
  refine HT.out.mono ?_
  rintro e w9 ⟨rfl, hw9⟩
  have hw8 := hw9.symm
  subst hw8
  clear hw9
  go_wp2_with fail
  refine HN.out.mono ?_
  rintro e w9 ⟨rfl, hb9⟩
  go_wp2
  go_ret
  exact ⟨rfl, hb9⟩

end Go.Proofs.YtlaenbdlgpepkaaGreatDoor

/- What hasName, CheckSig and Check answer. -/
namespace Go.Proofs.YtlaenbdlgpepkaaGreatDoor
open Go.RowKit Go.Maps Go.BigFrame

theorem hid {p : Prop} (h : p) : Hid p := h

theorem box2 {w w1 : World} {x y : Value} {t : TypeId} (hb : Below (w.alloc (.cells #[x, y] t)).heap.size (w.alloc (.cells #[x, y] t)) w1) :
    w1.cell? ⟨w.heap.size, 0, none⟩ = some x ∧ w1.cell? ⟨w.heap.size, 1, none⟩ = some y ∧ Below w.heap.size w w1 :=
  ⟨(hb.cell (p := ⟨w.heap.size, 0, none⟩) (by simp)).trans (by simp), (hb.cell (p := ⟨w.heap.size, 1, none⟩) (by simp)).trans (by simp), below_step (below_alloc _) hb⟩

theorem region_below {P : Program} {id : Nat} {Q : Exit → Act → World → Prop} {a : Act} {w : World} {l : List Oper} (hm : P.follows .mixedOrders = true) (hB : Region.lexB .any l.toArray = true)
    (h : wpQuiet P l.toArray (fun w' => Below w.heap.size w w') (fun a' => ∀ w', Below w.heap.size w w' → Q .normal a' w') l a) : (Code.region id l.toArray true).wp P Q a w :=
  wp_region_quiet (C := fun w' => Below w.heap.size w w') hm hB (Below.refl _ _).drew (by simpa using h)

/-- A symbol's cells. -/
def encS (s : Sy) : List Value := [.string s.1, .int .i64 s.2]

def sameS (a b : ByteArray) : Bool := a.toList == b.toList

theorem hasClosure (nm : ByteArray) (B : Nat) (w : World) (hB : B < w.heap.size) (hcell : w.cell? ⟨B, 0, none⟩ = some (.string nm)) :
    PredBelow Tryz.prog 142 #[.pointer (some ⟨B, 0, none⟩)] (fun x => .agg (encS x).toArray) (fun x => sameS x.1 nm) w := fun W x hb => by
  have hc : W.cell? ⟨B, 0, none⟩ = some (.string nm) := (hb.cell (p := ⟨B, 0, none⟩) hB).trans hcell
  have hBW : B < W.heap.size := Nat.lt_of_lt_of_le hB hb.size
  have hne : B ≠ W.heap.size := by omega
  show Calls Tryz.prog 142 #[.agg #[.string x.1, .int .i64 x.2], .pointer (some ⟨B, 0, none⟩)] W _
  go_enter Tryz.func142, Tryz.ntmps142
  go_wp2
  all_goals (go_ret; exact ⟨rfl, hb.alloc hb.size _⟩)

def hasB (sig : List Sy) (nm : ByteArray) : Bool := sig.any fun x => sameS x.1 nm

set_option maxRecDepth 100000 in
set_option maxHeartbeats 1000000 in
theorem hasName_any (g off cap : Nat) (n : Nat) (sig : List Sy) (nm : ByteArray) (w : World) (hs : Sg w (.slice (some ⟨g, off, none⟩) sig.length cap) sig) (hn : n ≤ sig.length) (hl : 0 < sig.length) :
    Calls Tryz.prog 85 #[.slice (some ⟨g, off, none⟩) n cap, .string nm] w fun e w' => e = .returned (.bool (hasB (sig.take n) nm)) ∧ Below w.heap.size w w' := by
  have eg : ∀ args w, (callFunc 142 args).run Tryz.prog w = .ok (.enter 142 args) w := enters_of Tryz.func142 (by kernel_rfl) rfl
  obtain ⟨so, sc, hv, _, hsc, _⟩ := Row.flat hs
  have hg : g < w.heap.size := by
    obtain ⟨g', off', s, a, he, _, hc, _⟩ := Sg.at hs hl
    simp only [Option.some.injEq, Addr.mk.injEq] at he
    obtain ⟨rfl, _⟩ := he
    exact World.block_lt_of_cell? _ _ hc
  have hbig : n ≤ 9223372036854775807 := by
    simp only [Value.slice.injEq] at hv
    obtain ⟨_, _, rfl⟩ := hv
    unfold maxLen at hsc; omega
  have hcon := AnyQ.slices_ContainsFunc Tryz.hasLay 2 Tryz.isAgg79 Tryz.sizeOf79 encS (fun _ => rfl) (fun x => sameS x.1 nm) 142 #[.pointer (some ⟨w.heap.size, 0, none⟩)] eg g off n cap sig (w.alloc (.cells #[.string nm] 9))
    (hasClosure nm w.heap.size _ (by simp) (by simp)) hn hbig (by simp; omega) (fun j hj i v hi => by
      refine Lib.cell?_alloc_some _ ?_
      obtain ⟨g', off', s, a, he, hm, h1, h2, _⟩ := Sg.at hs hj
      simp only [Option.some.injEq, Addr.mk.injEq] at he
      obtain ⟨rfl, rfl, _⟩ := he
      have hy : sig[j]! = (s, a) := by rw [List.getElem!_eq_getElem?_getD, hm]; rfl
      rw [hy] at hi
      match i, hi with
      | 0, hi => simp [encS] at hi; rw [← hi]; exact h1
      | 1, hi => simp [encS] at hi; rw [← hi]; exact h2
      | i + 2, hi => simp [encS] at hi)
  change Calls Tryz.prog 141 _ _ _ at hcon
  change Calls Tryz.prog _ _ _ (fun e w' => e = .returned (.bool (hasB (sig.take n) nm)) ∧ _) at hcon
  generalize hasB (sig.take n) nm = r at hcon ⊢
  have HC := hid hcon
  clear hcon hs hg hv
  go_enter Tryz.func85, Tryz.ntmps85
  go_wp2_with fail
  refine HC.out.mono ?_
  rintro e w' ⟨rfl, hb'⟩
  go_wp2
  go_ret
  exact ⟨rfl, ((Below.refl _ w).alloc (Nat.le_refl _) _).trans (hb'.mono (by simp))⟩

/-- What is wrong with a signature, from a place on. -/
def sigGo (sig : List Sy) : Nat → List Sy → Int
  | _, [] => 0
  | k, s :: r => if symB s.1 then (if s.2 < 0 ∨ 8 < s.2 then 35 else if hasB (sig.take k) s.1 then 36 else sigGo sig (k + 1) r) else 34

def sigE (sig : List Sy) : Int := if 128 < sig.length then 37 else sigGo sig 0 sig

theorem Tabs.below {w w' : World} (h : Tabs w) (hb : Below w.heap.size w w') : Tabs w' := Utf8Tabs_below h hb

set_option maxRecDepth 100000 in
set_option maxHeartbeats 1600000 in
theorem checkSig_any (sv : Value) (sig : List Sy) (w : World) (hs : Sg w sv sig) (hT : Tabs w) :
    Calls Tryz.prog 38 #[sv] w fun e w' => e = .returned (.int .i64 (sigE sig)) ∧ Below w.heap.size w w' := by
  obtain ⟨so, sc, rfl, hso, hsc, _⟩ := Row.flat hs
  unfold maxLen at hsc
  have HS : Hid (Sg w (.slice so sig.length sc) sig) := hs
  have HT : Hid (Tabs w) := hT
  clear hs hT
  go_enter Tryz.func38, Tryz.ntmps38
  by_cases h128 : 128 < sig.length
  · have HR : Hid (sigE sig = 37) := by show _ = _; unfold sigE; rw [if_pos h128]
    go_wp2
    go_ret
    exact ⟨ret1i HR.out.symm, Below.refl _ _⟩
  · have HR : Hid (sigE sig = sigGo sig 0 sig) := by show _ = _; unfold sigE; rw [if_neg h128]
    go_wp2
    go_loopw [10] (fun i wr => ∃ k : Nat, k ≤ sig.length ∧ i = .int .i64 k ∧ sigGo sig 0 sig = sigGo sig k (sig.drop k) ∧ Below w.heap.size w wr) (fun i _ => sig.length - (intOf i).toNat)
    case atStart => exact ⟨0, Nat.zero_le _, rfl, rfl, Below.refl _ _⟩
    case round =>
      obtain ⟨k, hk, rfl, hgo, hbl⟩ := hrel
      have HG : Hid (sigGo sig 0 sig = sigGo sig k (sig.drop k)) := hgo
      clear hgo
      by_cases hlt : k < sig.length
      · have HSr : Hid (Sg wr (.slice so sig.length sc) sig) := HS.out.kp (Kp.of_below hbl)
        have HTr : Hid (Tabs wr) := HT.out.below hbl
        obtain ⟨g, off, s, a, rfl, hm, hc0, hc1, ha1, ha2, hs3⟩ := HSr.out.at hlt
        have HD : Hid (sigE sig = if symB s then (if a < 0 ∨ 8 < a then 35 else if hasB (sig.take k) s then 36 else sigGo sig (k + 1) (sig.drop (k + 1))) else 34) := by
          show _ = _
          rw [HR.out, HG.out, drop_get hm]
          rfl
        clear hm
        go_wp2_with fail
        refine (isSymbolName_any s _ hs3 (HTr.out.below (below_alloc _))).mono ?_
        rintro e w1 ⟨rfl, hb1⟩
        obtain ⟨hd0, hd1, hbl1⟩ := box2 hb1
        have HB : Hid (Below w.heap.size w w1) := below_step hbl hbl1
        have HS1 : Hid (Sg w1 (.slice (some ⟨g, off, none⟩) sig.length sc) sig) := HSr.out.kp (Kp.of_below hbl1)
        clear hb1 hbl1 hbl hc0 hc1
        cases hsy : symB s
        · have HF : Hid (sigE sig = 34) := by show _ = _; rw [HD.out, hsy]; rfl
          go_wp2
          go_ret
          exact ⟨ret1i HF.out.symm, HB.out⟩
        by_cases ha0 : a < 0
        · have HF : Hid (sigE sig = 35) := by show _ = _; rw [HD.out, hsy, if_pos rfl, if_pos (.inl ha0)]
          go_wp2
          go_ret
          exact ⟨ret1i HF.out.symm, HB.out⟩
        by_cases ha8 : 8 < a
        · have HF : Hid (sigE sig = 35) := by show _ = _; rw [HD.out, hsy, if_pos rfl, if_pos (.inr ha8)]
          go_wp2
          go_ret
          exact ⟨ret1i HF.out.symm, HB.out⟩
        have HF : Hid (sigE sig = if hasB (sig.take k) s then 36 else sigGo sig (k + 1) (sig.drop (k + 1))) := by show _ = _; rw [HD.out, hsy, if_pos rfl, if_neg (by omega)]
        clear HD
        obtain ⟨hs, hhs⟩ : ∃ hs, hs = hasB (sig.take k) s := ⟨_, rfl⟩
        have HH : Hid (∀ W, Below w1.heap.size w1 W → Calls Tryz.prog 85 #[.slice (some ⟨g, off, none⟩) k sc, .string s] W fun e w' => e = .returned (.bool hs) ∧ Below W.heap.size W w') :=
          fun W hW => by rw [hhs]; exact hasName_any g off sc k sig s W (HS1.out.kp (Kp.of_below hW)) (by omega) (by omega)
        rw [← hhs] at HF
        clear hhs
        have hksc : k ≤ sc := by omega
        go_wp2_with fail
        refine region_below (by kernel_rfl) (by kernel_rfl) ?_
        (go_big_quiet_want; go_big_quiet_op; go_big_quiet_on)
        (go_big_quiet_want; go_big_quiet_op; go_big_quiet_on)
        go_big_quiet_want
        refine ⟨.slice (some ⟨g, off, none⟩) k sc, fun w' hw' => ?_, ?_⟩
        · unfold Oper.quietAt; go_simp
        simp only [Act.put, List.setIfInBounds_toArray, List.set_cons_zero, List.set_cons_succ]
        go_big_quiet_on
        go_big_quiet_want
        refine ⟨.pointer (some ⟨wr.heap.size, 0, none⟩), fun w' hw' => ?_, ?_⟩
        · unfold Oper.quietAt; go_simp
        simp only [Act.put, List.setIfInBounds_toArray, List.set_cons_zero, List.set_cons_succ]
        go_big_quiet_on
        go_big_quiet_want
        refine ⟨.string s, fun w' hw' => ?_, ?_⟩
        · have hh0 := (Kp.of_below hw').cell _ _ hd0; unfold Oper.quietAt; go_simp
        simp only [Act.put, List.setIfInBounds_toArray, List.set_cons_zero, List.set_cons_succ]
        go_big_quiet_on
        go_big_quiet_want
        refine ⟨.bool hs, fun w' hw' => ?_, ?_⟩
        · unfold Oper.quietAt; go_simp; exact (HH.out w' hw').mono (fun e w2 ⟨he, hb⟩ => ⟨he, below_step hw' hb⟩)
        simp only [Act.put, List.setIfInBounds_toArray, List.set_cons_zero, List.set_cons_succ]
        go_big_quiet_on
        (go_big_quiet_want; go_big_quiet_op; go_big_quiet_on)
        refine wpQuiet_nil ?_
        intro w2 hb2
        have HB2 : Hid (Below w.heap.size w w2) := below_step HB.out hb2
        clear hb2
        clear HH
        cases hs
        · have HN : Hid (sigGo sig 0 sig = sigGo sig (k + 1) (sig.drop (k + 1))) := by show _ = _; rw [← HR.out, HF.out]; rfl
          go_wp2
          go_roundw
          case rel => exact ⟨k + 1, by omega, by go_num, HN.out, HB2.out⟩
          case measure => simp [intOf]; omega
        · have HN : Hid (sigE sig = 36) := by show _ = _; rw [HF.out]; rfl
          go_wp2
          go_ret
          exact ⟨ret1i HN.out.symm, HB2.out⟩
      · have hke : k = sig.length := by omega
        subst hke
        have HF : Hid (sigE sig = 0) := by show _ = _; rw [HR.out, HG.out, List.drop_length]; rfl
        go_wp2
        go_ret
        exact ⟨ret1i HF.out.symm, hbl⟩

end Go.Proofs.YtlaenbdlgpepkaaGreatDoor

/- Rows of pairs of one's own. -/
namespace Go.Proofs.YtlaenbdlgpepkaaGreatDoor
open Go.RowKit Go.Maps

/-- The cells of a row of pairs. -/
def cellsQ (ps : List (Int × Int)) : List Value := ps.flatMap fun x => [.int .i64 x.1, .int .i64 x.2]

theorem cellsQ_len (ps : List (Int × Int)) : (cellsQ ps).length = ps.length * 2 := by
  induction ps with
  | nil => rfl
  | cons x ps ih =>
    unfold cellsQ at ih ⊢
    rw [List.flatMap_cons, List.length_append, ih]
    simp only [List.length_cons, List.length_nil]
    omega

theorem cellsQ_append (ps qs : List (Int × Int)) : cellsQ (ps ++ qs) = cellsQ ps ++ cellsQ qs := List.flatMap_append

theorem cellsQ_at : ∀ {ps : List (Int × Int)} {k : Nat} {x : Int × Int}, ps[k]? = some x → (cellsQ ps)[k * 2]? = some (.int .i64 x.1) ∧ (cellsQ ps)[k * 2 + 1]? = some (.int .i64 x.2)
  | [], k, x, h => by simp at h
  | y :: ps, 0, x, h => by
    simp only [List.getElem?_cons_zero, Option.some.injEq] at h
    subst h
    exact ⟨rfl, rfl⟩
  | y :: ps, k + 1, x, h => by
    simp only [List.getElem?_cons_succ] at h
    have ih := cellsQ_at h
    have e : cellsQ (y :: ps) = .int .i64 y.1 :: .int .i64 y.2 :: cellsQ ps := rfl
    rw [e, show (k + 1) * 2 = k * 2 + 1 + 1 by omega]
    simpa using ih

def Bd64 (ps : List (Int × Int)) : Prop := ∀ (k : Nat) (x : Int × Int), ps[k]? = some x → (-9223372036854775808 ≤ x.1 ∧ x.1 ≤ 9223372036854775807) ∧ (-9223372036854775808 ≤ x.2 ∧ x.2 ≤ 9223372036854775807)

theorem Bd64.append {ps qs : List (Int × Int)} (h : Bd64 ps) (k : Bd64 qs) : Bd64 (ps ++ qs) := fun i x hx => by
  rw [List.getElem?_append] at hx
  split at hx
  · exact h _ _ hx
  · exact k _ _ hx

theorem Prs.bd {w : World} {v : Value} {ps : List (Int × Int)} (h : Prs w v ps) : Bd64 ps := fun k x hk => by
  obtain ⟨ao, cap, rfl, _, _, hx⟩ := Row.flat h
  obtain ⟨_, _, y, _, hy, h1, h2, _⟩ := hx k (List.getElem?_eq_some_iff.1 hk).1
  rw [hk] at hy
  cases hy
  exact ⟨h1, h2⟩

theorem info_parts3 {t : TypeId} {z : Value} {n b : Nat} (h : (Tryz.prog.info? t).map (fun i => (i.zero, i.size, i.bytes)) = some (some z, n, b)) : ∃ i, Tryz.prog.info? t = some i ∧ i.zero = some z ∧ i.size = n ∧ i.bytes = b := by
  cases hi : Tryz.prog.info? t with
  | none => rw [hi] at h; cases h
  | some i =>
    rw [hi] at h
    simp only [Option.map_some, Option.some.injEq, Prod.mk.injEq] at h
    exact ⟨i, rfl, h.1, h.2.1, h.2.2⟩

theorem wpList_append_runP {P : Program} {w w' : World} {ops : Array Oper} {rest : List Oper} {o : Oper} {a : Act} {v' : Value} {Q : Exit → Act → World → Prop} (hgd : o.guard = none) (s x : Operand) (t : TypeId)
    (ho : o.op = .call { callee := .builtin .append, args := #[s, x], argTypes := #[t, t] }) (v u : Value) (hs : a.eval s = v) (hx : a.eval x = u)
    (hr : (Builtin.append_ #[t, t] o.type #[v, u]).run P w = .ok v' w') (h : wpList P ops Q rest (a.put o.dst v') w') : wpList P ops Q (o :: rest) a w := by
  refine wpList_plain hgd fun K hK => ?_
  unfold Oper.wp execOp
  simp only [ho, resolve, invoke, builtin, Sem.run_bind, Sem.run_pure, Result.andThen_ok, List.map_toArray, List.map_cons, List.map_nil, hs, hx, hr]
  exact hK _ _ h

end Go.Proofs.YtlaenbdlgpepkaaGreatDoor

/- The document's table of what is above what, in memory. -/
namespace Go.Proofs.YtlaenbdlgpepkaaGreatDoor
open Go.RowKit Go.Maps

def rowB (n : Nat) (U : Nat → Bool) : Array Value := ((List.range n).map fun j => Value.bool (U j)).toArray

theorem rowB_get {n : Nat} (U : Nat → Bool) {j : Nat} (hj : j < n) : (rowB n U)[j]? = some (.bool (U j)) := by simp [rowB, hj]

theorem rowB_set {n : Nat} (U : Nat → Bool) (j : Nat) (x : Bool) : (rowB n U).setIfInBounds j (.bool x) = rowB n (fun b => if b = j then x else U b) := by
  apply Array.ext_getElem?
  intro k
  rw [Array.getElem?_setIfInBounds]
  by_cases hk : k < n
  · by_cases e : j = k
    · subst e
      rw [if_pos rfl, if_pos (by simp [rowB]; omega), rowB_get _ hk, if_pos rfl]
    · rw [if_neg e, rowB_get _ hk, rowB_get _ hk, if_neg (fun h => e h.symm)]
  · have hs : ∀ V : Nat → Bool, (rowB n V)[k]? = none := fun V => by simp [rowB]; omega
    rw [hs, hs]
    split
    · rw [if_neg (by simp [rowB]; omega)]
    · rfl

theorem type_ne {w : World} {g g' : Nat} {c c' : Array Value} {t t' : TypeId} (h : w.heap[g]? = some (.cells c t (0, 0))) (h' : w.heap[g']? = some (.cells c' t' (0, 0))) (hne : t ≠ t') : g ≠ g' := by
  rintro rfl
  rw [h] at h'
  simp only [Option.some.injEq, Obj.cells.injEq] at h'
  exact hne h'.2.1

theorem info_rowB : (Tryz.prog.info? 76).map (fun i => (i.zero, i.size, i.bytes)) = some (some (.slice none 0 0), 1, 24) := by kernel_rfl

theorem info_boolB : (Tryz.prog.info? 4).map (fun i => (i.zero, i.size, i.bytes)) = some (some (.bool false), 1, 1) := by kernel_rfl

theorem under_rowB : Tryz.prog.underlying 76 = some (.slice 4) := by kernel_rfl

theorem made_bool (n : Nat) : madeCells (Value.bool false).cells (n * 1) = rowB n (fun _ => false) := by
  apply Array.ext'
  have : (Value.bool false).cells = #[Value.bool false] := rfl
  rw [this, toList_madeCells_one]
  simp [rowB, List.map_const']

theorem run_make_bool (w : World) (n : Nat) (hn : n ≤ 128) : (Instr.makeSlice 76 (.int .i64 (n : Int)) (.int .i64 (n : Int))).run Tryz.prog w = .ok (.slice (some ⟨w.heap.size, 0, none⟩) n n) (w.alloc (.cells (rowB n (fun _ => false)) 4)) := by
  obtain ⟨i0, hi, hz0, hz1, hz2⟩ := info_parts3 info_boolB
  have h := run_make (P := Tryz.prog) w 76 4 i0 (.bool false) under_rowB hi hz0 .i64 .i64 (n : Int) (n : Int) (by omega) (Int.le_refl _) (by rw [hz2]; omega) (by omega)
  rw [hz1, Int.toNat_natCast, made_bool] at h
  exact h

end Go.Proofs.YtlaenbdlgpepkaaGreatDoor

/- Interpretations in memory; a row of bools and whether one of them is false. -/
namespace Go.Proofs.YtlaenbdlgpepkaaGreatDoor
open Go.RowKit Go.Maps Go.BigFrame

abbrev Ip := Int × List Mn

/-- An interpretation at an address. -/
def EN (w : World) (g o : Nat) (x : Ip) : Prop := -9223372036854775808 ≤ x.1 ∧ x.1 ≤ 9223372036854775807 ∧ w.cell? ⟨g, o, none⟩ = some (.int .i64 x.1) ∧ ∃ pv, w.cell? ⟨g, o + 1, none⟩ = some pv ∧ Ms w pv x.2

theorem EN.kp {w w' : World} (hk : Kp w w') (g o : Nat) (x : Ip) (h : EN w g o x) : EN w' g o x := by
  obtain ⟨h1, h2, h3, pv, h4, h5⟩ := h
  exact ⟨h1, h2, hk.cell _ _ h3, pv, hk.cell _ _ h4, h5.kp hk⟩

/-- A row of interpretations. -/
def Ins (w : World) (v : Value) (l : List Ip) : Prop := Row EN 2 w v l

theorem Ins.kp {w w' : World} {v : Value} {l : List Ip} (h : Ins w v l) (hk : Kp w w') : Ins w' v l := Row.imp h hk.size (EN.kp hk)

theorem Ins.at {w : World} {ao : Option Addr} {n cap : Nat} {l : List Ip} (h : Ins w (.slice ao n cap) l) {k : Nat} (hk : k < l.length) :
    ∃ g off c p a1 c1, ao = some ⟨g, off, none⟩ ∧ l[k]? = some (c, p) ∧ w.cell? ⟨g, off + k * 2, none⟩ = some (.int .i64 c) ∧ w.cell? ⟨g, off + k * 2 + 1, none⟩ = some (.slice a1 p.length c1) ∧ Ms w (.slice a1 p.length c1) p ∧ -9223372036854775808 ≤ c ∧ c ≤ 9223372036854775807 ∧ p.length ≤ c1 ∧ c1 ≤ 9223372036854775807 := by
  obtain ⟨ao', cap', hv, _, _, hx⟩ := Row.flat h
  simp only [Value.slice.injEq] at hv
  obtain ⟨rfl, rfl, rfl⟩ := hv
  obtain ⟨g, off, ⟨c, p⟩, rfl, hm, h1, h2, h3, pv, h4, h5⟩ := hx k hk
  obtain ⟨a1, c1, rfl, hc1, hc2, _⟩ := Row.flat h5
  unfold maxLen at hc2
  exact ⟨g, off, c, p, a1, c1, rfl, hm, h3, h4, h5, h1, h2, hc1, by omega⟩

/-- Whether some of the first n is not given. -/
def lackB (f : Nat → Bool) (n : Nat) : Bool := (List.range n).any fun i => !f i

theorem lackB_no {f : Nat → Bool} {n : Nat} (h : ∀ i, i < n → f i = true) : lackB f n = false := by
  simp only [lackB, List.any_eq_false, List.mem_range]
  intro i hi
  simp [h i hi]

theorem lackB_yes {f : Nat → Bool} {n i : Nat} (hi : i < n) (h : f i = false) : lackB f n = true := by
  simp only [lackB, List.any_eq_true, List.mem_range]
  exact ⟨i, hi, by simp [h]⟩

set_option maxRecDepth 100000 in
set_option maxHeartbeats 1600000 in
theorem indexB_any (g : Nat) (f : Nat → Bool) (n cap : Nat) (w : World) (hn : n ≤ 9223372036854775807) (hg : ∀ i, i < n → w.cell? ⟨g, i, none⟩ = some (.bool (f i))) (hcap : n ≤ cap) :
    Calls Tryz.prog 88 #[.slice (some ⟨g, 0, none⟩) n cap, .bool false] w fun e w' => (∃ k : Int, e = .returned (.int .i64 k) ∧ (decide (0 ≤ k) = lackB f n)) ∧ w' = w := by
  have HG := hid hg
  clear hg
  go_enter Tryz.func88, Tryz.ntmps88
  go_wp2
  go_loopw [8] (fun x wr => ∃ k : Nat, k ≤ n ∧ x = .int .i64 k ∧ (∀ i, i < k → f i = true) ∧ wr = w) (fun x _ => n - (intOf x).toNat)
  case atStart => exact ⟨0, Nat.zero_le _, rfl, fun i h => absurd h (by omega), rfl⟩
  case round =>
    obtain ⟨k, hk, rfl, hf, hwr⟩ := hrel
    have HF := hid hf
    subst hwr
    clear hf
    by_cases hlt : k < n
    · have hc := HG.out k hlt
      cases hfk : f k with
      | true =>
        rw [hfk] at hc
        go_wp2
        go_roundw
        case rel => exact ⟨k + 1, hlt, by go_num, fun i hi => (by rcases Nat.lt_succ_iff_lt_or_eq.1 hi with h | h; exact HF.out i h; rw [h]; exact hfk), trivial⟩
        case measure => simp [intOf]; omega
      | false =>
        rw [hfk] at hc
        go_wp2
        go_ret
        exact ⟨⟨k, rfl, by rw [lackB_yes hlt hfk]; simp⟩, rfl⟩
    · obtain rfl : k = n := by omega
      go_wp2
      go_ret
      exact ⟨⟨-1, rfl, by rw [lackB_no HF.out]; rfl⟩, rfl⟩

set_option maxRecDepth 100000 in
set_option maxHeartbeats 1600000 in
theorem lacks_any (g : Nat) (f : Nat → Bool) (n cap : Nat) (w : World) (hn : n ≤ 9223372036854775807) (hg : ∀ i, i < n → w.cell? ⟨g, i, none⟩ = some (.bool (f i))) (hcap : n ≤ cap) :
    Calls Tryz.prog 40 #[.slice (some ⟨g, 0, none⟩) n cap, .bool false] w fun e w' => e = .returned (.bool (lackB f n)) ∧ w' = w := by
  have HC := hid (indexB_any g f n cap w hn hg hcap)
  clear hg
  go_enter Tryz.func40, Tryz.ntmps40
  go_wp2_with fail
  refine HC.out.mono ?_
  rintro e w1 ⟨⟨k, rfl, hk⟩, hw⟩
  have hw' := hw.symm
  subst hw'
  clear hw
  have HK := hid hk
  clear hk
  generalize hX : lackB f n = X at HK
  have HX := hid hX
  clear hX
  cases X with
  | true =>
    have h0 : 0 ≤ k := of_decide_eq_true HK.out
    go_wp2
    go_ret
    exact ⟨by rw [HX.out]; rfl, rfl⟩
  | false =>
    have h0 : decide (0 ≤ k) = false := HK.out
    go_wp2
    go_ret
    exact ⟨by rw [HX.out]; simp, rfl⟩

end Go.Proofs.YtlaenbdlgpepkaaGreatDoor

/- Package interp's Check. -/
namespace Go.Proofs.YtlaenbdlgpepkaaGreatDoor
open Go.RowKit Go.Maps Go.BigFrame

/-- With how many arguments a symbol stands. -/
def arI (sig : List Sy) (c : Int) : Int := match sig[c.toNat]? with | none => 0 | some s => s.2

/-- One more is given. -/
def gvn (f : Nat → Bool) (c : Nat) : Nat → Bool := fun i => if i = c then true else f i

/-- What is wrong with interpretations, one by one; f tells which symbols were met. -/
def inGo (sig : List Sy) : (Nat → Bool) → List Ip → Int
  | f, [] => if lackB f sig.length = true then 120 else 0
  | f, (c, p) :: r => if c < 0 ∨ (sig.length : Int) ≤ c ∨ f c.toNat = true then 120 else if checkE p (arI sig c) = 20 then 121 else if checkE p (arI sig c) = 2 then 2 else inGo sig (gvn f c.toNat) r

/-- What Check tells. -/
def inE (sig : List Sy) (l : List Ip) : Int := if sigE sig = 0 then inGo sig (fun _ => false) l else sigE sig

theorem sigE_len {sig : List Sy} (h : sigE sig = 0) : sig.length ≤ 1000 := by
  unfold sigE at h
  split at h
  · cases h
  · omega

theorem drawn_belowI (w : World) : Below w.heap.size w w.drew := (Below.refl w.heap.size w).drew

theorem run_make_boolI (w : World) (n : Nat) (hn : n ≤ 140737488355328) : (Instr.makeSlice 76 (.int .i64 (n : Int)) (.int .i64 (n : Int))).run Tryz.prog w = .ok (.slice (some ⟨w.heap.size, 0, none⟩) n n) (w.alloc (.cells (rowB n (fun _ => false)) 4)) := by
  obtain ⟨i0, hi, hz0, hz1, hz2⟩ := info_parts3 info_boolB
  have h := run_make (P := Tryz.prog) w 76 4 i0 (.bool false) under_rowB hi hz0 .i64 .i64 (n : Int) (n : Int) (by omega) (Int.le_refl _) (by rw [hz2]; omega) (by omega)
  rw [hz1, Int.toNat_natCast, made_bool] at h
  exact h

set_option maxRecDepth 100000 in
set_option maxHeartbeats 3200000 in
theorem inCheck_any (sv lv : Value) (sig : List Sy) (l : List Ip) (w : World) (hs : Sg w sv sig) (hl : Ins w lv l) (hT : Tabs w) :
    Calls Tryz.prog 11 #[sv, lv] w fun e w' => e = .returned (.int .i64 (inE sig l)) ∧ Below w.heap.size w w' := by
  obtain ⟨so, sc, rfl, hso, hsc, _⟩ := Row.flat hs
  obtain ⟨lo, lc, rfl, hlo, hlc, _⟩ := Row.flat hl
  unfold maxLen at hsc hlc
  have HS := hid hs
  have HL := hid hl
  have HT := hid hT
  clear hs hl hT
  go_enter Tryz.func11, Tryz.ntmps11
  go_wp2_with fail
  refine (checkSig_any _ sig w HS.out HT.out).mono ?_
  rintro e w1 ⟨rfl, hb1⟩
  have B1 := hid hb1
  clear hb1
  by_cases hE : sigE sig = 0
  · have hn : sig.length ≤ 1000 := sigE_len hE
    have HE : Hid (inE sig l = inGo sig (fun _ => false) l) := by show _ = _; unfold inE; rw [if_pos hE]
    rw [hE]
    clear hE
    have hmk := run_make_boolI w1 sig.length (by omega)
    have hg0 : Hid ((w1.alloc (.cells (rowB sig.length (fun _ => false)) 4)).heap[w1.heap.size]? = some (.cells (rowB sig.length (fun _ => false)) 4 (0, 0))) := hid (heap_alloc_new _ _)
    have B2 := hid (below_step B1.out (below_alloc (w := w1) (.cells (rowB sig.length (fun _ => false)) 4)))
    have hgx : w.heap.size ≤ w1.heap.size := B1.out.size
    go_wp2
    clear hmk
    generalize w1.alloc (.cells (rowB sig.length (fun _ => false)) 4) = W2 at hg0 B2 ⊢
    generalize w1.heap.size = gx at hg0 hgx ⊢
    go_loopw [19] (fun x wr => ∃ (k : Nat) (f : Nat → Bool), k ≤ l.length ∧ x = .int .i64 k ∧ wr.heap[gx]? = some (.cells (rowB sig.length f) 4 (0, 0)) ∧ inGo sig (fun _ => false) l = inGo sig f (l.drop k) ∧ Below w.heap.size w wr) (fun x _ => l.length - (intOf x).toNat)
    case atStart => exact ⟨0, _, Nat.zero_le _, rfl, hg0.out, rfl, B2.out⟩
    case round =>
      clear hg0 B2
      obtain ⟨k, f, hk, rfl, hgb, hgo, hbl⟩ := hrel
      have HG := hid hgb
      have HO := hid hgo
      have BL := hid hbl
      clear hgb hgo hbl
      by_cases hlt : k < l.length
      · obtain ⟨g, off, c, p, a1, c1, rfl, hm, hc0w, hc1w, hp, hcl, hcu, hp1, hp2⟩ := HL.out.at hlt
        have HD := hid (HO.out.trans (by rw [drop_get hm]))
        clear HO
        have HM := hid hp
        have HMw := HM
        have HGx : Hid (gx < wr.heap.size) := hid (Array.getElem?_eq_some_iff.1 HG.out).1
        obtain ⟨W, hW⟩ : ∃ X, X = wr.alloc (.cells #[.int .i64 c, .slice a1 p.length c1] 51) := ⟨_, rfl⟩
        have BW : Hid (Below wr.heap.size wr W) := by rw [hW]; exact below_alloc _
        have y0 : W.cell? ⟨wr.heap.size, 0, none⟩ = some (.int .i64 c) := by rw [hW, cell_of_row _ _ _ _ _ _ (heap_alloc_new _ _)]; rfl
        have y1 : W.cell? ⟨wr.heap.size, 1, none⟩ = some (.slice a1 p.length c1) := by rw [hW, cell_of_row _ _ _ _ _ _ (heap_alloc_new _ _)]; rfl
        have HGW : Hid (W.heap[gx]? = some (.cells (rowB sig.length f) 4 (0, 0))) := hid ((BW.out.block _ HGx.out).trans HG.out)
        have BLW := hid (below_step BL.out BW.out)
        have hc0 := (Kp.of_below BL.out).cell _ _ hc0w
        have hc1 := (Kp.of_below BL.out).cell _ _ hc1w
        have hgw : g < wr.heap.size := World.block_lt_of_cell? _ _ hc0
        clear hm hp hc0w hc1w
        go_upto_region 8 with fail
        rw [← hW]
        clear hW hc0 hc1
        by_cases hneg : c < 0
        · have hd : decide (c < 0) = true := decide_eq_true hneg
          have HR : Hid (inE sig l = 120) := by show _ = _; rw [HE.out, HD.out, inGo, if_pos (Or.inl hneg)]
          clear HD
          go_wp2
          go_ret
          exact ⟨ret1i HR.out.symm, BLW.out⟩
        by_cases hbig : (sig.length : Int) ≤ c
        · have hd : decide (c < 0) = false := decide_eq_false hneg
          have hd2 : decide ((sig.length : Int) ≤ c) = true := decide_eq_true hbig
          have HR : Hid (inE sig l = 120) := by show _ = _; rw [HE.out, HD.out, inGo, if_pos (Or.inr (Or.inl hbig))]
          clear HD
          go_wp2
          go_ret
          exact ⟨ret1i HR.out.symm, BLW.out⟩
        obtain ⟨ci, rfl⟩ := Int.eq_ofNat_of_zero_le (Int.not_lt.1 hneg)
        have hci : ci < sig.length := by omega
        clear hneg hbig
        have hcg : W.cell? ⟨gx, ci, none⟩ = some (.bool (f ci)) := by rw [cell_of_row _ _ _ _ _ _ HGW.out, rowB_get _ hci]
        cases hfc : f ci with
        | true =>
          rw [hfc] at hcg
          have HR : Hid (inE sig l = 120) := by show _ = _; rw [HE.out, HD.out, inGo, if_pos (Or.inr (Or.inr (by simpa using hfc)))]
          clear HD
          go_wp2
          go_ret
          exact ⟨ret1i HR.out.symm, BLW.out⟩
        | false =>
          rw [hfc] at hcg
          have hfr : W.frozen? ⟨gx, ci, none⟩ = false := frozen_of_row W _ _ _ _ HGW.out
          obtain ⟨gs, os, sn, ar, rfl, hsm, _, hsa, hal, hau, _⟩ := HS.out.at hci
          have HAr : Hid (arI sig (ci : Int) = ar) := by show _ = _; unfold arI; rw [Int.toNat_natCast, hsm]
          obtain ⟨W3, hW3⟩ : ∃ X, X = W.setCell ⟨gx, ci, none⟩ (.bool true) := ⟨_, rfl⟩
          have HG3 : Hid (W3.heap[gx]? = some (.cells (rowB sig.length (gvn f ci)) 4 (0, 0))) := by show _ = _; rw [hW3, heap_setCell_same _ _ _ _ _ _ HGW.out, rowB_set]; rfl
          have B3 : Hid (Below w.heap.size w W3) := by rw [hW3]; exact BLW.out.setCell (p := ⟨gx, ci, none⟩) hgx (.bool true)
          have x0 : W3.cell? ⟨wr.heap.size, 0, none⟩ = some (.int .i64 (ci : Int)) := by rw [hW3, World.cell?_setCell_other _ _ _ _ (fun e => by injection e with e1; exact absurd HGx.out (by omega))]; exact y0
          have x1 : W3.cell? ⟨wr.heap.size, 1, none⟩ = some (.slice a1 p.length c1) := by rw [hW3, World.cell?_setCell_other _ _ _ _ (fun e => by injection e with e1; exact absurd HGx.out (by omega))]; exact y1
          have x2 := (Kp.of_below B3.out).cell _ _ hsa
          have HM3 := hid (HMw.out.kp (Kp.of_below B3.out))
          have HDn : Hid (inGo sig (fun _ => false) l = if checkE p ar = 20 then 121 else if checkE p ar = 2 then 2 else inGo sig (gvn f ci) (l.drop (k + 1))) := by show _ = _; rw [HD.out, inGo, if_neg (by rintro (h | h | h); exact absurd h (by omega); exact absurd h (by omega); rw [Int.toNat_natCast, hfc] at h; cases h), HAr.out, Int.toNat_natCast]
          clear HD hsm hsa HAr hfc
          go_upto_region 11 with fail
          rw [← hW3]
          clear hW3 y0 y1 hcg hfr HGW BLW BW HM
          have hS : Kp W3 W3.drew := Kp.of_below (drawn_belowI W3)
          refine wp_region_held_drew (S := fun w' => Kp W3 w') (by kernel_rfl) hS (fun _ => ?_)
          obtain ⟨W0, hW0⟩ : ∃ X, X = W3.drew := ⟨_, rfl⟩
          have bW0 : Below W3.heap.size W3 W0 := by rw [hW0]; exact drawn_belowI W3
          rw [← hW0] at hS ⊢
          clear hW0
          refine wpAnyH_take (i := 0) (v := .pointer (some ⟨wr.heap.size, 1, none⟩)) rfl (by kernel_rfl) (by kernel_rfl) (by kernel_rfl) (fun _ _ _ h => h) (Or.inl ⟨by rfl, fun w' h => by go_simp⟩) hS ?_
          simp only [Act.put, List.setIfInBounds_toArray]
          refine wpAnyH_take (i := 1) (v := .slice a1 p.length c1) rfl (by kernel_rfl) (by kernel_rfl) (by kernel_rfl) (fun _ _ _ h => h) (Or.inl ⟨by rfl, fun w' h => by have hh0 := h.cell _ _ x1; go_simp⟩) hS ?_
          simp only [Act.put]
          refine wpAnyH_take (i := 2) (v := .slice (some ⟨gs, os, none⟩) sig.length sc) rfl (by kernel_rfl) (by kernel_rfl) (by kernel_rfl) (fun _ _ _ h => h) (Or.inl ⟨by rfl, fun w' h => by go_simp⟩) hS ?_
          simp only [Act.put]
          refine wpAnyH_take (i := 3) (v := .pointer (some ⟨wr.heap.size, 0, none⟩)) rfl (by kernel_rfl) (by kernel_rfl) (by kernel_rfl) (fun _ _ _ h => h) (Or.inl ⟨by rfl, fun w' h => by go_simp⟩) hS ?_
          simp only [Act.put]
          refine wpAnyH_take (i := 4) (v := .int .i64 (ci : Int)) rfl (by kernel_rfl) (by kernel_rfl) (by kernel_rfl) (fun _ _ _ h => h) (Or.inl ⟨by rfl, fun w' h => by have hh0 := h.cell _ _ x0; go_simp⟩) hS ?_
          simp only [Act.put]
          refine wpAnyH_take (i := 5) (v := .pointer (some ⟨gs, os + ci * 2, none⟩)) rfl (by kernel_rfl) (by kernel_rfl) (by kernel_rfl) (fun _ _ _ h => h) (Or.inl ⟨by rfl, fun w' h => by go_simp⟩) hS ?_
          simp only [Act.put]
          refine wpAnyH_take (i := 6) (v := .pointer (some ⟨gs, os + ci * 2 + 1, none⟩)) rfl (by kernel_rfl) (by kernel_rfl) (by kernel_rfl) (fun _ _ _ h => h) (Or.inl ⟨by rfl, fun w' h => by go_simp⟩) hS ?_
          simp only [Act.put]
          refine wpAnyH_take (i := 7) (v := .int .i64 ar) rfl (by kernel_rfl) (by kernel_rfl) (by kernel_rfl) (fun _ _ _ h => h) (Or.inl ⟨by rfl, fun w' h => by have hh0 := h.cell _ _ x2; go_simp⟩) hS ?_
          simp only [Act.put]
          refine wpAnyH_ready (rs := [8]) (by kernel_rfl) (by simp) (AllReadyH.cons rfl (fun K hK => ?_) (AllReadyH.nil))
          go_simp
          refine (check_anyY _ p ar W0 (HM3.out.kp hS) hal hau).mono ?_
          rintro e w4 ⟨rfl, hb4⟩
          have HG4 : Hid (w4.heap[gx]? = some (.cells (rowB sig.length (gvn f ci)) 4 (0, 0))) := by
            have h3 : gx < W3.heap.size := (Array.getElem?_eq_some_iff.1 HG3.out).1
            have h4 : gx < W0.heap.size := Nat.lt_of_lt_of_le h3 bW0.size
            exact (hb4.block _ h4).trans ((bW0.block _ h3).trans HG3.out)
          have B4 := hid (below_step B3.out (below_step bW0 hb4))
          refine hK.out _ _ (hS.trans (Kp.of_below hb4)) (fun _ => ?_)
          clear hK K hS hb4 bW0 HG3 B3 HM3 x0 x1 x2
          try simp only [Act.put, List.setIfInBounds_toArray]
          refine wpAnyH_done (by kernel_rfl) ?_ _
          try simp only [List.getElem_toArray, List.getElem_cons_succ, List.getElem_cons_zero, List.setIfInBounds_toArray, List.set_cons_succ, List.set_cons_zero]
          generalize hz : checkE p ar = z at HDn ⊢
          clear hz
          by_cases h20 : z = 20
          · subst h20
            have HR : Hid (inE sig l = 121) := by show _ = _; rw [HE.out, HDn.out, if_pos rfl]
            go_wp2
            go_ret
            exact ⟨ret1i HR.out.symm, B4.out⟩
          have hn20 : (z == 20) = false := by simpa using h20
          have hd20 : decide (z = 20) = false := decide_eq_false h20
          by_cases h2 : z = 2
          · subst h2
            have HR : Hid (inE sig l = 2) := by show _ = _; rw [HE.out, HDn.out, if_neg (by decide), if_pos rfl]
            clear h20
            go_wp2
            go_ret
            exact ⟨ret1i HR.out.symm, B4.out⟩
          have hn2 : (z == 2) = false := by simpa using h2
          have hd2 : decide (z = 2) = false := decide_eq_false h2
          have HN : Hid (inGo sig (fun _ => false) l = inGo sig (gvn f ci) (l.drop (k + 1))) := by show _ = _; rw [HDn.out, if_neg h20, if_neg h2]
          clear HDn
          go_wp2
          go_roundw
          case rel => exact ⟨k + 1, _, hlt, by go_num, HG4.out, HN.out, B4.out⟩
          case measure => simp [intOf]; omega
      · obtain rfl : k = l.length := by omega
        have HR : Hid (inE sig l = if lackB f sig.length = true then 120 else 0) := by show _ = _; rw [HE.out, HO.out, List.drop_length, inGo]
        clear HO
        go_upto_region 17 with fail
        go_wp2_with fail
        refine (lacks_any gx f sig.length sig.length wr (by omega) (fun i hi => by rw [cell_of_row _ _ _ _ _ _ HG.out, rowB_get _ hi]) (Nat.le_refl _)).mono ?_
        rintro e w5 ⟨rfl, hw5⟩
        have hw6 := hw5.symm
        subst hw6
        clear hw5
        generalize lackB f sig.length = X at HR ⊢
        cases X with
        | true =>
          go_wp2
          go_ret
          exact ⟨ret1i (by rw [HR.out]; rfl), BL.out⟩
        | false =>
          go_wp2
          go_ret
          exact ⟨ret1i (by rw [HR.out]; rfl), BL.out⟩
  · have HE : Hid (inE sig l = sigE sig) := by show _ = _; unfold inE; rw [if_neg hE]
    have hne : (sigE sig != 0) = true := by rw [bne_iff_ne]; exact hE
    clear hE
    generalize hz : sigE sig = z at hne ⊢
    have HZ := hid hz
    clear hz
    go_wp2_with fail
    go_wp2
    go_ret
    exact ⟨ret1i (by rw [HE.out, HZ.out]), B1.out⟩

end Go.Proofs.YtlaenbdlgpepkaaGreatDoor

/- Package interp's risesAlone. -/
namespace Go.Proofs.YtlaenbdlgpepkaaGreatDoor
open Go.RowKit Go.Maps Go.BigFrame

theorem is_takeI {w : World} {ao : Option Addr} {n cap v : Nat} {es : List Int} (h : Is w (.slice ao n cap) es) (hv : v ≤ es.length) : Is w (.slice ao v cap) (es.take v) := by
  obtain ⟨ao', cap', hv', h1, h2, hx⟩ := h
  simp only [Value.slice.injEq] at hv'
  obtain ⟨rfl, rfl, rfl⟩ := hv'
  refine ⟨ao, cap, by rw [List.length_take, Nat.min_eq_left hv], by rw [List.length_take, Nat.min_eq_left hv]; omega, h2, fun h0 => ?_⟩
  obtain ⟨g, off, e1, e2, e3⟩ := hx (by rw [List.length_take, Nat.min_eq_left hv] at h0; omega)
  refine ⟨g, off, e1, e2, fun k x hk => e3 k x ?_⟩
  rw [List.getElem?_take] at hk
  split at hk
  · exact hk
  · cases hk

set_option maxRecDepth 100000 in
theorem notZero_any (x : Int) (w : World) :
    Calls Tryz.prog 97 #[.int .i64 x] w fun e w' => e = .returned (.bool (x != 0)) ∧ w' = w := by
  go_enter Tryz.func97, Tryz.ntmps97
  go_wp2
  go_ret
  exact ⟨rfl, rfl⟩

set_option maxRecDepth 100000 in
set_option maxHeartbeats 800000 in
theorem indexNZ_any (vv : Value) (xs : List Int) (w : World) (hv : Is w vv xs) :
    Calls Tryz.prog 150 #[vv, .func (.func 97) #[] #[]] w fun e w' => ∃ n : Int, e = .returned (.int .i64 n) ∧ decide (0 ≤ n) = (xs.any fun x => x != 0) ∧ w' = w := by
  obtain ⟨ao, cap, rfl, hao, hca, _⟩ := Row.flat hv
  unfold maxLen at hca
  have HV := hid hv
  clear hv
  go_enter Tryz.func150, Tryz.ntmps150
  go_wp2
  go_loopw [8] (fun i wr => ∃ k : Nat, k ≤ xs.length ∧ i = .int .i64 k ∧ (xs.take k).any (fun x => x != 0) = false ∧ wr = w) (fun i _ => xs.length - (intOf i).toNat)
  case atStart => exact ⟨0, Nat.zero_le _, rfl, by simp, rfl⟩
  case round =>
    obtain ⟨k, hk, rfl, hno, hwr⟩ := hrel
    have HNo := hid hno
    subst hwr
    clear hno
    by_cases hlt : k < xs.length
    · obtain ⟨g, off, x, rfl, hx1, hx2, hx3, hx4⟩ := HV.out.at hlt
      have HX := hid hx1
      clear hx1
      go_wp2_with fail
      refine (notZero_any x wr).mono ?_
      rintro e w2 ⟨rfl, hw2⟩
      have hw3 := hw2.symm
      subst hw3
      clear hw2 hx2
      cases hl : (x != 0) with
      | true =>
        have HF : Hid ((xs.any fun x => x != 0) = true) := by
          show _ = _
          rw [List.any_eq_true]
          exact ⟨x, List.mem_of_getElem? HX.out, hl⟩
        clear hl
        go_wp2
        go_ret
        exact ⟨_, rfl, by rw [HF.out]; simp, rfl⟩
      | false =>
        have HF : Hid ((xs.take (k + 1)).any (fun x => x != 0) = false) := by
          show _ = _
          rw [take_get HX.out, List.any_append, HNo.out]
          simp only [List.any_cons, List.any_nil, hl, Bool.or_self]
        clear hl
        go_wp2
        go_roundw
        case rel => exact ⟨k + 1, by omega, by go_num, HF.out, trivial⟩
        case measure => simp only [intOf]; omega
    · have HF : Hid ((xs.any fun x => x != 0) = false) := by
        have h9 := HNo.out
        rw [List.take_of_length_le (by omega)] at h9
        exact h9
      go_wp2
      go_ret
      exact ⟨-1, rfl, by rw [HF.out]; rfl, rfl⟩

set_option maxRecDepth 100000 in
theorem containsNZ_any (vv : Value) (xs : List Int) (w : World) (hv : Is w vv xs) :
    Calls Tryz.prog 96 #[vv, .func (.func 97) #[] #[]] w fun e w' => e = .returned (.bool (xs.any fun x => x != 0)) ∧ w' = w := by
  have HC := hid (indexNZ_any vv xs w hv)
  clear hv
  generalize (xs.any fun x => x != 0) = B at HC ⊢
  go_enter Tryz.func96, Tryz.ntmps96
  go_wp2_with fail
  refine HC.out.mono ?_
  rintro e w2 ⟨n, rfl, hn, hw2⟩
  have hw3 := hw2.symm
  subst hw3
  clear hw2
  have HN := hid hn
  clear hn
  go_wp2
  go_ret
  exact ⟨ret1b HN.out, rfl⟩

/-- Whether a monomial is a power of the variable v alone. -/
def alonB (v : Nat) (m : Mn) : Bool := decide (m.2.length = v + 1) && !((m.2.take v).any fun x => x != 0)

set_option maxRecDepth 100000 in
set_option maxHeartbeats 1600000 in
theorem riseClosure_any (cv ev : Value) (m : Mn) (v c : Nat) (w : World) (hm : Mo w cv ev m) (hc : w.cell? ⟨c, 0, none⟩ = some (.int .i64 (v : Int))) (hv : v ≤ 1000) :
    Calls Tryz.prog 95 #[.agg #[cv, ev], .pointer (some ⟨c, 0, none⟩)] w fun e w' => e = .returned (.bool (alonB v m)) ∧ Below w.heap.size w w' := by
  obtain ⟨a1, c1, rfl, hc1, hc2, _⟩ := hm.1.flat
  obtain ⟨a2, c2, rfl, he1, he2, _⟩ := Row.flat hm.2
  unfold maxLen at hc2 he2
  have HM := hid hm.2
  clear hm
  obtain ⟨W, hW⟩ : ∃ X, X = w.alloc (.cells #[.slice a1 m.1.length c1, .slice a2 m.2.length c2] 37) := ⟨_, rfl⟩
  have BW : Hid (Below w.heap.size w W) := by rw [hW]; exact below_alloc _
  have y1 : W.cell? ⟨w.heap.size, 1, none⟩ = some (.slice a2 m.2.length c2) := by rw [hW, cell_of_row _ _ _ _ _ _ (heap_alloc_new _ _)]; rfl
  have y2 := (Kp.of_below BW.out).cell _ _ hc
  subst hW
  by_cases hl : m.2.length = v + 1
  · have HA : Hid (alonB v m = !((m.2.take v).any fun x => x != 0)) := by show _ = _; unfold alonB; rw [decide_eq_true hl, Bool.true_and]
    have HT := hid ((is_takeI (v := v) HM.out (by omega)).kp (Kp.of_below BW.out))
    have hd1 : ((m.2.length : Int) == (v : Int) + 1) = true := by simp; omega
    have hlc : v ≤ c2 := by omega
    generalize m.2.length = N at hl hd1 y1 HT BW y2 ⊢
    clear hl
    go_enter Tryz.func95, Tryz.ntmps95
    go_wp2_with fail
    refine (containsNZ_any _ _ _ HT.out).mono ?_
    rintro e w2 ⟨rfl, hw2⟩
    have hw3 := hw2.symm
    subst hw3
    clear hw2
    go_wp2
    go_ret
    exact ⟨ret1b HA.out.symm, BW.out⟩
  · have HA : Hid (alonB v m = false) := by show _ = _; unfold alonB; rw [decide_eq_false hl, Bool.false_and]
    have hd1 : ((m.2.length : Int) == (v : Int) + 1) = false := by simp; omega
    generalize m.2.length = N at hl hd1 y1 BW y2 ⊢
    clear hl
    go_enter Tryz.func95, Tryz.ntmps95
    go_wp2
    go_ret
    exact ⟨ret1b HA.out.symm, BW.out⟩

end Go.Proofs.YtlaenbdlgpepkaaGreatDoor

/- Package interp's Strict. -/
namespace Go.Proofs.YtlaenbdlgpepkaaGreatDoor
open Go.RowKit Go.Maps Go.BigFrame

set_option maxRecDepth 100000 in
set_option maxHeartbeats 800000 in
theorem indexRise_any (vv : Value) (p : List Mn) (v c : Nat) (w : World) (hp : Ms w vv p) (hc : w.cell? ⟨c, 0, none⟩ = some (.int .i64 (v : Int))) (hv : v ≤ 1000) :
    Calls Tryz.prog 149 #[vv, .func (.func 95) #[] #[.pointer (some ⟨c, 0, none⟩)]] w fun e w' => ∃ n : Int, e = .returned (.int .i64 n) ∧ decide (0 ≤ n) = p.any (alonB v) ∧ Below w.heap.size w w' := by
  obtain ⟨ao, cap, rfl, hao, hca, _⟩ := Row.flat hp
  unfold maxLen at hca
  have HV := hid hp
  have HC := hid hc
  clear hp hc
  go_enter Tryz.func149, Tryz.ntmps149
  go_wp2
  go_loopw [8] (fun i wr => ∃ k : Nat, k ≤ p.length ∧ i = .int .i64 k ∧ (p.take k).any (alonB v) = false ∧ Below w.heap.size w wr) (fun i _ => p.length - (intOf i).toNat)
  case atStart => exact ⟨0, Nat.zero_le _, rfl, by simp, Below.refl _ _⟩
  case round =>
    obtain ⟨k, hk, rfl, hno, hbl⟩ := hrel
    have HNo := hid hno
    have HB := hid hbl
    clear hno
    by_cases hlt : k < p.length
    · obtain ⟨g, off, cc, es, a1, c1, a2, c2, rfl, hx1, hx2, hx3, hmo, _, _, _, _⟩ := (HV.out.kp (Kp.of_below hbl)).at hlt
      have HX := hid hx1
      have HMo := hid hmo
      clear hx1 hbl hmo
      go_wp2_with fail
      refine (riseClosure_any _ _ (cc, es) v c wr HMo.out ((Kp.of_below HB.out).cell _ _ HC.out) hv).mono ?_
      rintro e w2 ⟨rfl, hb2⟩
      have HB2 := hid (below_step HB.out hb2)
      clear hb2 hx2 hx3
      cases hl : alonB v (cc, es) with
      | true =>
        have HF : Hid (p.any (alonB v) = true) := by
          show _ = _
          rw [List.any_eq_true]
          exact ⟨_, List.mem_of_getElem? HX.out, hl⟩
        clear hl
        go_wp2
        go_ret
        exact ⟨_, rfl, by rw [HF.out]; simp, HB2.out⟩
      | false =>
        have HF : Hid ((p.take (k + 1)).any (alonB v) = false) := by
          show _ = _
          rw [take_get HX.out, List.any_append, HNo.out]
          simp only [List.any_cons, List.any_nil, hl, Bool.or_self]
        clear hl
        go_wp2
        go_roundw
        case rel => exact ⟨k + 1, by omega, by go_num, HF.out, HB2.out⟩
        case measure => simp only [intOf]; omega
    · have HF : Hid (p.any (alonB v) = false) := by
        have h9 := HNo.out
        rw [List.take_of_length_le (by omega)] at h9
        exact h9
      go_wp2
      go_ret
      exact ⟨-1, rfl, by rw [HF.out]; rfl, HB.out⟩

set_option maxRecDepth 100000 in
theorem containsRise_any (vv : Value) (p : List Mn) (v c : Nat) (w : World) (hp : Ms w vv p) (hc : w.cell? ⟨c, 0, none⟩ = some (.int .i64 (v : Int))) (hv : v ≤ 1000) :
    Calls Tryz.prog 94 #[vv, .func (.func 95) #[] #[.pointer (some ⟨c, 0, none⟩)]] w fun e w' => e = .returned (.bool (p.any (alonB v))) ∧ Below w.heap.size w w' := by
  have HC := hid (indexRise_any vv p v c w hp hc hv)
  clear hp hc
  generalize p.any (alonB v) = B at HC ⊢
  go_enter Tryz.func94, Tryz.ntmps94
  go_wp2_with fail
  refine HC.out.mono ?_
  rintro e w2 ⟨n, rfl, hn, hb2⟩
  have HN := hid hn
  clear hn
  go_wp2
  go_ret
  exact ⟨ret1b HN.out, hb2⟩

set_option maxRecDepth 100000 in
set_option maxHeartbeats 800000 in
theorem risesAlone_any (vv : Value) (p : List Mn) (v : Nat) (w : World) (hp : Ms w vv p) (hv : v ≤ 1000) :
    Calls Tryz.prog 43 #[vv, .int .i64 (v : Int)] w fun e w' => e = .returned (.bool (p.any (alonB v))) ∧ Below w.heap.size w w' := by
  have HB := hid (below_alloc (w := w) (.cells #[.int .i64 (v : Int)] 3))
  have HC := hid (containsRise_any vv p v w.heap.size (w.alloc (.cells #[.int .i64 (v : Int)] 3)) (hp.kp (Kp.of_below HB.out)) (by rw [cell_of_row _ _ _ _ _ _ (heap_alloc_new _ _)]; rfl) hv)
  clear hp
  go_enter Tryz.func43, Tryz.ntmps43
  go_wp2_with fail
  refine HC.out.mono ?_
  rintro e w2 ⟨rfl, hb2⟩
  have HB2 := hid (below_step HB.out hb2)
  clear hb2
  go_wp2
  go_ret
  exact ⟨rfl, HB2.out⟩

end Go.Proofs.YtlaenbdlgpepkaaGreatDoor
