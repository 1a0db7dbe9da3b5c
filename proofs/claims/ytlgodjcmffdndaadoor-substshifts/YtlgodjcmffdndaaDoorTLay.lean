/- The library's functions that term reaches, laid at this program. -/
import Derived.Test.YtlgodjcmffdndaaDoorTName
import Derived.Ground.NamesProg
import Derived.Ground.SlgfProg
import Derived.Shelf.SlGeneric
import Derived.Shelf.Strings.Prefix
import Derived.Shelf.Unicode.ValidAny
import Derived.Shelf.SlicesQ.IndexFunc
namespace Go.Proofs
open Go.Shelf Go.RowKit Go.Lib

def Tryd.trimLay_ren : Go.Shelf.Ren := ⟨fun | 102 => 56 | 209 => 66 | 207 => 69 | n => n, fun | 9 => 9 | 4 => 4 | 3 => 3 | n => n, fun | n => n⟩
theorem Tryd.trimLay : Go.Proofs.Lays.n102 Tryd.prog Tryd.trimLay_ren := {
  mixed := by kernel_rfl
  f102 := Tryd.func56.trans (congrArg some (by kernel_rfl))
  f207 := Tryd.func69.trans (congrArg some (by kernel_rfl))
  f209 := Tryd.func66.trans (congrArg some (by kernel_rfl))
  t3 := Tryd.underlying3
  a3 := Tryd.isAgg3
  z3 := Tryd.sizeOf3
  v3 := Tryd.zeroValue3
  t4 := Tryd.underlying4
  a4 := Tryd.isAgg4
  z4 := Tryd.sizeOf4
  v4 := Tryd.zeroValue4
  t9 := Tryd.underlying9
  a9 := Tryd.isAgg9
  z9 := Tryd.sizeOf9
  v9 := Tryd.zeroValue9 }

def Tryd.validLay_ren : Go.Shelf.Ren := ⟨fun | 196 => 63 | 259 => 68 | n => n, fun | 9 => 9 | 4 => 4 | 3 => 3 | 5 => 5 | 12 => 12 | 119 => 97 | 0 => 0 | 46 => 101 | 139 => 100 | 138 => 99 | 53 => 103 | n => n, fun | 3 => 0 | 4 => 1 | n => n⟩
theorem Tryd.validLay : Go.Proofs.Lays.n196 Tryd.prog Tryd.validLay_ren := {
  mixed := by kernel_rfl
  f196 := Tryd.func63.trans (congrArg some (by kernel_rfl))
  f259 := Tryd.func68.trans (congrArg some (by kernel_rfl))
  t0 := Tryd.underlying0
  a0 := Tryd.isAgg0
  z0 := Tryd.sizeOf0
  v0 := Tryd.zeroValue0
  t3 := Tryd.underlying3
  a3 := Tryd.isAgg3
  z3 := Tryd.sizeOf3
  v3 := Tryd.zeroValue3
  t4 := Tryd.underlying4
  a4 := Tryd.isAgg4
  z4 := Tryd.sizeOf4
  v4 := Tryd.zeroValue4
  t5 := Tryd.underlying5
  a5 := Tryd.isAgg5
  z5 := Tryd.sizeOf5
  v5 := Tryd.zeroValue5
  t9 := Tryd.underlying9
  a9 := Tryd.isAgg9
  z9 := Tryd.sizeOf9
  v9 := Tryd.zeroValue9
  t12 := Tryd.underlying12
  a12 := Tryd.isAgg12
  z12 := Tryd.sizeOf12
  v12 := Tryd.zeroValue12
  t46 := Tryd.underlying101
  a46 := Tryd.isAgg101
  z46 := Tryd.sizeOf101
  v46 := Tryd.zeroValue101
  t53 := Tryd.underlying103
  a53 := Tryd.isAgg103
  z53 := Tryd.sizeOf103
  v53 := Tryd.zeroValue103
  t119 := Tryd.underlying97
  a119 := Tryd.isAgg97
  z119 := Tryd.sizeOf97
  t138 := Tryd.underlying99
  a138 := Tryd.isAgg99
  z138 := Tryd.sizeOf99
  v138 := Tryd.zeroValue99
  t139 := Tryd.underlying100
  a139 := Tryd.isAgg100
  z139 := Tryd.sizeOf100
  v139 := Tryd.zeroValue100
  g3 := by kernel_rfl
  g4 := by kernel_rfl }

def Tryd.hasLay_ren : Go.Shelf.Ren := ⟨fun | 8 => 57 | 6 => 67 | n => n, fun | 22 => 22 | 23 => 69 | 25 => 92 | 4 => 4 | 3 => 3 | 0 => 0 | n => n, fun | n => n⟩
theorem Tryd.hasLay : Go.Proofs.SlLaysH0.n8 Tryd.prog Tryd.hasLay_ren := {
  mixed := by kernel_rfl
  f6 := ⟨Tryd.f67.name, by decide, Tryd.func67.trans (congrArg some (by kernel_rfl))⟩
  f8 := ⟨Tryd.f57.name, by decide, Tryd.func57.trans (congrArg some (by kernel_rfl))⟩
  t0 := Tryd.underlying0
  a0 := Tryd.isAgg0
  z0 := Tryd.sizeOf0
  v0 := Tryd.zeroValue0
  t3 := Tryd.underlying3
  a3 := Tryd.isAgg3
  z3 := Tryd.sizeOf3
  v3 := Tryd.zeroValue3
  t4 := Tryd.underlying4
  a4 := Tryd.isAgg4
  z4 := Tryd.sizeOf4
  v4 := Tryd.zeroValue4
  t22 := Tryd.underlying22
  a22 := Tryd.isAgg22
  z22 := Tryd.sizeOf22
  v22 := Tryd.zeroValue22
  t25 := Tryd.underlying92
  a25 := Tryd.isAgg92
  z25 := Tryd.sizeOf92
  v25 := Tryd.zeroValue92 }

end Go.Proofs

namespace Go.Proofs.YtlgodjcmffdndaaDoor
open Go.RowKit Go.Maps

/-- The tables of the library, as they are laid. -/
def Tabs (w : World) : Prop := Lib.Utf8Tabs (Tryd.validLay_ren.g 3) (Tryd.validLay_ren.g 4) w

theorem valid_any (s : ByteArray) (w : World) (hs : s.size ≤ 9223372036854775807) (hT : Tabs w) :
    Calls Tryd.prog 63 #[.string s] w fun e w' => e = .returned (.bool (Lib.validD s.data.toList)) ∧ Below w.heap.size w w' := Any.utf8_ValidString Tryd.validLay s w hs hT

/-- A name without its mark. -/
def bare (s : ByteArray) : ByteArray := ⟨(Lib.trimSuffix s.data.toList "#".toUTF8.data.toList).toArray⟩

def symB (s : ByteArray) : Bool := nameB (Lib.validD (bare s).data.toList) (bare s)

theorem bare_size (s : ByteArray) : (bare s).size ≤ s.size := by
  show (Lib.trimSuffix s.data.toList _).toArray.size ≤ s.data.size
  unfold Lib.trimSuffix
  split
  · simp only [List.size_toArray, List.length_take, Array.length_toList]; omega
  · simp

set_option maxRecDepth 100000 in
theorem isSymbolName_any (s : ByteArray) (w : World) (hs : s.size ≤ 9223372036854775807) (hT : Tabs w) :
    Calls Tryd.prog 42 #[.string s] w fun e w' => e = .returned (.bool (symB s)) ∧ Below w.heap.size w w' := by
  have cT : Calls Tryd.prog 56 #[.string s, .string "#".toUTF8] w fun e w' => e = .returned (.string (bare s)) ∧ w' = w := Any.strings_TrimSuffix Tryd.trimLay s "#".toUTF8 w hs
  have hb := bare_size s
  have cN := isName_any (Lib.validD (bare s).data.toList) (bare s) w (by omega) (valid_any _ w (by omega) hT)
  have HT : Hid (Calls Tryd.prog 56 #[.string s, .string "#".toUTF8] w fun e w' => e = .returned (.string (bare s)) ∧ w' = w) := cT
  have HN : Hid (Calls Tryd.prog 55 #[.string (bare s)] w fun e w' => e = .returned (.bool (symB s)) ∧ Below w.heap.size w w') := cN
  clear cT cN hb
  generalize bare s = b at HT HN
  generalize symB s = B at HN ⊢
  go_enter Tryd.func42, Tryd.ntmps42
  go_wp2_with fail
  refine HT.out.mono ?_
  rintro e w9 ⟨rfl, hw9⟩
  have hw8 := hw9.symm
  subst hw8
  clear hw9
  go_wp2_with fail
  refine HN.out.mono ?_
  rintro e w9 ⟨rfl, hb9⟩
  go_wp2
  go_ret
  exact ⟨rfl, hb9⟩

end Go.Proofs.YtlgodjcmffdndaaDoor
