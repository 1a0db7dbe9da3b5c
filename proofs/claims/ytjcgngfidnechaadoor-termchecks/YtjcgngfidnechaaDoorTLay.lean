/- The library's functions that term reaches, laid at this program. -/
import Derived.Test.YtjcgngfidnechaaDoorTName
import Derived.Ground.NamesProg
import Derived.Ground.SlgfProg
import Derived.Shelf.Lay
import Derived.Shelf.SlGeneric
import Derived.Shelf.Strings.Prefix
import Derived.Shelf.Unicode.ValidAny
import Derived.Shelf.SlicesQ.IndexFunc
namespace Go.Proofs
open Go.Shelf Go.RowKit Go.Lib

shelf_lay Lays.n102 Nm 102 at Tryd as Tryd.trimLay

shelf_lay Lays.n196 Nm 196 at Tryd as Tryd.validLay

shelf_lay_g SlLaysH0.n8 Slgf 8 at Tryd 46 as Tryd.hasLay

end Go.Proofs

namespace Go.Proofs.YtjcgngfidnechaaDoor
open Go.RowKit Go.Maps

/-- The tables of the library, as they are laid. -/
def Tabs (w : World) : Prop := Lib.Utf8Tabs (Tryd.validLay_ren.g 3) (Tryd.validLay_ren.g 4) w

theorem valid_any (s : ByteArray) (w : World) (hs : s.size ≤ 9223372036854775807) (hT : Tabs w) :
    Calls Tryd.prog 57 #[.string s] w fun e w' => e = .returned (.bool (Lib.validD s.data.toList)) ∧ Below w.heap.size w w' := Any.utf8_ValidString Tryd.validLay s w hs hT

/-- A name without its mark. -/
def bare (s : ByteArray) : ByteArray := ⟨(Lib.trimSuffix s.data.toList "#".toUTF8.data.toList).toArray⟩

def symB (s : ByteArray) : Bool := nameB (Lib.validD (bare s).data.toList) (bare s)

theorem bare_size (s : ByteArray) : (bare s).size ≤ s.size := by
  show (Lib.trimSuffix s.data.toList _).toArray.size ≤ s.data.size
  unfold Lib.trimSuffix
  split
  · simp only [List.size_toArray, List.length_take, Array.length_toList]; omega
  · simp

set_option maxRecDepth 100000 in
theorem isSymbolName_any (s : ByteArray) (w : World) (hs : s.size ≤ 9223372036854775807) (hT : Tabs w) :
    Calls Tryd.prog 30 #[.string s] w fun e w' => e = .returned (.bool (symB s)) ∧ Below w.heap.size w w' := by
  have cT : Calls Tryd.prog 45 #[.string s, .string "#".toUTF8] w fun e w' => e = .returned (.string (bare s)) ∧ w' = w := Any.strings_TrimSuffix Tryd.trimLay s "#".toUTF8 w hs
  have hb := bare_size s
  have cN := isName_any (Lib.validD (bare s).data.toList) (bare s) w (by omega) (valid_any _ w (by omega) hT)
  have HT : Hid (Calls Tryd.prog 45 #[.string s, .string "#".toUTF8] w fun e w' => e = .returned (.string (bare s)) ∧ w' = w) := cT
  have HN : Hid (Calls Tryd.prog 44 #[.string (bare s)] w fun e w' => e = .returned (.bool (symB s)) ∧ Below w.heap.size w w') := cN
  clear cT cN hb
  generalize bare s = b at HT HN
  generalize symB s = B at HN ⊢
  go_enter Tryd.func30, Tryd.ntmps30
  go_wp2_with fail
  refine HT.out.mono ?_
  rintro e w9 ⟨rfl, hw9⟩
  have hw8 := hw9.symm
  subst hw8
  clear hw9
  go_wp2_with fail
  refine HN.out.mono ?_
  rintro e w9 ⟨rfl, hb9⟩
  go_wp2
  go_ret
  exact ⟨rfl, hb9⟩

end Go.Proofs.YtjcgngfidnechaaDoor
