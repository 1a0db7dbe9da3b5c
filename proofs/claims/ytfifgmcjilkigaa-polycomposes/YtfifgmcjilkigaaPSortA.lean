/- What the comparison of two keys answers. -/
import Derived.Test.YtfifgmcjilkigaaPMap
import Derived.Lib.Bytealg
import Derived.Laws.Externs
import Derived.Shelf.SlSortCmp.NoneTotal
namespace Go.Proofs.Ytfifgmcjilkigaa
open Go.RowKit Go.Maps

def bytesK (ks : List Nat) (acc : ByteArray) : ByteArray := ks.foldl (fun a x => a.push x.toUInt8) acc

theorem bytesK_data (ks : List Nat) : ∀ acc : ByteArray, (bytesK ks acc).data.toList = acc.data.toList ++ ks.map Nat.toUInt8 := by
  induction ks with
  | nil => intro acc; simp [bytesK]
  | cons a r ih =>
    intro acc
    have := ih (acc.push a.toUInt8)
    unfold bytesK at this ⊢
    rw [List.foldl_cons, this]
    simp [ByteArray.push]

theorem run_loadBytes {P : Program} (w : World) (g : Nat) : ∀ (l : List Nat) (o : Nat) (acc : ByteArray), (∀ (j x : Nat), l[j]? = some x → w.cell? ⟨g, o + j, none⟩ = some (.int .u8 (x : Int))) →
    (Extern.Bytes.loadBytes ⟨g, o, none⟩ l.length acc).run P w = .ok (bytesK l acc) w := by
  intro l
  induction l with
  | nil => intro o acc _; rfl
  | cons a r ih =>
    intro o acc h
    have h0 := h 0 a rfl
    rw [Nat.add_zero] at h0
    rw [List.length_cons, Extern.Bytes.loadBytes]
    have hadd : (⟨g, o, none⟩ : Addr).add 1 = ⟨g, o + 1, none⟩ := by unfold Addr.add; simp
    simp only [Sem.run_bind, run_load, h0, Result.andThen_ok, Int.toNat_natCast]
    rw [hadd, ih (o + 1) (acc.push a.toUInt8) (fun j x hj => by have := h (j + 1) x hj; rwa [show o + (j + 1) = o + 1 + j by omega] at this)]
    rfl

theorem toUInt8_lt {a b : Nat} (ha : a < 256) (hb : b < 256) : (a.toUInt8 < b.toUInt8) = (a < b) := by
  rw [UInt8.lt_iff_toNat_lt]
  simp only [Nat.toUInt8, UInt8.toNat_ofNat']
  rw [Nat.mod_eq_of_lt (by omega), Nat.mod_eq_of_lt (by omega)]

theorem compareBytes_eq : ∀ (a b : List Nat), (∀ x ∈ a, x < 256) → (∀ x ∈ b, x < 256) → Lib.compareBytes (a.map Nat.toUInt8) (b.map Nat.toUInt8) = cmpK a b
  | [], [], _, _ => rfl
  | [], _ :: _, _, _ => rfl
  | _ :: _, [], _, _ => rfl
  | x :: r, y :: q, ha, hb => by
    have h1 := toUInt8_lt (ha x (by simp)) (hb y (by simp))
    have h2 := toUInt8_lt (hb y (by simp)) (ha x (by simp))
    have ih := compareBytes_eq r q (fun z hz => ha z (by simp [hz])) (fun z hz => hb z (by simp [hz]))
    simp only [List.map_cons, Lib.compareBytes, cmpK, h1, h2, ih]

theorem WfK.mem {ks : List Nat} (h : WfK ks) : ∀ x ∈ ks, x < 256 := by
  intro x hx
  obtain ⟨j, hj⟩ := List.mem_iff_getElem?.1 hx
  exact h.2 j x hj

theorem run_compare {w : World} {g g' c c' : Nat} {a b : List Nat} (ha : Ar w g a) (hb : Ar w g' b) (hwa : WfK a) (hwb : WfK b) :
    (Extern.BytealgCompare.compare #[.slice (some ⟨g, 0, none⟩) 512 c, .slice (some ⟨g', 0, none⟩) 512 c']).run Try.prog w = .ok (.int .i64 (cmpK a b)) w := by
  have h1 := run_loadBytes (P := Try.prog) w g a 0 .empty (fun j x hj => by rw [Nat.zero_add]; exact ha.cell hj)
  have h2 := run_loadBytes (P := Try.prog) w g' b 0 .empty (fun j x hj => by rw [Nat.zero_add]; exact hb.cell hj)
  rw [hwa.1] at h1
  rw [hwb.1] at h2
  change Sem.run Try.prog (do pure (goInt (Extern.BytealgCompare.cmp (← Extern.Bytes.bytesOf (.slice (some ⟨g, 0, none⟩) 512 c)) (← Extern.Bytes.bytesOf (.slice (some ⟨g', 0, none⟩) 512 c'))))) w = _
  simp only [Extern.Bytes.bytesOf, Sem.run_bind, Sem.run_pure, h1, h2, Result.andThen_ok]
  rw [Lib.cmp_eq, bytesK_data, bytesK_data]
  have e0 : ByteArray.empty.data.toList = [] := rfl
  rw [e0, List.nil_append, List.nil_append, compareBytes_eq a b hwa.mem hwb.mem]
  rfl

set_option maxRecDepth 100000 in
theorem bytesCompare_any {w : World} {g g' c c' : Nat} {a b : List Nat} (ha : Ar w g a) (hb : Ar w g' b) (hwa : WfK a) (hwb : WfK b) :
    Calls Try.prog 68 #[.slice (some ⟨g, 0, none⟩) 512 c, .slice (some ⟨g', 0, none⟩) 512 c'] w fun e w' => e = .returned (.int .i64 (cmpK a b)) ∧ w' = w := by
  have hrun := run_compare (c := c) (c' := c') ha hb hwa hwb
  go_enter Try.func68, Try.ntmps68
  go_wp2
  rw [run_callFunc_extern Try.func79 (by kernel_rfl) (by kernel_rfl) (by kernel_rfl) (e := Extern.BytealgCompare.compare) (by kernel_rfl), hrun]
  simp only [Result.andThen]
  rw [Oper.upon_value]
  go_wp2
  go_ret
  exact ⟨rfl, rfl⟩

end Go.Proofs.Ytfifgmcjilkigaa
