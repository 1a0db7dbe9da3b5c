/- What Canon answers. -/
import Derived.Test.YtifpanfgojfbkaaDoorTApplyC
import Derived.Test.YtifpanfgojfbkaaDoorTShiftB
namespace Go.Proofs.YtifpanfgojfbkaaDoor
open Go.RowKit Go.Maps

theorem under_numbers : Tryd.prog.underlying 74 = some (.map 3 3) := by kernel_rfl
theorem zero_int (w : World) : (zeroValue 3).run Tryd.prog w = .ok (.int .i64 0) w := by kernel_rfl

/-- The numbers met, the last one first, with what they became. -/
abbrev Met := List (Int × Int)
def metV (m : Met) : List (Int × Value) := m.map fun p => (p.1, .int .i64 p.2)
def numN (m : Met) (n : Int) : Int × Met := match m.lookup n with | some i => (i, m) | none => ((m.length : Int), (n, (m.length : Int)) :: m)

theorem metV_lookup (n : Int) : ∀ m : Met, (metV m).lookup n = (m.lookup n).map (Value.int .i64)
  | [] => rfl
  | (k, i) :: m => by
    show List.lookup n ((k, _) :: metV m) = _
    rw [List.lookup_cons, List.lookup_cons]
    cases n == k with
    | true => rfl
    | false => exact metV_lookup n m

/-- The closure of numbersAsMet. -/
def NumSt (b bx : Nat) (w : World) (m : Met) : Prop := w.cell? ⟨bx, 0, none⟩ = some (.map (some b)) ∧ MapV w b (metV m) ∧ m.length ≤ 9223372036854775806

set_option maxRecDepth 100000 in
set_option maxHeartbeats 800000 in
theorem number_closure (n : Int) (b bx : Nat) (m : Met) (w : World) (hc : w.cell? ⟨bx, 0, none⟩ = some (.map (some b))) (hm : MapV w b (metV m)) (hl : m.length < 9223372036854775806) (h1 : -9223372036854775808 ≤ n) (h2 : n ≤ 9223372036854775807) :
    Calls Tryd.prog 49 #[.int .i64 n, .pointer (some ⟨bx, 0, none⟩)] w fun e w' => e = .returned (.int .i64 (numN m n).1) ∧ w'.cell? ⟨bx, 0, none⟩ = some (.map (some b)) ∧ MapV w' b (metV (numN m n).2) ∧ w.grownBy w' (some b) := by
  have hlk := hm.look under_numbers (zero_int w) h1 h2
  rw [metV_lookup] at hlk
  have HM := hid hm
  have HCx := hid hc
  clear hm
  cases hn : m.lookup n with
  | some i =>
    have HN : Hid (numN m n = (i, m)) := by show _ = _; unfold numN; rw [hn]
    rw [hn] at hlk
    have HL : Hid ((Instr.lookup 74 (.map (some b)) (.int .i64 n) true).run Tryd.prog w = .ok (.tuple #[.int .i64 i, .bool true]) w) := hlk
    clear hlk hn
    go_enter Tryd.func49, Tryd.ntmps49
    go_wp2_with (first
      | (at_lookup; refine wpList_lookup_run rfl _ _ _ _ rfl _ _ _ rfl rfl HL.out ?_))
    go_ret
    exact ⟨by rw [HN.out]; rfl, HCx.out, by rw [HN.out]; exact HM.out, World.grownBy.refl _ _⟩
  | none =>
    have HN : Hid (numN m n = ((m.length : Int), (n, (m.length : Int)) :: m)) := by show _ = _; unfold numN; rw [hn]
    have hnone : (metV m).lookup n = none := by rw [metV_lookup, hn]; rfl
    rw [hn] at hlk
    have HL : Hid ((Instr.lookup 74 (.map (some b)) (.int .i64 n) true).run Tryd.prog w = .ok (.tuple #[.int .i64 0, .bool false]) w) := hlk
    have hml : (metV m).length = m.length := by simp [metV]
    have hlen := HM.out.len under_numbers 3
    rw [hml] at hlen
    obtain ⟨w4, hr4, hm4, hg4⟩ := HM.out.store under_numbers h1 h2 hnone (by rw [hml]; unfold maxLen; omega) (.int .i64 (m.length : Int))
    obtain ⟨es, ck, hes⟩ := HM.out.isMap
    have HR4 := hid hr4
    have HM4 : Hid (MapV w4 b (metV ((n, (m.length : Int)) :: m))) := hm4
    have HC4 : Hid (w4.cell? ⟨bx, 0, none⟩ = some (.map (some b))) := (Kp.of_map hg4 hes).cell _ _ hc
    have HG4 := hid hg4
    clear hlk hn hnone hr4 hm4 hg4 hes
    go_enter Tryd.func49, Tryd.ntmps49
    go_wp2_with (first
      | (at_lookup; refine wpList_lookup_run rfl _ _ _ _ rfl _ _ _ rfl rfl HL.out ?_)
      | (at_mapUpdate; refine wpList_mapUpdate_run rfl _ _ _ _ rfl _ _ _ rfl rfl rfl HR4.out ?_))
    go_ret
    exact ⟨by rw [HN.out]; rfl, HC4.out, by rw [HN.out]; exact HM4.out, HG4.out⟩

end Go.Proofs.YtifpanfgojfbkaaDoor
