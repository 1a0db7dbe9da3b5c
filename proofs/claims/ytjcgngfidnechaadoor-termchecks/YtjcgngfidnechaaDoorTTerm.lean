/- What firstTerm and checkRow answer. -/
import Derived.Test.YtjcgngfidnechaaDoorTBase
namespace Go.Proofs.YtjcgngfidnechaaDoor
open Go.RowKit Go.Maps

/-- A symbol: its name and its arity. -/
abbrev Sy := ByteArray × Int

/-- A symbol at an address. -/
def ES (w : World) (g o : Nat) (s : Sy) : Prop := -9223372036854775808 ≤ s.2 ∧ s.2 ≤ 9223372036854775807 ∧ s.1.size ≤ maxLen ∧ w.cell? ⟨g, o, none⟩ = some (.string s.1) ∧ w.cell? ⟨g, o + 1, none⟩ = some (.int .i64 s.2)

theorem ES.kp {w w' : World} (hk : Kp w w') (g o : Nat) (s : Sy) (h : ES w g o s) : ES w' g o s := ⟨h.1, h.2.1, h.2.2.1, hk.cell _ _ h.2.2.2.1, hk.cell _ _ h.2.2.2.2⟩

/-- A signature. -/
def Sg (w : World) (v : Value) (sig : List Sy) : Prop := Row ES 2 w v sig
theorem Sg.kp {w w' : World} {v : Value} {sig : List Sy} (h : Sg w v sig) (hk : Kp w w') : Sg w' v sig := Row.imp h hk.size (ES.kp hk)

theorem Sg.at {w : World} {ao : Option Addr} {n cap : Nat} {sig : List Sy} (h : Sg w (.slice ao n cap) sig) {k : Nat} (hk : k < sig.length) :
    ∃ g off s a, ao = some ⟨g, off, none⟩ ∧ sig[k]? = some (s, a) ∧ w.cell? ⟨g, off + k * 2, none⟩ = some (.string s) ∧ w.cell? ⟨g, off + k * 2 + 1, none⟩ = some (.int .i64 a) ∧ -9223372036854775808 ≤ a ∧ a ≤ 9223372036854775807 ∧ s.size ≤ 9223372036854775807 := by
  obtain ⟨ao', cap', hv, _, _, hx⟩ := Row.flat h
  simp only [Value.slice.injEq] at hv
  obtain ⟨rfl, rfl, rfl⟩ := hv
  obtain ⟨g, off, ⟨s, a⟩, rfl, hm, h1, h2, h3, h4, h5⟩ := hx k hk
  unfold maxLen at h3
  exact ⟨g, off, s, a, rfl, hm, h4, h5, h1, h2, by simp only at h3; omega⟩

def ArOk (sig : List Sy) : Prop := ∀ s ∈ sig, 0 ≤ s.2 ∧ s.2 ≤ 1000

/-- How much a code changes what is missing; none: the code is wrong. -/
def codeD (sig : List Sy) (c : Int) : Option Int := if c < -1048576 then none else if c < 0 then some (-1) else match sig[c.toNat]? with | none => none | some s => some (s.2 - 1)

/-- The nodes of the term with which a row begins, and the error. -/
def firstT (sig : List Sy) : Int → Nat → List Int → Int × Int
  | _, _, [] => (0, 31)
  | m, i, c :: r => match codeD sig c with | none => (0, 30) | some e => if m + e = 0 then ((i : Int) + 1, 0) else firstT sig (m + e) (i + 1) r

theorem codeD_none {sig : List Sy} {c : Int} (h : (sig.length : Int) ≤ c ∨ c < -1048576) : codeD sig c = none := by
  unfold codeD
  rcases h with h | h
  · rw [if_neg (by omega), if_neg (by omega), List.getElem?_eq_none (by omega)]
  · rw [if_pos h]

theorem codeD_var {sig : List Sy} {c : Int} (h1 : -1048576 ≤ c) (h2 : c < 0) : codeD sig c = some (-1) := by
  unfold codeD
  rw [if_neg (by omega), if_pos h2]

theorem codeD_sym {sig : List Sy} {c : Nat} {s : Sy} (h : sig[c]? = some s) : codeD sig (c : Int) = some (s.2 - 1) := by
  unfold codeD
  rw [if_neg (by omega), if_neg (by omega), Int.toNat_natCast, h]

set_option maxRecDepth 100000 in
set_option maxHeartbeats 1600000 in
theorem firstTerm_any (sv v : Value) (sig : List Sy) (t : List Int) (w : World) (hs : Sg w sv sig) (h : Is w v t) (ha : ArOk sig) (hb : t.length * 8 ≤ 140737488351232) :
    Calls Tryd.prog 51 #[sv, v] w fun e w' => e = .returned (.tuple #[.int .i64 (firstT sig 1 0 t).1, .int .i64 (firstT sig 1 0 t).2]) ∧ w' = w := by
  obtain ⟨so, sc, rfl, hso, hsc, _⟩ := Row.flat hs
  obtain ⟨ao, cap, rfl, hao, hca, q0⟩ := Row.flat h
  unfold maxLen at hca hsc
  have HS : Hid (Sg w (.slice so sig.length sc) sig) := hs
  have HT : Hid (Is w (.slice ao t.length cap) t) := h
  have HA : Hid (ArOk sig) := ha
  clear hs h q0 ha
  go_enter Tryd.func51, Tryd.ntmps51
  go_wp2
  go_loopw [6, 11] (fun x i wr => ∃ (k : Nat) (m : Int), k ≤ t.length ∧ x = .int .i64 m ∧ i = .int .i64 k ∧ firstT sig 1 0 t = firstT sig m k (t.drop k) ∧ -(k : Int) ≤ m ∧ m ≤ 1 + 1000 * (k : Int) ∧ wr = w) (fun _ i _ => t.length - (intOf i).toNat)
  case atStart => exact ⟨0, 1, Nat.zero_le _, rfl, rfl, rfl, by omega, by omega, rfl⟩
  case round =>
    obtain ⟨k, m, hk, rfl, rfl, hft, hm1, hm2, hw⟩ := hrel
    have hw8 := hw.symm
    subst hw8
    have HF : Hid (firstT sig 1 0 t = firstT sig m k (t.drop k)) := hft
    clear hft hw
    by_cases hlt : k < t.length
    · obtain ⟨g, off, c, rfl, hx1, hx2, hx3, hx4⟩ := HT.out.at hlt
      have HD : Hid (t.drop k = c :: t.drop (k + 1)) := drop_get hx1
      clear hx1
      by_cases hbad : (sig.length : Int) ≤ c ∨ c < -1048576
      · have HR : Hid (firstT sig 1 0 t = (0, 30)) := by show _ = _; rw [HF.out, HD.out, firstT, codeD_none hbad]
        rcases hbad with hbad | hbad
        · go_wp2
          go_ret2
          exact ⟨by rw [HR.out]; rfl, rfl⟩
        · by_cases hbad2 : (sig.length : Int) ≤ c
          · omega
          · go_wp2
            go_ret2
            exact ⟨by rw [HR.out]; rfl, rfl⟩
      · have hb1 : ¬ (sig.length : Int) ≤ c := fun h => hbad (.inl h)
        have hb2 : ¬ c < -1048576 := fun h => hbad (.inr h)
        clear hbad
        by_cases hc0 : c < 0
        · have hcd : codeD sig c = some (-1) := codeD_var (by omega) hc0
          have hwm : IntKind.i64.wrap (m - 1) = m - 1 := IntWalk.i64_in _ ⟨by omega, by omega⟩
          by_cases hz : m - 1 = 0
          · have HR : Hid (firstT sig 1 0 t = ((k : Int) + 1, 0)) := by show _ = _; rw [HF.out, HD.out, firstT, hcd]; simp only; rw [if_pos (by omega)]
            have hzb : (m - 1 == 0) = true := by rw [beq_iff_eq]; exact hz
            clear hcd
            go_wp2
            go_ret2
            exact ⟨by rw [HR.out]; rfl, rfl⟩
          · have HN : Hid (firstT sig 1 0 t = firstT sig (m - 1) (k + 1) (t.drop (k + 1))) := by show _ = _; rw [HF.out, HD.out, firstT, hcd]; simp only; rw [if_neg (by omega)]; rfl
            have hzb : (m - 1 == 0) = false := by rw [beq_eq_false_iff_ne]; exact hz
            clear hcd
            go_wp2
            go_roundw
            case rel => exact ⟨k + 1, m - 1, by omega, rfl, by go_num, HN.out, by omega, by omega, trivial⟩
            case measure => simp [intOf]; omega
        · obtain ⟨cn, rfl⟩ : ∃ cn : Nat, c = cn := ⟨c.toNat, by omega⟩
          obtain ⟨g2, off2, nm, ar, rfl, hs1, hs2, hs3, hs4, hs5, hs6⟩ := HS.out.at (k := cn) (by omega)
          have har := HA.out _ (List.mem_of_getElem? hs1)
          simp only at har
          have hcd : codeD sig (cn : Int) = some (ar - 1) := codeD_sym hs1
          have hwa : IntKind.i64.wrap (ar - 1) = ar - 1 := IntWalk.i64_in _ ⟨by omega, by omega⟩
          have hwm : IntKind.i64.wrap (m + (ar - 1)) = m + (ar - 1) := IntWalk.i64_in _ ⟨by omega, by omega⟩
          have hcl : cn < sig.length := by omega
          clear hs1
          by_cases hz : m + (ar - 1) = 0
          · have HR : Hid (firstT sig 1 0 t = ((k : Int) + 1, 0)) := by show _ = _; rw [HF.out, HD.out, firstT, hcd]; simp only; rw [if_pos (by omega)]
            have hzb : (m + (ar - 1) == 0) = true := by rw [beq_iff_eq]; exact hz
            clear hcd
            go_wp2
            go_ret2
            exact ⟨by rw [HR.out]; rfl, rfl⟩
          · have HN : Hid (firstT sig 1 0 t = firstT sig (m + (ar - 1)) (k + 1) (t.drop (k + 1))) := by show _ = _; rw [HF.out, HD.out, firstT, hcd]; simp only; rw [if_neg (by omega)]
            have hzb : (m + (ar - 1) == 0) = false := by rw [beq_eq_false_iff_ne]; exact hz
            clear hcd
            go_wp2
            go_roundw
            case rel => exact ⟨k + 1, m + (ar - 1), by omega, rfl, by go_num, HN.out, by omega, by omega, trivial⟩
            case measure => simp [intOf]; omega
    · have HR : Hid (firstT sig 1 0 t = (0, 31)) := by show _ = _; rw [HF.out, List.drop_of_length_le (by omega)]; rfl
      go_wp2
      go_ret2
      exact ⟨by rw [HR.out]; rfl, rfl⟩

/-- Check, of a signature that may be. -/
def rowE (sig : List Sy) (t : List Int) : Int := if (firstT sig 1 0 t).2 = 0 ∧ (firstT sig 1 0 t).1 < (t.length : Int) then 32 else (firstT sig 1 0 t).2

set_option maxRecDepth 100000 in
set_option maxHeartbeats 800000 in
theorem checkRow_any (sv v : Value) (sig : List Sy) (t : List Int) (w : World) (hs : Sg w sv sig) (h : Is w v t) (ha : ArOk sig) (hb : t.length * 8 ≤ 140737488351232) :
    Calls Tryd.prog 34 #[sv, v] w fun e w' => e = .returned (.int .i64 (rowE sig t)) ∧ w' = w := by
  obtain ⟨ao, cap, rfl, hao, hca, q0⟩ := Row.flat h
  unfold maxLen at hca
  have HS : Hid (Sg w sv sig) := hs
  have HT : Hid (Is w (.slice ao t.length cap) t) := h
  clear hs h q0
  go_enter Tryd.func34, Tryd.ntmps34
  go_wp2_with fail
  refine (firstTerm_any sv _ sig t _ HS.out HT.out ha hb).mono ?_
  rintro e w1 ⟨rfl, hw⟩
  have hw8 := hw.symm
  subst hw8
  obtain ⟨N, hN⟩ : ∃ N, N = (firstT sig 1 0 t).1 := ⟨_, rfl⟩
  obtain ⟨E, hE⟩ : ∃ E, E = (firstT sig 1 0 t).2 := ⟨_, rfl⟩
  have HR : Hid (rowE sig t = if E = 0 ∧ N < (t.length : Int) then 32 else E) := by show _ = _; unfold rowE; rw [← hN, ← hE]
  rw [← hN, ← hE]
  clear hN hE hw
  by_cases h0 : E = 0
  · subst h0
    by_cases h1 : N < (t.length : Int)
    · have HF : Hid (rowE sig t = 32) := by show _ = _; rw [HR.out, if_pos ⟨rfl, h1⟩]
      go_wp2
      go_ret
      exact ⟨ret1i HF.out.symm, rfl⟩
    · have HF : Hid (rowE sig t = 0) := by show _ = _; rw [HR.out, if_neg (fun hh => h1 hh.2)]
      go_wp2
      go_ret
      exact ⟨ret1i HF.out.symm, rfl⟩
  · have hb0 : (E == 0) = false := by rw [beq_eq_false_iff_ne]; exact h0
    have HF : Hid (rowE sig t = E) := by show _ = _; rw [HR.out, if_neg (fun hh => h0 hh.1)]
    go_wp2
    go_ret
    exact ⟨ret1i HF.out.symm, rfl⟩

end Go.Proofs.YtjcgngfidnechaaDoor
