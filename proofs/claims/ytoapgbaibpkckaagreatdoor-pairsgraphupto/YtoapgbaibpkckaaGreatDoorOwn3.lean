/- Texts of the proof, one behind the other. -/
import Derived.Test.YtoapgbaibpkckaaGreatDoorOwn2
import Derived.Shelf.Abstract
/- The document's marked names walked. -/
namespace Go.Proofs.YtoapgbaibpkckaaGreatDoor
open Go.RowKit Go.Maps Go.Lib

set_option maxRecDepth 100000 in
theorem refMarked_any (s : ByteArray) (w : World) (hs : s.size ≤ 9223372036854775807) :
    Calls Tryz.prog 57 #[.string s] w fun e w' => e = .returned (.bool (markB s)) ∧ Below w.heap.size w w' := by
  go_enter Tryz.func57, Tryz.ntmps57
  by_cases h0 : s.size = 0
  · have HF : Hid (markB s = false) := by show _ = _; unfold markB; rw [decide_eq_false (by omega)]; rfl
    go_wp2
    go_ret
    exact ⟨ret1b HF.out.symm, Below.refl _ _⟩
  · have h1 : 0 < s.size := by omega
    have hlast : lastB s = s[s.size - 1]'(by omega) := by
      unfold lastB
      rw [List.getD_eq_getElem?_getD, List.getElem?_eq_getElem (by rw [← Go.Lib.size_eq]; omega), Option.getD_some]
      rfl
    by_cases hc : lastB s = 35
    · have HF : Hid (markB s = nameB (validD (init1 s).data.toList) (init1 s)) := by show _ = _; unfold markB; rw [decide_eq_true h1, decide_eq_true hc]; rfl
      have hz : ((s[s.size - 1]'(by omega)).toNat : Int) = 35 := by rw [← hlast, hc]; rfl
      have hsz : (init1 s).size ≤ 9223372036854775807 := by unfold init1; rw [ByteArray.size_extract]; omega
      have HC := hid (refName_any (init1 s) w hsz)
      generalize nameB (validD (init1 s).data.toList) (init1 s) = B at HF HC
      rw [show init1 s = s.extract 0 (s.size - 1) from rfl] at HC
      clear hlast hc hsz
      go_wp2_with fail
      refine HC.out.mono ?_
      rintro e w1 ⟨rfl, hb1⟩
      go_wp2
      go_ret
      exact ⟨ret1b HF.out.symm, hb1⟩
    · have HF : Hid (markB s = false) := by show _ = _; unfold markB; rw [decide_eq_false hc]; simp
      have hz : ¬ ((s[s.size - 1]'(by omega)).toNat : Int) = 35 := fun h => hc (by
        rw [hlast]
        apply UInt8.toNat_inj.1
        show _ = 35
        omega)
      clear hlast hc
      go_wp2
      go_ret
      exact ⟨ret1b HF.out.symm, Below.refl _ _⟩

end Go.Proofs.YtoapgbaibpkckaaGreatDoor

/- What the document's CheckSig, Term and Check answer. -/
namespace Go.Proofs.YtoapgbaibpkckaaGreatDoor
open Go.RowKit Go.Maps Go.BigFrame

set_option maxRecDepth 100000 in
set_option maxHeartbeats 1600000 in
theorem refCheckSig_any (sv : Value) (sig : List Sy) (w : World) (hs : Sg w sv sig) :
    Calls Tryz.prog 56 #[sv] w fun e w' => e = .returned (.int .i64 (sigE sig)) ∧ Below w.heap.size w w' := by
  obtain ⟨so, sc, rfl, hso, hsc, _⟩ := Row.flat hs
  unfold maxLen at hsc
  have HS : Hid (Sg w (.slice so sig.length sc) sig) := hs
  clear hs
  go_enter Tryz.func56, Tryz.ntmps56
  by_cases h128 : 128 < sig.length
  · have HR : Hid (sigE sig = 37) := by show _ = _; unfold sigE; rw [if_pos h128]
    go_wp2
    go_ret
    exact ⟨ret1i HR.out.symm, Below.refl _ _⟩
  · have HR : Hid (sigE sig = sigGo sig 0 sig) := by show _ = _; unfold sigE; rw [if_neg h128]
    go_wp2
    go_loopw [3] (fun i wr => ∃ k : Nat, k ≤ sig.length ∧ i = .int .i64 k ∧ sigGo sig 0 sig = sigGo sig k (sig.drop k) ∧ Below w.heap.size w wr) (fun i _ => sig.length - (intOf i).toNat)
    case atStart => exact ⟨0, Nat.zero_le _, rfl, rfl, Below.refl _ _⟩
    case round =>
      obtain ⟨k, hk, rfl, hgo, hbl⟩ := hrel
      have HG : Hid (sigGo sig 0 sig = sigGo sig k (sig.drop k)) := hgo
      clear hgo
      by_cases hlt : k < sig.length
      · have HSr : Hid (Sg wr (.slice so sig.length sc) sig) := HS.out.kp (Kp.of_below hbl)
        obtain ⟨g, off, s, a, rfl, hm, hc0, hc1, ha1, ha2, hs3⟩ := HSr.out.at hlt
        have HM := hid hm
        have HD : Hid (sigE sig = if symB s then (if a < 0 ∨ 8 < a then 35 else if hasB (sig.take k) s then 36 else sigGo sig (k + 1) (sig.drop (k + 1))) else 34) := by
          show _ = _
          rw [HR.out, HG.out, drop_get hm]
          rfl
        clear hm
        obtain ⟨SB, hsy⟩ : ∃ b, symB s = b := ⟨_, rfl⟩
        rw [hsy] at HD
        rw [sym_ref] at hsy
        go_upto_region 6 with fail
        go_cut [29] from 14 to 29 (fun r wx => r = .bool (!SB) ∧ Below wr.heap.size wr wx)
        case first =>
          go_wp2_with fail
          refine (refName_any s wr hs3).mono ?_
          rintro e w1 ⟨rfl, hb1⟩
          have hd0 := (Kp.of_below hb1).cell _ _ hc0
          have HB1 := hid hb1
          clear hb1
          cases hn : nameB (Lib.validD s.data.toList) s
          · go_wp2_with fail
            refine (refMarked_any s w1 hs3).mono ?_
            rintro e w2 ⟨rfl, hb2⟩
            rw [hn, Bool.false_or] at hsy
            rw [hsy]
            have HB2 := hid (below_step HB1.out hb2)
            clear hb2 hsy hn
            go_wp2
            go_meet
            exact ⟨rfl, HB2.out⟩
          · rw [hn, Bool.true_or] at hsy
            subst hsy
            go_wp2
            go_meet
            exact ⟨rfl, HB1.out⟩
        case rest =>
          obtain ⟨rfl, hbx⟩ := hcut
          have he0 := (Kp.of_below hbx).cell _ _ hc0
          have he1 := (Kp.of_below hbx).cell _ _ hc1
          have HBc := hid (below_step hbl hbx)
          have HSc := hid (HSr.out.kp (Kp.of_below hbx))
          clear hbx hc0 hc1 hsy hbl HSr
          cases SB
          · have HF : Hid (sigE sig = 34) := by show _ = _; rw [HD.out]; rfl
            go_wp2
            go_ret
            exact ⟨ret1i HF.out.symm, HBc.out⟩
          by_cases ha0 : a < 0
          · have HF : Hid (sigE sig = 35) := by show _ = _; rw [HD.out, if_pos rfl, if_pos (.inl ha0)]
            go_wp2
            go_ret
            exact ⟨ret1i HF.out.symm, HBc.out⟩
          by_cases ha8 : 8 < a
          · have HF : Hid (sigE sig = 35) := by show _ = _; rw [HD.out, if_pos rfl, if_pos (.inr ha8)]
            go_wp2
            go_ret
            exact ⟨ret1i HF.out.symm, HBc.out⟩
          have HF : Hid (sigE sig = if hasB (sig.take k) s then 36 else sigGo sig (k + 1) (sig.drop (k + 1))) := by show _ = _; rw [HD.out, if_pos rfl, if_neg (by omega)]
          clear HD
          go_wp2
          go_loopw [4] (fun x wy => ∃ j : Nat, j ≤ k ∧ x = .int .i64 j ∧ hasB (sig.take j) s = false ∧ Below wc.heap.size wc wy) (fun x _ => k - (intOf x).toNat)
          case atStart => exact ⟨0, Nat.zero_le _, rfl, rfl, Below.refl _ _⟩
          case round =>
            obtain ⟨j, hj, rfl, hno, hby⟩ := hrel
            have HNo := hid hno
            have HBy := hid (below_step HBc.out hby)
            have hf0 := (Kp.of_below hby).cell _ _ he0
            have hf1 := (Kp.of_below hby).cell _ _ he1
            clear hno
            by_cases hjk : j < k
            · obtain ⟨g', off', s2, a2, hq, hm2, hk0, _, _, _, _⟩ := (HSc.out.kp (Kp.of_below hby)).at (k := j) (by omega)
              obtain ⟨rfl, rfl⟩ : g = g' ∧ off = off' := by simpa using hq
              have hjl : j < sig.length := by omega
              have HA : Hid (hasB (sig.take (j + 1)) s = (hasB (sig.take j) s || sameS s2 s)) := by
                show _ = _
                unfold hasB
                rw [List.take_add_one, hm2, List.any_append]
                simp
              have HAll : Hid (hasB (sig.take (j + 1)) s = true → hasB (sig.take k) s = true) := fun h => by
                unfold hasB at h ⊢
                rw [List.any_eq_true] at h ⊢
                obtain ⟨x, hx, hx2⟩ := h
                exact ⟨x, List.take_subset_take_left _ (by omega) hx, hx2⟩
              clear hm2 hq
              cases hss : sameS s2 s
              · have hss2 : (s2.toList == s.toList) = false := hss
                have HN2 : Hid (hasB (sig.take (j + 1)) s = false) := by show _ = _; rw [HA.out, HNo.out, hss]; rfl
                go_wp2
                go_quiet (fail)
                go_wp2
                go_roundw
                case rel => exact ⟨j + 1, by omega, by go_num, HN2.out, below_drewN hby _⟩
                case measure => simp [intOf]; omega
              · have hss2 : (s2.toList == s.toList) = true := hss
                have HN2 : Hid (sigE sig = 36) := by show _ = _; rw [HF.out, HAll.out (by rw [HA.out, hss, Bool.or_true]), if_pos rfl]
                go_wp2
                go_quiet (fail)
                go_wp2
                go_ret
                exact ⟨ret1i HN2.out.symm, below_drewN HBy.out _⟩
            · have hjk2 : j = k := by omega
              have HN : Hid (sigGo sig 0 sig = sigGo sig (k + 1) (sig.drop (k + 1))) := by
                show _ = _
                rw [← HR.out, HF.out, ← hjk2, HNo.out, hjk2]
                rfl
              go_wp2
              go_roundw
              case rel => exact ⟨k + 1, by omega, by go_num, HN.out, HBy.out⟩
              case measure => simp [intOf]; omega
      · have hke : k = sig.length := by omega
        subst hke
        have HF : Hid (sigE sig = 0) := by show _ = _; rw [HR.out, HG.out, List.drop_length]; rfl
        go_wp2
        go_ret
        exact ⟨ret1i HF.out.symm, hbl⟩

end Go.Proofs.YtoapgbaibpkckaaGreatDoor

/- What the document's Term and Check answer. -/
namespace Go.Proofs.YtoapgbaibpkckaaGreatDoor
open Go.RowKit Go.Maps Go.BigFrame

set_option maxRecDepth 100000 in
set_option maxHeartbeats 1600000 in
theorem refTerm_any (sv v : Value) (sig : List Sy) (t : List Int) (w : World) (hs : Sg w sv sig) (h : Is w v t) (ha : ArOk sig) (hb : t.length * 8 ≤ 140737488351232) :
    Calls Tryz.prog 71 #[sv, v] w fun e w' => e = .returned (.int .i64 (rowE sig t)) ∧ w' = w := by
  obtain ⟨so, sc, rfl, hso, hsc, _⟩ := Row.flat hs
  obtain ⟨ao, cap, rfl, hao, hca, q0⟩ := Row.flat h
  unfold maxLen at hca hsc
  have HS := hid hs
  have HT := hid h
  have HA := hid ha
  clear hs h q0 ha
  go_enter Tryz.func71, Tryz.ntmps71
  go_wp2
  go_loopw [5, 6] (fun x i wr => ∃ (k : Nat) (m : Int), k ≤ t.length ∧ x = .int .i64 m ∧ i = .int .i64 k ∧ ((0 < m ∧ firstT sig 1 0 t = firstT sig m k (t.drop k)) ∨ (m = 0 ∧ rowE sig t = 0)) ∧ m ≤ 1 + 1000 * (k : Int) ∧ wr = w) (fun _ i _ => t.length + 1 - (intOf i).toNat)
  case atStart => exact ⟨0, 1, Nat.zero_le _, rfl, rfl, .inl ⟨by omega, rfl⟩, by omega, rfl⟩
  case round =>
    obtain ⟨k, m, hk, rfl, rfl, hft, hm2, hw⟩ := hrel
    have hw8 := hw.symm
    subst hw8
    clear hw
    rcases hft with ⟨hm0, hft⟩ | ⟨rfl, hft⟩
    · have HF := hid hft
      clear hft
      by_cases hlt : k < t.length
      · have hne : ((k : Int) == (t.length : Int)) = false := by rw [beq_eq_false_iff_ne]; omega
        obtain ⟨g, off, c, rfl, hx1, hx2, hx3, hx4⟩ := HT.out.at hlt
        have HD : Hid (t.drop k = c :: t.drop (k + 1)) := drop_get hx1
        clear hx1
        by_cases hbad : (sig.length : Int) ≤ c ∨ c < -1048576
        · have HR : Hid (rowE sig t = 30) := by show _ = _; unfold rowE; rw [HF.out, HD.out, firstT, codeD_none hbad]; rfl
          rcases hbad with hbad | hbad
          · go_wp2
            go_ret
            exact ⟨ret1i HR.out.symm, rfl⟩
          · by_cases hbad2 : (sig.length : Int) ≤ c
            · omega
            · go_wp2
              go_ret
              exact ⟨ret1i HR.out.symm, rfl⟩
        · have hb1 : ¬ (sig.length : Int) ≤ c := fun h => hbad (.inl h)
          have hb2 : ¬ c < -1048576 := fun h => hbad (.inr h)
          clear hbad
          by_cases hc0 : c < 0
          · have hcd : codeD sig c = some (-1) := codeD_var (by omega) hc0
            have hcn : ¬ 0 ≤ c := by omega
            have hwm : IntKind.i64.wrap (m - 1) = m - 1 := IntWalk.i64_in _ ⟨by omega, by omega⟩
            by_cases hz : m - 1 = 0
            · have hzb : (m - 1 == 0) = true := by rw [beq_iff_eq]; exact hz
              have HR : Hid (rowE sig t = if (k : Int) + 1 < (t.length : Int) then 32 else 0) := by
                have h9 : firstT sig 1 0 t = ((k : Int) + 1, 0) := by
                  rw [HF.out, HD.out, firstT, hcd]
                  simp only
                  rw [if_pos (by omega)]
                show _ = _
                unfold rowE
                rw [h9]
                simp
              clear hcd
              by_cases hmore : k + 1 < t.length
              · have HR2 : Hid (rowE sig t = 32) := by show _ = _; rw [HR.out, if_pos (by omega)]
                go_wp2
                go_ret
                exact ⟨ret1i HR2.out.symm, rfl⟩
              · have HR2 : Hid (rowE sig t = 0) := by show _ = _; rw [HR.out, if_neg (by omega)]
                go_wp2
                go_roundw
                case rel => exact ⟨k + 1, 0, by omega, rfl, by go_num, .inr ⟨rfl, HR2.out⟩, by omega, trivial⟩
                case measure => simp [intOf]; omega
            · have hzb : (m - 1 == 0) = false := by rw [beq_eq_false_iff_ne]; exact hz
              have HN : Hid (firstT sig 1 0 t = firstT sig (m - 1) (k + 1) (t.drop (k + 1))) := by show _ = _; rw [HF.out, HD.out, firstT, hcd]; simp only; rw [if_neg (by omega)]; rfl
              clear hcd
              go_wp2
              go_roundw
              case rel => exact ⟨k + 1, m - 1, by omega, rfl, by go_num, .inl ⟨by omega, HN.out⟩, by omega, trivial⟩
              case measure => simp [intOf]; omega
          · obtain ⟨cn, rfl⟩ : ∃ cn : Nat, c = cn := ⟨c.toNat, by omega⟩
            have hcn : (0 : Int) ≤ (cn : Int) := by omega
            obtain ⟨g2, off2, nm, ar, rfl, hs1, hs2, hs3, hs4, hs5, hs6⟩ := HS.out.at (k := cn) (by omega)
            have har := HA.out _ (List.mem_of_getElem? hs1)
            simp only at har
            have hcd : codeD sig (cn : Int) = some (ar - 1) := codeD_sym hs1
            have hwm1 : IntKind.i64.wrap (m - 1) = m - 1 := IntWalk.i64_in _ ⟨by omega, by omega⟩
            have hwm : IntKind.i64.wrap (m - 1 + ar) = m - 1 + ar := IntWalk.i64_in _ ⟨by omega, by omega⟩
            have hcl : cn < sig.length := by omega
            clear hs1
            by_cases hz : m - 1 + ar = 0
            · have hzb : (m - 1 + ar == 0) = true := by rw [beq_iff_eq]; exact hz
              have HR : Hid (rowE sig t = if (k : Int) + 1 < (t.length : Int) then 32 else 0) := by
                have h9 : firstT sig 1 0 t = ((k : Int) + 1, 0) := by
                  rw [HF.out, HD.out, firstT, hcd]
                  simp only
                  rw [if_pos (by omega)]
                show _ = _
                unfold rowE
                rw [h9]
                simp
              clear hcd
              by_cases hmore : k + 1 < t.length
              · have HR2 : Hid (rowE sig t = 32) := by show _ = _; rw [HR.out, if_pos (by omega)]
                go_wp2
                go_ret
                exact ⟨ret1i HR2.out.symm, rfl⟩
              · have HR2 : Hid (rowE sig t = 0) := by show _ = _; rw [HR.out, if_neg (by omega)]
                go_wp2
                go_roundw
                case rel => exact ⟨k + 1, 0, by omega, rfl, by go_num, .inr ⟨rfl, HR2.out⟩, by omega, trivial⟩
                case measure => simp [intOf]; omega
            · have hzb : (m - 1 + ar == 0) = false := by rw [beq_eq_false_iff_ne]; exact hz
              have HN : Hid (firstT sig 1 0 t = firstT sig (m - 1 + ar) (k + 1) (t.drop (k + 1))) := by
                show _ = _
                rw [HF.out, HD.out, firstT, hcd]
                simp only
                rw [if_neg (by omega), show m + (ar - 1) = m - 1 + ar by omega]
              clear hcd
              go_wp2
              go_roundw
              case rel => exact ⟨k + 1, m - 1 + ar, by omega, rfl, by go_num, .inl ⟨by omega, HN.out⟩, by omega, trivial⟩
              case measure => simp [intOf]; omega
      · have heq : ((k : Int) == (t.length : Int)) = true := by rw [beq_iff_eq]; omega
        have HR : Hid (rowE sig t = 31) := by show _ = _; unfold rowE; rw [HF.out, List.drop_of_length_le (by omega)]; rfl
        go_wp2
        go_ret
        exact ⟨ret1i HR.out.symm, rfl⟩
    · have HR := hid hft
      clear hft
      go_wp2
      go_ret
      exact ⟨ret1i HR.out.symm, rfl⟩

set_option maxRecDepth 100000 in
set_option maxHeartbeats 800000 in
theorem refCheck_any (sv v : Value) (sig : List Sy) (t : List Int) (w : World) (hs : Sg w sv sig) (h : Is w v t) (hb : t.length * 8 ≤ 140737488351232) :
    Calls Tryz.prog 47 #[sv, v] w fun e w' => e = .returned (.int .i64 (termE sig t)) ∧ Below w.heap.size w w' := by
  have HS := hid hs
  have HI := hid h
  clear hs h
  go_enter Tryz.func47, Tryz.ntmps47
  go_wp2_with fail
  refine (refCheckSig_any sv sig w HS.out).mono ?_
  rintro e w1 ⟨rfl, hb1⟩
  have HB := hid hb1
  have HS1 := hid (HS.out.kp (Kp.of_below hb1))
  have HI1 := hid (HI.out.kp (Kp.of_below hb1))
  clear hb1
  by_cases he : sigE sig = 0
  · have HA := hid (sigE_ok he)
    have HF : Hid (termE sig t = rowE sig t) := by show _ = _; unfold termE; rw [if_pos he]
    rw [he]
    clear he
    go_wp2_with fail
    refine (refTerm_any sv v sig t w1 HS1.out HI1.out HA.out hb).mono ?_
    rintro e w9 ⟨rfl, hw9⟩
    have hw8 := hw9.symm
    subst hw8
    clear hw9
    go_wp2
    go_ret
    exact ⟨ret1i HF.out.symm, HB.out⟩
  · have HF : Hid (termE sig t = sigE sig) := by show _ = _; unfold termE; rw [if_neg he]
    generalize sigE sig = E at he HF ⊢
    have heb : (E != 0) = true := by simpa using he
    go_wp2
    go_ret
    exact ⟨ret1i HF.out.symm, HB.out⟩

end Go.Proofs.YtoapgbaibpkckaaGreatDoor

/- What Shift, and the document's Shift, answer. -/
namespace Go.Proofs.YtoapgbaibpkckaaGreatDoor
open Go.RowKit Go.Maps

def okShift (d : Int) (t : List Int) : Bool := t.all fun c => !decide (c < 0) || isVarB (-1 - c + d)
def shiftE (d : Int) (t : List Int) : Int := if okShift d t = true then 0 else 40
def shiftL (d : Int) (t : List Int) : List Int := if okShift d t = true then t.map (fun c => if c < 0 then c - d else c) else []

theorem mem_metA : ∀ {t m : List Int} {c : Int}, c ∈ metA m t ↔ c ∈ m ∨ (c ∈ t ∧ c < 0)
  | [], m, c => by simp [metA]
  | a :: t, m, c => by
    unfold metA
    split
    · rename_i h
      rw [mem_metA]
      constructor
      · rintro (h1 | ⟨h1, h2⟩)
        · exact .inl h1
        · exact .inr ⟨List.mem_cons_of_mem _ h1, h2⟩
      · rintro (h1 | ⟨h1, h2⟩)
        · exact .inl h1
        · rcases List.mem_cons.1 h1 with rfl | h1
          · rcases h with h | h
            · omega
            · exact .inl h
          · exact .inr ⟨h1, h2⟩
    · rename_i h
      rw [mem_metA]
      constructor
      · rintro (h1 | ⟨h1, h2⟩)
        · rcases List.mem_append.1 h1 with h1 | h1
          · exact .inl h1
          · simp at h1
            subst h1
            exact .inr ⟨by simp, by have := fun hh => h (.inl hh); omega⟩
        · exact .inr ⟨List.mem_cons_of_mem _ h1, h2⟩
      · rintro (h1 | ⟨h1, h2⟩)
        · exact .inl (List.mem_append.2 (.inl h1))
        · rcases List.mem_cons.1 h1 with rfl | h1
          · exact .inl (by simp)
          · exact .inr ⟨h1, h2⟩

theorem mem_varsL {t : List Int} {x : Int} : x ∈ varsL t ↔ ∃ c ∈ t, c < 0 ∧ x = -1 - c := by
  unfold varsL
  rw [List.mem_map]
  constructor
  · rintro ⟨c, hc, rfl⟩
    rcases mem_metA.1 hc with h | ⟨h, h2⟩
    · cases h
    · exact ⟨c, h, h2, rfl⟩
  · rintro ⟨c, hc, h2, rfl⟩
    exact ⟨c, mem_metA.2 (.inr ⟨hc, h2⟩), rfl⟩

theorem okShift_vars {d : Int} {t : List Int} : okShift d t = true ↔ ∀ x ∈ varsL t, isVarB (x + d) = true := by
  unfold okShift
  rw [List.all_eq_true]
  constructor
  · intro h x hx
    obtain ⟨c, hc, h2, rfl⟩ := mem_varsL.1 hx
    have := h c hc
    rw [decide_eq_true h2] at this
    simpa using this
  · intro h c hc
    by_cases h2 : c < 0
    · rw [decide_eq_true h2, h _ (mem_varsL.2 ⟨c, hc, h2, rfl⟩)]
      rfl
    · rw [decide_eq_false h2]
      rfl

theorem isVarB_iff {n : Int} : isVarB n = true ↔ 0 ≤ n ∧ n < 1048576 := by
  unfold isVarB
  rw [Bool.and_eq_true, decide_eq_true_eq, decide_eq_true_eq]

theorem isVar_wrap {x d : Int} (h1 : 0 ≤ x) (h2 : x ≤ 9223372036854775807) (h3 : -9223372036854775808 ≤ d) (h4 : d ≤ 9223372036854775807) : isVarB (wrap64 (x + d)) = isVarB (x + d) := by
  by_cases h : x + d ≤ 9223372036854775807
  · rw [IntWalk.wrap64_in _ ⟨by omega, h⟩]
  · have e : wrap64 (x + d) = x + d - 18446744073709551616 := by unfold wrap64; omega
    rw [e]
    have a : isVarB (x + d - 18446744073709551616) = false := by rw [Bool.eq_false_iff]; intro hh; have := isVarB_iff.1 hh; omega
    have b : isVarB (x + d) = false := by rw [Bool.eq_false_iff]; intro hh; have := isVarB_iff.1 hh; omega
    rw [a, b]

theorem renG_shift (d : Int) : ∀ t : List Int, (renG (fun (_ : Unit) n => (n + d, ())) () t).1 = t.map fun c => if c < 0 then c - d else c
  | [] => rfl
  | c :: t => by
    unfold renG
    by_cases h : c < 0
    · rw [if_pos h, List.map_cons, if_pos h, renG_shift d t]
      show (-1 - (-1 - c + d)) :: _ = _
      rw [show -1 - (-1 - c + d) = c - d by omega]
    · rw [if_neg h, List.map_cons, if_neg h, renG_shift d t]

theorem shiftFn_any (n d : Int) (g : Nat) (w : World) (h : w.cell? ⟨g, 0, none⟩ = some (.int .i64 d)) (hn : -9223372036854775808 ≤ n + d ∧ n + d ≤ 9223372036854775807) :
    Calls Tryz.prog 95 #[.int .i64 n, .pointer (some ⟨g, 0, none⟩)] w fun e w' => e = .returned (.int .i64 (n + d)) ∧ w' = w := by
  have hw : IntKind.i64.wrap (n + d) = n + d := IntWalk.i64_in _ hn
  go_enter Tryz.func95, Tryz.ntmps95
  go_wp2
  go_ret
  exact ⟨rfl, rfl⟩

theorem enterShift : ∀ args w, (callFunc 95 args).run Tryz.prog w = .ok (.enter 95 args) w := enters_of Tryz.func95 (by kernel_rfl) rfl

set_option maxRecDepth 100000 in
set_option maxHeartbeats 1600000 in
theorem shift_any (v : Value) (t : List Int) (d : Int) (w : World) (h : Is w v t) (hb : t.length * 8 ≤ 140737488351232) (hd1 : -9223372036854775808 ≤ d) (hd2 : d ≤ 9223372036854775807) :
    Calls Tryz.prog 67 #[v, .int .i64 d] w fun e w' => ∃ v', e = .returned (.tuple #[v', .int .i64 (shiftE d t)]) ∧ OwI w' w.heap.size v' (shiftL d t) ∧ Below w.heap.size w w' := by
  obtain ⟨ao, cap, rfl, hao, hca, q0⟩ := Row.flat h
  unfold maxLen at hca
  have HT : Hid (Is w (.slice ao t.length cap) t) := h
  have HZt : Hid (ZI t) := h.range
  clear h q0
  go_enter Tryz.func67, Tryz.ntmps67
  go_wp2_with fail
  refine (vars_any _ t _ (HT.out.kp (Kp.of_below (below_alloc _))) hb).mono ?_
  rintro e w1 ⟨v1, rfl, ho1, hb1⟩
  obtain ⟨bo, cap', rfl, hbo, hcb⟩ := ho1.shape
  unfold maxLen at hcb
  have hx0 : w1.cell? ⟨w.heap.size, 0, none⟩ = some (.int .i64 d) := (Kp.of_below hb1).cell _ _ (by rw [cell_of_row _ _ _ _ _ _ (heap_alloc_new _ _)]; rfl)
  have hszb : w.heap.size < w1.heap.size := Nat.lt_of_lt_of_le (by simp) hb1.size
  have HO : Hid (Is w1 (.slice bo (varsL t).length cap') (varsL t)) := ho1.is
  have HX0 : Hid (w1.cell? ⟨w.heap.size, 0, none⟩ = some (.int .i64 d)) := hx0
  have HB1 : Hid (Below w.heap.size w w1) := below_step (below_alloc _) hb1
  clear ho1 hb1
  go_wp2
  go_loopw [11] (fun i wr => ∃ k : Nat, k ≤ (varsL t).length ∧ i = .int .i64 k ∧ (∀ (j : Nat) (x : Int), j < k → (varsL t)[j]? = some x → isVarB (x + d) = true) ∧ wr = w1) (fun i _ => (varsL t).length - (intOf i).toNat)
  case atStart => exact ⟨0, Nat.zero_le _, rfl, fun j x hj => absurd hj (by omega), rfl⟩
  case round =>
    obtain ⟨k, hk, rfl, hall, hw1⟩ := hrel
    have hw8 := hw1.symm
    subst hw8
    have HAll : Hid (∀ (j : Nat) (x : Int), j < k → (varsL t)[j]? = some x → isVarB (x + d) = true) := hall
    clear hall hw1
    by_cases hlt : k < (varsL t).length
    · obtain ⟨g, off, x, rfl, hx1, hx2, hx3, hx4⟩ := HO.out.at hlt
      have HX : Hid ((varsL t)[k]? = some x) := hx1
      have hx0' : 0 ≤ x := by
        obtain ⟨c, _, h2, rfl⟩ := mem_varsL.1 (List.mem_of_getElem? hx1)
        omega
      have hwr := isVar_wrap hx0' hx4 hd1 hd2
      clear hx1
      cases hv : isVarB (x + d)
      · have HF : Hid (shiftE d t = 40 ∧ shiftL d t = []) := by
          have : ¬ okShift d t = true := fun hh => by
            have := okShift_vars.1 hh x (List.mem_of_getElem? HX.out)
            rw [hv] at this
            cases this
          unfold shiftE shiftL
          rw [if_neg this, if_neg this]
          exact ⟨rfl, rfl⟩
        rw [hv] at hwr
        go_wp2_with fail
        refine (isVariable_any _ _).mono ?_
        rw [hwr]
        rintro e w9 ⟨rfl, hw9⟩
        have hw8 := hw9.symm
        subst hw8
        clear hw9 hwr
        go_wp2
        go_ret2
        exact ⟨_, ret2i HF.out.1.symm, by rw [HF.out.2]; exact ⟨fun k x hk => (by simp at hk), World.ownsRow_nil _ _ _ _⟩, HB1.out⟩
      · rw [hv] at hwr
        have HVx : Hid (isVarB (x + d) = true) := hv
        go_wp2_with fail
        refine (isVariable_any _ _).mono ?_
        rw [hwr]
        rintro e w9 ⟨rfl, hw9⟩
        have hw8 := hw9.symm
        subst hw8
        clear hw9 hwr hv
        go_wp2
        go_roundw
        case rel =>
          refine ⟨k + 1, by omega, by go_num, fun j y hj hy => ?_, trivial⟩
          by_cases hjk : j = k
          · subst hjk; rw [HX.out] at hy; cases hy; exact HVx.out
          · exact HAll.out j y (by omega) hy
        case measure => simp [intOf]; omega
    · have HOk : Hid (okShift d t = true) := by
        refine okShift_vars.2 fun x hx => ?_
        obtain ⟨j, hj⟩ := List.mem_iff_getElem?.1 hx
        exact HAll.out j x (by have := (List.getElem?_eq_some_iff.1 hj).1; omega) hj
      go_wp2_with fail
      obtain ⟨gb, hgb⟩ : ∃ gb, gb = w.heap.size := ⟨_, rfl⟩
      rw [← hgb] at hszb HX0 ⊢
      refine (renumber_any (σ := Unit) (fun w _ => w.cell? ⟨gb, 0, none⟩ = some (.int .i64 d)) (fun _ n => (n + d, ())) (fun n => isVarB (n + d) = true) gb 95 (.pointer (some ⟨gb, 0, none⟩)) (.slice ao t.length cap) t () _ (fun _ => 0) (fun _ _ => by omega) hszb HX0.out hb ?_ ?_ ?_ ?_ ?_ enterShift).mono ?_
      · intro a b _ r ha hg hr _ hlt
        rw [World.cell?_of_block (hg.block gb hlt (fun e => hr e.symm))]
        exact ha
      · intro w' hg
        refine HT.out.kp ⟨Nat.le_trans HB1.out.size hg.size, fun a v hv => ?_⟩
        have hlt := World.block_lt_of_cell? w a hv
        rw [World.cell?_of_block (hg.block a.block (Nat.lt_of_lt_of_le hlt HB1.out.size) (by simp; omega))]
        exact (Kp.of_below HB1.out).cell _ _ hv
      · intro n _ a hn ha _
        have := isVarB_iff.1 hn
        exact (shiftFn_any n d gb a ha ⟨by omega, by omega⟩).mono (fun e w2 ⟨he, hw⟩ => ⟨he, by rw [hw]; exact ha, by rw [hw]; exact World.grownBy.refl _ _⟩)
      · intro _ n _ hn _ _
        have := isVarB_iff.1 hn
        simp only
        omega
      · intro c hc h0
        exact okShift_vars.1 HOk.out _ (mem_varsL.2 ⟨c, hc, h0, rfl⟩)
      · rintro e w2 ⟨v2, rfl, ho2, _, hg2⟩
        have HF : Hid (shiftE d t = 0 ∧ shiftL d t = t.map fun c => if c < 0 then c - d else c) := by
          unfold shiftE shiftL
          rw [if_pos HOk.out, if_pos HOk.out]
          exact ⟨rfl, rfl⟩
        rw [renG_shift] at ho2
        have HO2 : Hid (OwI w2 w.heap.size v2 (shiftL d t)) := by
          show OwI _ _ _ _
          rw [HF.out.2]
          exact ho2.mono HB1.out.size
        have HB2 : Hid (Below w.heap.size w w2) := HB1.out.grown hg2 HB1.out.size (fun j hj => by cases hj; omega)
        clear ho2 hg2 hgb
        go_wp2
        go_ret2
        exact ⟨_, ret2i HF.out.1.symm, HO2.out, HB2.out⟩

end Go.Proofs.YtoapgbaibpkckaaGreatDoor

/- What Canon answers. -/
namespace Go.Proofs.YtoapgbaibpkckaaGreatDoor
open Go.RowKit Go.Maps

theorem under_numbers : Tryz.prog.underlying 141 = some (.map 3 3) := by kernel_rfl
theorem zero_int (w : World) : (zeroValue 3).run Tryz.prog w = .ok (.int .i64 0) w := by kernel_rfl

/-- The numbers met, the last one first, with what they became. -/
abbrev Met := List (Int × Int)
def metV (m : Met) : List (Int × Value) := m.map fun p => (p.1, .int .i64 p.2)
def numN (m : Met) (n : Int) : Int × Met := match m.lookup n with | some i => (i, m) | none => ((m.length : Int), (n, (m.length : Int)) :: m)

theorem metV_lookup (n : Int) : ∀ m : Met, (metV m).lookup n = (m.lookup n).map (Value.int .i64)
  | [] => rfl
  | (k, i) :: m => by
    show List.lookup n ((k, _) :: metV m) = _
    rw [List.lookup_cons, List.lookup_cons]
    cases n == k with
    | true => rfl
    | false => exact metV_lookup n m

set_option maxRecDepth 100000 in
set_option maxHeartbeats 800000 in
theorem number_closure (n : Int) (b bx : Nat) (m : Met) (w : World) (hc : w.cell? ⟨bx, 0, none⟩ = some (.map (some b))) (hm : MapV w b (metV m)) (hl : m.length < 9223372036854775806) (h1 : -9223372036854775808 ≤ n) (h2 : n ≤ 9223372036854775807) :
    Calls Tryz.prog 118 #[.int .i64 n, .pointer (some ⟨bx, 0, none⟩)] w fun e w' => e = .returned (.int .i64 (numN m n).1) ∧ w'.cell? ⟨bx, 0, none⟩ = some (.map (some b)) ∧ MapV w' b (metV (numN m n).2) ∧ w.grownBy w' (some b) := by
  have hlk := hm.look under_numbers (zero_int w) h1 h2
  rw [metV_lookup] at hlk
  have HM := hid hm
  have HCx := hid hc
  clear hm
  cases hn : m.lookup n with
  | some i =>
    have HN : Hid (numN m n = (i, m)) := by show _ = _; unfold numN; rw [hn]
    rw [hn] at hlk
    have HL : Hid ((Instr.lookup 141 (.map (some b)) (.int .i64 n) true).run Tryz.prog w = .ok (.tuple #[.int .i64 i, .bool true]) w) := hlk
    clear hlk hn
    go_enter Tryz.func118, Tryz.ntmps118
    go_wp2_with (first
      | (at_lookup; refine wpList_lookup_run rfl _ _ _ _ rfl _ _ _ rfl rfl HL.out ?_))
    go_ret
    exact ⟨by rw [HN.out]; rfl, HCx.out, by rw [HN.out]; exact HM.out, World.grownBy.refl _ _⟩
  | none =>
    have HN : Hid (numN m n = ((m.length : Int), (n, (m.length : Int)) :: m)) := by show _ = _; unfold numN; rw [hn]
    have hnone : (metV m).lookup n = none := by rw [metV_lookup, hn]; rfl
    rw [hn] at hlk
    have HL : Hid ((Instr.lookup 141 (.map (some b)) (.int .i64 n) true).run Tryz.prog w = .ok (.tuple #[.int .i64 0, .bool false]) w) := hlk
    have hml : (metV m).length = m.length := by simp [metV]
    have hlen := HM.out.len under_numbers 3
    rw [hml] at hlen
    obtain ⟨w4, hr4, hm4, hg4⟩ := HM.out.store under_numbers h1 h2 hnone (by rw [hml]; unfold maxLen; omega) (.int .i64 (m.length : Int))
    obtain ⟨es, ck, hes⟩ := HM.out.isMap
    have HR4 := hid hr4
    have HM4 : Hid (MapV w4 b (metV ((n, (m.length : Int)) :: m))) := hm4
    have HC4 : Hid (w4.cell? ⟨bx, 0, none⟩ = some (.map (some b))) := (Kp.of_map hg4 hes).cell _ _ hc
    have HG4 := hid hg4
    clear hlk hn hnone hr4 hm4 hg4 hes
    go_enter Tryz.func118, Tryz.ntmps118
    go_wp2_with (first
      | (at_lookup; refine wpList_lookup_run rfl _ _ _ _ rfl _ _ _ rfl rfl HL.out ?_)
      | (at_mapUpdate; refine wpList_mapUpdate_run rfl _ _ _ _ rfl _ _ _ rfl rfl rfl HR4.out ?_))
    go_ret
    exact ⟨by rw [HN.out]; rfl, HC4.out, by rw [HN.out]; exact HM4.out, HG4.out⟩

end Go.Proofs.YtoapgbaibpkckaaGreatDoor

/- What Canon answers. -/
namespace Go.Proofs.YtoapgbaibpkckaaGreatDoor
open Go.RowKit Go.Maps

theorem numbersAsMet_any (w : World) : Calls Tryz.prog 96 #[] w fun e w' => ∃ b bx, e = .returned (.func (.func 118) #[] #[.pointer (some ⟨bx, 0, none⟩)]) ∧ w'.cell? ⟨bx, 0, none⟩ = some (.map (some b)) ∧ MapV w' b [] ∧ w.heap.size ≤ b ∧ w.heap.size ≤ bx ∧ b ≠ bx ∧ Below w.heap.size w w' := by
  have hmm := @run_makeMap Tryz.prog
  go_enter Tryz.func96, Tryz.ntmps96
  go_wp2
  go_ret
  refine ⟨w.heap.size, w.heap.size + 1, rfl, by simp, (MapV.made w).later (below_alloc _), Nat.le_refl _, by omega, by omega, below_step (below_alloc _) (below_alloc _)⟩

def ER (w : World) (g o : Nat) (x : List Int) : Prop := x.length * 8 ≤ 140737488351232 ∧ ∃ u, w.cell? ⟨g, o, none⟩ = some u ∧ Is w u x
theorem ER.kp {w w' : World} (hk : Kp w w') (g o : Nat) (x : List Int) (h : ER w g o x) : ER w' g o x := by
  obtain ⟨h0, u, h1, h2⟩ := h
  exact ⟨h0, u, hk.cell _ _ h1, h2.kp hk⟩

/-- A list of rows. -/
def Rs (w : World) (v : Value) (l : List (List Int)) : Prop := Row ER 1 w v l
theorem Rs.kp {w w' : World} {v : Value} {l : List (List Int)} (h : Rs w v l) (hk : Kp w w') : Rs w' v l := Row.imp h hk.size (ER.kp hk)

theorem Rs.at {w : World} {ao : Option Addr} {n cap : Nat} {l : List (List Int)} (h : Rs w (.slice ao n cap) l) {k : Nat} (hk : k < l.length) :
    ∃ g off a t c, ao = some ⟨g, off, none⟩ ∧ l[k]? = some t ∧ w.cell? ⟨g, off + k, none⟩ = some (.slice a t.length c) ∧ Is w (.slice a t.length c) t ∧ t.length * 8 ≤ 140737488351232 := by
  obtain ⟨ao', cap', hv, _, _, hx⟩ := Row.flat h
  simp only [Value.slice.injEq] at hv
  obtain ⟨rfl, rfl, rfl⟩ := hv
  obtain ⟨g, off, t, rfl, hm, h3, v, h5, h6⟩ := hx k hk
  obtain ⟨a, c, rfl, _⟩ := Row.flat h6
  rw [Nat.mul_one] at h5
  exact ⟨g, off, a, t, c, rfl, hm, h5, h6, h3⟩

def canG : Met → List (List Int) → List (List Int)
  | _, [] => []
  | m, t :: l => (renG numN m t).1 :: canG (renG numN m t).2 l

def canL (l : List (List Int)) : List (List Int) := canG [] l

/-- Rows of one's own, by their values. -/
def OwR (w : World) (base : Nat) (vs : List Value) (l : List (List Int)) : Prop := vs.length = l.length ∧ ∀ (j : Nat) (u : Value) (x : List Int), vs[j]? = some u → l[j]? = some x → OwI w base u x

def NumOk (b bx : Nat) (w : World) (m : Met) : Prop := w.cell? ⟨bx, 0, none⟩ = some (.map (some b)) ∧ MapV w b (metV m) ∧ ∀ p ∈ m, 0 ≤ p.2 ∧ p.2 < (m.length : Int)

theorem numN_len (m : Met) (n : Int) : (numN m n).2.length ≤ m.length + 1 := by
  unfold numN
  split <;> simp

theorem numN_in {m : Met} {n : Int} (h : ∀ p ∈ m, 0 ≤ p.2 ∧ p.2 < (m.length : Int)) : (0 ≤ (numN m n).1 ∧ (numN m n).1 ≤ (m.length : Int)) ∧ ∀ p ∈ (numN m n).2, 0 ≤ p.2 ∧ p.2 < ((numN m n).2.length : Int) := by
  unfold numN
  split
  · rename_i i hi
    have := h _ (lookup_mem hi)
    exact ⟨by simp only at this ⊢; omega, h⟩
  · refine ⟨by simp only; omega, fun p hp => ?_⟩
    simp only [List.length_cons]
    cases hp with
    | head => simp only; omega
    | tail _ hp => have := h p hp; omega

theorem renumber_canon (b bx : Nat) (v : Value) (t : List Int) (m : Met) (w : World) (hb : b < w.heap.size) (hbx : bx < w.heap.size) (_hne : b ≠ bx) (hst : NumOk b bx w m) (h : Is w v t) (hlen : t.length * 8 ≤ 140737488351232) (hm : m.length ≤ 4611686018427387904) :
    Calls Tryz.prog 94 #[v, .func (.func 118) #[] #[.pointer (some ⟨bx, 0, none⟩)]] w fun e w' => ∃ v', e = .returned v' ∧ OwI w' w.heap.size v' (renG numN m t).1 ∧ NumOk b bx w' (renG numN m t).2 ∧ w.grownBy w' (some b) := by
  refine renumber_any (σ := Met) (NumOk b bx) numN (fun n => 0 ≤ n ∧ n ≤ 9223372036854775807) b 118 (.pointer (some ⟨bx, 0, none⟩)) v t m w List.length numN_len hb hst hlen ?_ ?_ ?_ ?_ ?_ (enters_of Tryz.func118 (by kernel_rfl) rfl)
  · rintro w1 w2 s r ⟨h1, h2, h3⟩ hg hr hj _
    refine ⟨?_, h2.kept hg hr, h3⟩
    have hx : some bx ≠ r := fun e => by
      have := hj bx e.symm
      omega
    rw [World.cell?_of_block (hg.block bx (World.block_lt_of_cell? _ _ h1) hx)]
    exact h1
  · intro w' hg
    obtain ⟨es, ck, hes⟩ := hst.2.1.isMap
    exact h.kp (Kp.of_map hg hes)
  · rintro n s w1 ⟨hn1, hn2⟩ ⟨h1, h2, h3⟩ hs
    refine (number_closure n b bx s w1 h1 h2 (by omega) (by omega) hn2).mono ?_
    rintro e w2 ⟨rfl, k1, k2, k3⟩
    exact ⟨rfl, ⟨k1, k2, (numN_in h3).2⟩, k3⟩
  · rintro s n w1 _ ⟨h1, h2, h3⟩ hs
    have := (numN_in (n := n) h3).1
    omega
  · intro c hc h0
    have hz : -9223372036854775808 ≤ c := by
      obtain ⟨ao, cap, rfl, _, _, hx⟩ := Row.flat h
      obtain ⟨k, hk, rfl⟩ := List.getElem_of_mem hc
      obtain ⟨_, _, y, _, hy, h1, _⟩ := hx k hk
      rw [List.getElem?_eq_getElem hk] at hy
      cases hy
      exact h1
    omega

theorem info_ints : (Tryz.prog.info? 36).map (fun i => (i.zero, i.size, i.bytes)) = some (some (.slice none 0 0), 1, 24) := by kernel_rfl
theorem under_rows : Tryz.prog.underlying 41 = some (.slice 36) := by kernel_rfl

theorem made_nilS (n : Nat) : (madeCells (Value.slice none 0 0).cells (n * 1)).toList = List.replicate n (.slice none 0 0) := by
  have : (Value.slice none 0 0).cells = #[Value.slice none 0 0] := rfl
  rw [this, toList_madeCells_one, Nat.mul_one]

theorem own_lt {w : World} {base g n c m : Nat} {e : TypeId} {s : Nat} {xs : List Value} (h : w.ownsRow base e s (.slice (some ⟨g, 0, none⟩) n c) m xs) : g < w.heap.size := by
  rcases h.2 with ⟨hv, _⟩ | ⟨g', cap, cur, hv, _, hg, _⟩
  · cases hv
  · cases hv
    exact (Array.getElem?_eq_some_iff.1 hg).1

theorem sum_take : ∀ (l : List (List Int)) (k : Nat), ((l.take k).map List.length).sum ≤ (l.map List.length).sum
  | [], k => by simp
  | a :: l, 0 => by simp
  | a :: l, k + 1 => by
    have := sum_take l k
    simp only [List.take_succ_cons, List.map_cons, List.sum_cons]
    omega

theorem renG_len : ∀ (t : List Int) (m : Met), (renG numN m t).2.length ≤ m.length + t.length
  | [], m => by simp [renG]
  | c :: t, m => by
    unfold renG
    split
    · have h1 := renG_len t (numN m (-1 - c)).2
      have h2 := numN_len m (-1 - c)
      simp only [List.length_cons]
      omega
    · have h1 := renG_len t m
      simp only [List.length_cons]
      omega

set_option maxRecDepth 100000 in
set_option maxHeartbeats 1600000 in
theorem canon_any (v : Value) (l : List (List Int)) (w : World) (h : Rs w v l) (hn : l.length * 24 ≤ 140737488351232) (hsum : (l.map List.length).sum ≤ 4611686018427387904) :
    Calls Tryz.prog 68 #[v] w fun e w' => ∃ v' vs, e = .returned v' ∧ w'.ownsRow w.heap.size 36 1 v' l.length vs ∧ OwR w' w.heap.size vs (canL l) ∧ Below w.heap.size w w' := by
  obtain ⟨i1, hi1, hy0, hy1, hy2⟩ := info_parts info_ints
  obtain ⟨ao, cap, rfl, hao, hca, q0⟩ := Row.flat h
  unfold maxLen at hca
  have HR := hid h
  clear h q0
  go_enter Tryz.func68, Tryz.ntmps68
  go_wp2_with fail
  refine (numbersAsMet_any w).mono ?_
  rintro e w1 ⟨b, bx, rfl, hbx, hmv, hb1, hb2, hb3, hbl⟩
  have HBx := hid hbx
  have HMv := hid hmv
  have HB1 := hid hbl
  clear hbx hmv hbl
  go_wp2_with (first
    | (at_make; refine wpList_make_full _ rfl _ _ 41 rfl w.heap.size 36 i1 (.slice none 0 0) 1 under_rows hi1 hy0 hy1 .i64 .i64 _ _ l.length rfl rfl (by omega) (by omega) (by rw [hy2]; omega) (by unfold maxLen; omega) HB1.out.size ?_; intro w0 hown0 hgrow0))
  have hbR : b < w1.heap.size := HMv.out.lt
  have hbxR : bx < w1.heap.size := World.block_lt_of_cell? _ _ HBx.out
  have hRw : w.heap.size ≤ w1.heap.size := HB1.out.size
  have hb0 : Below w1.heap.size w1 w0 := (Below.refl _ _).grown hgrow0 (Nat.le_refl _) (by intro k hk; cases hk)
  rw [made_nilS] at hown0
  have HO0 := hid hown0
  have HB0 : Hid (Below w.heap.size w w0) := below_step HB1.out hb0
  have HN0 : Hid (NumOk b bx w0 []) := ⟨(Kp.of_below hb0).cell _ _ HBx.out, HMv.out.later hb0, fun p hp => (by cases hp)⟩
  clear hown0 hgrow0 hb0
  obtain ⟨R, hR⟩ : ∃ R, R = w1.heap.size := ⟨_, rfl⟩
  rw [← hR] at hbR hbxR hRw HO0 ⊢
  clear hR HBx HMv
  go_loopw [13] (fun i wr => ∃ (k : Nat) (vs : List Value) (dn : List (List Int)) (m : Met), k ≤ l.length ∧ i = .int .i64 k ∧ dn.length = k ∧ canL l = dn ++ canG m (l.drop k) ∧ wr.ownsRow w.heap.size 36 1 (.slice (some ⟨R, 0, none⟩) l.length l.length) l.length (vs ++ List.replicate (l.length - k) (.slice none 0 0)) ∧ OwR wr w.heap.size vs dn ∧ NumOk b bx wr m ∧ m.length ≤ ((l.take k).map List.length).sum ∧ Below w.heap.size w wr) (fun i _ => l.length - (intOf i).toNat)
  case atStart => exact ⟨0, [], [], [], Nat.zero_le _, rfl, rfl, rfl, by simpa using HO0.out, ⟨rfl, fun j u x hj => (by simp at hj)⟩, HN0.out, by simp, HB0.out⟩
  case round =>
    obtain ⟨k, vs, dn, m, hk, rfl, hdn, hcan, how, howr, hnum, hml, hbl⟩ := hrel
    have HDn := hid hdn
    have HCan := hid hcan
    have HOw := hid how
    have HOwr := hid howr
    have HNum := hid hnum
    have HMl := hid hml
    have HB := hid hbl
    clear hdn hcan how howr hnum hml HO0 HB0 HN0
    by_cases hlt : k < l.length
    · obtain ⟨g, off, ra, t, rc, rfl, hm, hc0, hit, ht8⟩ := (HR.out.kp (Kp.of_below hbl)).at hlt
      have HIt := hid hit
      have hvl : vs.length = k := HOwr.out.1.trans HDn.out
      have hRlt : R < wr.heap.size := own_lt HOw.out
      have HSum : Hid (m.length ≤ 4611686018427387904 ∧ (m.length + t.length ≤ ((l.take (k + 1)).map List.length).sum)) := by
        have h1 := HMl.out
        have h2 := sum_take l k
        rw [List.take_add_one, hm]
        simp only [Option.toList, List.map_append, List.map_cons, List.map_nil, List.sum_append, List.sum_cons, List.sum_nil]
        exact ⟨by omega, by omega⟩
      have HDr : Hid (l.drop k = t :: l.drop (k + 1)) := drop_get hm
      clear hm hit
      go_wp2_with fail
      refine (renumber_canon b bx _ t m wr (by omega) (by omega) hb3 HNum.out HIt.out ht8 HSum.out.1).mono ?_
      rintro e w2 ⟨v', rfl, ho2, hn2, hg2⟩
      obtain ⟨es, ck, hes⟩ := HNum.out.2.1.isMap
      have hR2 : R ≠ b := by omega
      have ho : w2.ownsRow w.heap.size 36 1 (.slice (some ⟨R, 0, none⟩) l.length l.length) l.length (vs ++ List.replicate (l.length - k) (.slice none 0 0)) := HOw.out.kept hg2 (.inr (by simp [Value.ownBlock]; omega))
      have hc3 : w2.cell? ⟨R, k, none⟩ = some (.slice none 0 0) := by
        have := World.ownsRow.cellAt ho k (by omega)
        rw [this, List.getElem?_append_right (by omega), hvl, Nat.sub_self, List.getElem?_replicate, if_pos (by omega)]
      have hf3 : w2.frozen? ⟨R, k, none⟩ = false := World.ownsRow.frozenAt ho k
      have hst := (World.ownsRow.stored ho k v').1
      have hset : (vs ++ List.replicate (l.length - k) (Value.slice none 0 0)).set k v' = (vs ++ [v']) ++ List.replicate (l.length - (k + 1)) (Value.slice none 0 0) := by
        rw [show l.length - k = (l.length - (k + 1)) + 1 by omega, List.replicate_succ, set_midI _ _ _ _ _ hvl]
        simp
      rw [hset] at hst
      have HSt := hid hst
      have HOwr2 : Hid (OwR (w2.setCell ⟨R, k, none⟩ v') w.heap.size (vs ++ [v']) (dn ++ [(renG numN m t).1])) := by
        refine ⟨by rw [List.length_append, List.length_append, HOwr.out.1]; rfl, fun j u x hj hx => ?_⟩
        have hstep : ∀ {u x}, OwI w2 w.heap.size u x → OwI (w2.setCell ⟨R, k, none⟩ v') w.heap.size u x := fun {u x} hu => hu.kept (set_grown w2 R k v') (ownsRow_apart hu.2 ho (by decide))
        by_cases hjl : j < vs.length
        · rw [List.getElem?_append_left hjl] at hj
          rw [List.getElem?_append_left (by rw [← HOwr.out.1]; exact hjl)] at hx
          have hu := HOwr.out.2 j u x hj hx
          exact hstep (hu.kept hg2 (own_notMap hu.2 hes))
        · rw [List.getElem?_append_right (by omega)] at hj
          rw [List.getElem?_append_right (by rw [← HOwr.out.1]; omega), ← HOwr.out.1] at hx
          have hj0 : j - vs.length = 0 := by
            have := (List.getElem?_eq_some_iff.1 hj).1
            simp at this
            omega
          rw [hj0] at hj hx
          simp at hj hx
          subst hj
          subst hx
          exact hstep (ho2.mono HB.out.size)
      have HNum2 : Hid (NumOk b bx (w2.setCell ⟨R, k, none⟩ v') (renG numN m t).2) := by
        refine ⟨?_, hn2.2.1.kept (set_grown w2 R k v') (by simpa using hR2), hn2.2.2⟩
        have hx : some bx ≠ some R := by simp; omega
        rw [World.cell?_of_block ((set_grown w2 R k v').block bx (World.block_lt_of_cell? _ _ hn2.1) hx)]
        exact hn2.1
      have HB2 : Hid (Below w.heap.size w (w2.setCell ⟨R, k, none⟩ v')) := (HB.out.grown hg2 HB.out.size (fun j hj => by cases hj; exact hb1)).setCell (p := ⟨R, k, none⟩) hRw _
      have HMl2 : Hid ((renG numN m t).2.length ≤ ((l.take (k + 1)).map List.length).sum) := by
        have h1 := renG_len t m
        have h2 := HSum.out.2
        show _ ≤ _
        omega
      have HCan2 : Hid (canL l = (dn ++ [(renG numN m t).1]) ++ canG (renG numN m t).2 (l.drop (k + 1))) := by
        show _ = _
        rw [HCan.out, HDr.out, canG]
        simp
      obtain ⟨va, vc, rfl, _, _⟩ := ho2.shape
      clear ho2 hn2 hg2 hst hset hes ho
      go_wp2
      go_roundw
      case rel => exact ⟨k + 1, vs ++ [_], dn ++ [(renG numN m t).1], (renG numN m t).2, by omega, by go_num, by rw [List.length_append, HDn.out]; rfl, HCan2.out, HSt.out, HOwr2.out, HNum2.out, HMl2.out, HB2.out⟩
      case measure => simp [intOf]; omega
    · have hke : k = l.length := by omega
      have HF : Hid (canL l = dn) := by
        show _ = _
        rw [HCan.out, List.drop_of_length_le (by omega)]
        simp [canG]
      have HO : Hid (wr.ownsRow w.heap.size 36 1 (.slice (some ⟨R, 0, none⟩) l.length l.length) l.length vs) := by
        have := HOw.out
        rw [show l.length - k = 0 by omega, List.replicate_zero, List.append_nil] at this
        exact this
      go_wp2
      go_ret
      exact ⟨_, vs, rfl, HO.out, by rw [HF.out]; exact HOwr.out, HB.out⟩

end Go.Proofs.YtoapgbaibpkckaaGreatDoor

/- Literal rows in memory. -/
namespace Go.Proofs.YtoapgbaibpkckaaGreatDoor
open Go.RowKit Go.Maps Go.BigFrame

theorem is_new (w : World) (xs : List Int) (t : TypeId) (hz : ∀ x ∈ xs, -9223372036854775808 ≤ x ∧ x ≤ 9223372036854775807) (hl : xs.length ≤ 1000) : Is (w.alloc (.cells (xs.map I64).toArray t)) (.slice (some ⟨w.heap.size, 0, none⟩) xs.length xs.length) xs := by
  refine ⟨some ⟨w.heap.size, 0, none⟩, xs.length, rfl, Nat.le_refl _, by unfold maxLen; omega, fun _ => ⟨w.heap.size, 0, rfl, by simp, fun k x hk => ?_⟩⟩
  refine ⟨(hz x (List.mem_of_getElem? hk)).1, (hz x (List.mem_of_getElem? hk)).2, ?_⟩
  rw [Nat.mul_one, Nat.zero_add, cell_of_row _ _ _ _ _ _ (heap_alloc_new _ _)]
  simp [hk, I64]

/-- Binds one behind the other. -/
def EBs (w : World) (g : Nat) : Nat → List Bd → Prop
  | _, [] => True
  | o, b :: r => EB w g o b ∧ EBs w g (o + 2) r

theorem EBs.get {w : World} {g : Nat} : ∀ {p : List Bd} {o k : Nat} {m : Bd}, EBs w g o p → p[k]? = some m → EB w g (o + k * 2) m
  | [], _, _, _, _, h => by simp at h
  | x :: r, o, 0, m, h, hk => by
    simp at hk
    subst hk
    exact h.1
  | x :: r, o, k + 1, m, h, hk => by
    have := EBs.get h.2 (k := k) (by simpa using hk)
    rw [show o + (k + 1) * 2 = o + 2 + k * 2 by omega]
    exact this

def ESs (w : World) (g : Nat) : Nat → List Sy → Prop
  | _, [] => True
  | o, b :: r => ES w g o b ∧ ESs w g (o + 2) r

theorem ESs.get {w : World} {g : Nat} : ∀ {p : List Sy} {o k : Nat} {m : Sy}, ESs w g o p → p[k]? = some m → ES w g (o + k * 2) m
  | [], _, _, _, _, h => by simp at h
  | x :: r, o, 0, m, h, hk => by
    simp at hk
    subst hk
    exact h.1
  | x :: r, o, k + 1, m, h, hk => by
    have := ESs.get h.2 (k := k) (by simpa using hk)
    rw [show o + (k + 1) * 2 = o + 2 + k * 2 by omega]
    exact this

theorem sg_lit {w : World} {g : Nat} {p : List Sy} (hg : g < w.heap.size) (hl : p.length ≤ 9) (h : ESs w g 0 p) : Sg w (.slice (some ⟨g, 0, none⟩) p.length p.length) p := by
  refine ⟨_, p.length, rfl, Nat.le_refl _, by unfold maxLen; omega, fun _ => ⟨g, 0, rfl, hg, fun k m hk => ?_⟩⟩
  have := h.get hk
  rwa [Nat.zero_add] at this ⊢

theorem cell_new {w : World} {t : TypeId} {vs : Array Value} {k : Nat} {v : Value} (hv : vs[k]? = some v) : (w.alloc (.cells vs t)).cell? ⟨w.heap.size, k, none⟩ = some v := by
  rw [cell_of_row _ _ _ _ _ _ (heap_alloc_new _ _)]
  simpa using hv

theorem cell_old {w : World} {o : Obj} {g k : Nat} {v : Value} (h : w.cell? ⟨g, k, none⟩ = some v) : (w.alloc o).cell? ⟨g, k, none⟩ = some v := (Kp.of_below (below_alloc o)).cell _ _ h

def sumS : List Sy := [(⟨#[122, 101, 114, 111]⟩, 0), (⟨#[115]⟩, 1), (⟨#[112, 108, 117, 115]⟩, 2)]

end Go.Proofs.YtoapgbaibpkckaaGreatDoor

/- The calls of the examples. -/
namespace Go.Proofs.YtoapgbaibpkckaaGreatDoor
open Go.RowKit Go.Maps Go.BigFrame

theorem b0 {w : World} : Below w.heap.size w w := Below.refl _ _
theorem b1 {w w' : World} {o : Obj} (h : Below w.heap.size w w') : Below w.heap.size w (w'.alloc o) := below_step h (below_alloc o)

def EIs (w : World) (g : Nat) : Nat → List Int → Prop
  | _, [] => True
  | o, x :: r => EI w g o x ∧ EIs w g (o + 1) r

theorem EIs.get {w : World} {g : Nat} : ∀ {p : List Int} {o k : Nat} {m : Int}, EIs w g o p → p[k]? = some m → EI w g (o + k * 1) m
  | [], _, _, _, _, h => by simp at h
  | x :: r, o, 0, m, h, hk => by
    simp at hk
    subst hk
    exact h.1
  | x :: r, o, k + 1, m, h, hk => by
    have := EIs.get h.2 (k := k) (by simpa using hk)
    rw [show o + (k + 1) * 1 = o + 1 + k * 1 by omega]
    exact this

theorem is_lit {w : World} {g : Nat} {p : List Int} (hg : g < w.heap.size) (hl : p.length ≤ 9) (h : EIs w g 0 p) : Is w (.slice (some ⟨g, 0, none⟩) p.length p.length) p := by
  refine ⟨_, p.length, rfl, Nat.le_refl _, by unfold maxLen; omega, fun _ => ⟨g, 0, rfl, hg, fun k m hk => ?_⟩⟩
  have := h.get hk
  rwa [Nat.zero_add] at this ⊢

theorem cell_newg {w : World} {t : TypeId} {vs : Array Value} {g k : Nat} {v : Value} (hg : g = w.heap.size) (hv : vs[k]? = some v) : (w.alloc (.cells vs t)).cell? ⟨g, k, none⟩ = some v := by
  subst hg
  exact cell_new hv

theorem ei {w : World} {g o : Nat} {x : Int} (h1 : -9223372036854775808 ≤ x) (h2 : x ≤ 9223372036854775807) (h : w.cell? ⟨g, o, none⟩ = some (.int .i64 x)) : EI w g o x := ⟨h1, h2, h⟩

end Go.Proofs.YtoapgbaibpkckaaGreatDoor

/- What binds make of a right term is right; two rows of binds in one. -/
namespace Go.Proofs.YtoapgbaibpkckaaGreatDoor
open Go.RowKit Go.Maps

theorem codeD_ge {sig : List Sy} (ha : ArOk sig) {c e : Int} (h : codeD sig c = some e) : -1 ≤ e := by
  unfold codeD at h
  split at h
  · cases h
  · split at h
    · cases h; omega
    · cases hs : sig[c.toNat]? with
      | none => rw [hs] at h; cases h
      | some s =>
        rw [hs] at h
        have := ha s (List.mem_of_getElem? hs)
        simp only [Option.some.injEq] at h
        omega

theorem firstT_cons (sig : List Sy) (m : Int) (i : Nat) (c : Int) (t : List Int) : firstT sig m i (c :: t) = (match codeD sig c with | none => (0, 30) | some e => if m + e = 0 then ((i : Int) + 1, 0) else firstT sig (m + e) (i + 1) t) := rfl

theorem firstT_le (sig : List Sy) : ∀ (t : List Int) (m : Int) (i : Nat), (firstT sig m i t).2 = 0 → (firstT sig m i t).1 ≤ (i : Int) + t.length
  | [], m, i, h => by simp [firstT] at h
  | c :: t, m, i, h => by
    rw [firstT_cons] at h ⊢
    cases hc : codeD sig c with
    | none => rw [hc] at h; simp at h
    | some e =>
      rw [hc] at h
      simp only at h ⊢
      split
      · simp only [List.length_cons]; omega
      · rename_i hm
        rw [if_neg hm] at h
        have := firstT_le sig t (m + e) (i + 1) h
        simp only [List.length_cons]
        omega

theorem row_first {sig : List Sy} {t : List Int} : rowE sig t = 0 ↔ firstT sig 1 0 t = ((t.length : Int), 0) := by
  unfold rowE
  constructor
  · intro h
    split at h
    · cases h
    · rename_i hn
      have h1 := firstT_le sig t 1 0 h
      have h2 : ¬ (firstT sig 1 0 t).1 < (t.length : Int) := fun h3 => hn ⟨h, h3⟩
      refine Prod.ext ?_ h
      show (firstT sig 1 0 t).1 = _
      omega
  · intro h
    rw [h]
    simp

/-- A row that closes d terms, ahead of another one. -/
theorem first_app {sig : List Sy} (ha : ArOk sig) : ∀ (x : List Int) (d : Int) (j : Nat), 1 ≤ d → firstT sig d j x = ((j : Int) + x.length, 0) → ∀ (m : Int) (i : Nat) (r : List Int), d ≤ m → firstT sig m i (x ++ r) = if m = d then ((i : Int) + x.length, 0) else firstT sig (m - d) (i + x.length) r
  | [], d, j, hd, h, m, i, r, hm => by simp [firstT] at h
  | c :: x, d, j, hd, h, m, i, r, hm => by
    rw [List.cons_append]
    rw [firstT_cons] at h ⊢
    cases hc : codeD sig c with
    | none => rw [hc] at h; simp at h
    | some e =>
      rw [hc] at h
      simp only at h ⊢
      have he := codeD_ge ha hc
      by_cases h0 : d + e = 0
      · rw [if_pos h0] at h
        have hx : x = [] := by
          have := congrArg Prod.fst h
          simp only [List.length_cons] at this
          exact List.eq_nil_of_length_eq_zero (by omega)
        subst hx
        by_cases hmd : m = d
        · rw [if_pos (by omega), if_pos hmd]; simp
        · rw [if_neg (by omega), if_neg hmd, show m + e = m - d by omega]; simp
      · rw [if_neg h0] at h
        rw [if_neg (by omega), first_app ha x (d + e) (j + 1) (by omega) (by rw [h]; simp only [List.length_cons, Prod.mk.injEq, and_true]; omega) (m + e) (i + 1) r (by omega)]
        by_cases hmd : m = d
        · rw [if_pos hmd, if_pos (by omega)]
          simp only [List.length_cons, Prod.mk.injEq, and_true]
          omega
        · rw [if_neg hmd, if_neg (by omega), show m + e - (d + e) = m - d by omega, List.length_cons, show i + 1 + x.length = i + (x.length + 1) by omega]

/-- Right pieces make a right row of a right row. -/
theorem first_laid {sig : List Sy} (ha : ArOk sig) {f : Int → Option (List Int)} (hf : ∀ n u, f n = some u → rowE sig u = 0) : ∀ (t : List Int) (d : Int) (j i : Nat), 1 ≤ d → firstT sig d j t = ((j : Int) + t.length, 0) → firstT sig d i (laidL f t) = ((i : Int) + (laidL f t).length, 0)
  | [], d, j, i, hd, h => by simp [firstT] at h
  | c :: t, d, j, i, hd, h => by
    have hl : laidL f (c :: t) = piece f c ++ laidL f t := by unfold laidL; rw [List.flatMap_cons]
    rw [hl]
    rw [firstT_cons] at h
    cases hc : codeD sig c with
    | none => rw [hc] at h; simp at h
    | some e =>
      rw [hc] at h
      simp only at h
      have he := codeD_ge ha hc
      -- what is left behind the code
      have hrest : d + e = 0 → t = [] := fun h0 => by
        rw [if_pos h0] at h
        have := congrArg Prod.fst h
        simp only [List.length_cons] at this
        exact List.eq_nil_of_length_eq_zero (by omega)
      have hnext : ¬ d + e = 0 → ∀ i, firstT sig (d + e) i (laidL f t) = ((i : Int) + (laidL f t).length, 0) := fun h0 i => by
        rw [if_neg h0] at h
        exact first_laid ha hf t (d + e) (j + 1) i (by omega) (by rw [h]; simp only [List.length_cons, Prod.mk.injEq, and_true]; omega)
      have hself : firstT sig d i ([c] ++ laidL f t) = ((i : Int) + ([c] ++ laidL f t).length, 0) := by
        rw [List.singleton_append, firstT_cons, hc]
        simp only
        by_cases h0 : d + e = 0
        · rw [if_pos h0, hrest h0]
          simp [laidL]
        · rw [if_neg h0, hnext h0]
          simp only [List.length_cons, Prod.mk.injEq, and_true]
          omega
      by_cases hv : c < 0
      · cases hb : f (-1 - c) with
        | none =>
          have : piece f c = [c] := by unfold piece; rw [if_pos hv, hb]; rfl
          rw [this]
          exact hself
        | some x =>
          have hp : piece f c = x := by unfold piece; rw [if_pos hv, hb]; rfl
          have hx := row_first.1 (hf _ _ hb)
          have he1 : e = -1 := by
            have hc2 := hc
            unfold codeD at hc2
            by_cases h9 : c < -1048576
            · rw [if_pos h9] at hc2; cases hc2
            · rw [if_neg h9, if_pos hv] at hc2; cases hc2; rfl
          rw [hp, first_app ha x 1 0 (by omega) (by rw [hx]; simp) d i (laidL f t) hd]
          by_cases h0 : d + e = 0
          · rw [if_pos (by omega), hrest h0]
            simp [laidL]
          · rw [if_neg (by omega), show d - 1 = d + e by omega, hnext h0, List.length_append]
            simp only [Prod.mk.injEq, and_true]
            omega
      · have : piece f c = [c] := by unfold piece; rw [if_neg hv]
        rw [this]
        exact hself

theorem row_laid {sig : List Sy} (ha : ArOk sig) {f : Int → Option (List Int)} (hf : ∀ n u, f n = some u → rowE sig u = 0) {t : List Int} (h : rowE sig t = 0) : rowE sig (laidL f t) = 0 := by
  have h1 := first_laid ha hf t 1 0 0 (by omega) (by rw [row_first.1 h]; simp)
  exact row_first.2 (by rw [h1]; simp)

/-- The binds ahead of a number; those behind it. -/
def pre (x : Int) (r : List Bd) : List Bd := r.takeWhile fun c => decide (c.1 < x)
def skipE (x : Int) : List Bd → List Bd
  | [] => []
  | c :: r => if c.1 = x then r else c :: r
def post (x : Int) (r : List Bd) : List Bd := skipE x (r.dropWhile fun c => decide (c.1 < x))

end Go.Proofs.YtoapgbaibpkckaaGreatDoor
