/- Texts of the proof, one behind the other. -/
import Derived.Test.YtcijfaijjpkdoaaDoorOwn3
import Derived.Test.YtcijfaijjpkdoaaDoorOwn2
import Derived.Shelf.Abstract
/- What the document's Term and Check answer. -/
namespace Go.Proofs.YtcijfaijjpkdoaaDoor
open Go.RowKit Go.Maps Go.BigFrame

set_option maxRecDepth 100000 in
set_option maxHeartbeats 1600000 in
theorem refTerm_any (sv v : Value) (sig : List Sy) (t : List Int) (w : World) (hs : Sg w sv sig) (h : Is w v t) (ha : ArOk sig) (hb : t.length * 8 ≤ 140737488351232) :
    Calls Tryd.prog 39 #[sv, v] w fun e w' => e = .returned (.int .i64 (rowE sig t)) ∧ w' = w := by
  obtain ⟨so, sc, rfl, hso, hsc, _⟩ := Row.flat hs
  obtain ⟨ao, cap, rfl, hao, hca, q0⟩ := Row.flat h
  unfold maxLen at hca hsc
  have HS := hid hs
  have HT := hid h
  have HA := hid ha
  clear hs h q0 ha
  go_enter Tryd.func39, Tryd.ntmps39
  go_wp2
  go_loopw [5, 6] (fun x i wr => ∃ (k : Nat) (m : Int), k ≤ t.length ∧ x = .int .i64 m ∧ i = .int .i64 k ∧ ((0 < m ∧ firstT sig 1 0 t = firstT sig m k (t.drop k)) ∨ (m = 0 ∧ rowE sig t = 0)) ∧ m ≤ 1 + 1000 * (k : Int) ∧ wr = w) (fun _ i _ => t.length + 1 - (intOf i).toNat)
  case atStart => exact ⟨0, 1, Nat.zero_le _, rfl, rfl, .inl ⟨by omega, rfl⟩, by omega, rfl⟩
  case round =>
    obtain ⟨k, m, hk, rfl, rfl, hft, hm2, hw⟩ := hrel
    have hw8 := hw.symm
    subst hw8
    clear hw
    rcases hft with ⟨hm0, hft⟩ | ⟨rfl, hft⟩
    · have HF := hid hft
      clear hft
      by_cases hlt : k < t.length
      · have hne : ((k : Int) == (t.length : Int)) = false := by rw [beq_eq_false_iff_ne]; omega
        obtain ⟨g, off, c, rfl, hx1, hx2, hx3, hx4⟩ := HT.out.at hlt
        have HD : Hid (t.drop k = c :: t.drop (k + 1)) := drop_get hx1
        clear hx1
        by_cases hbad : (sig.length : Int) ≤ c ∨ c < -1048576
        · have HR : Hid (rowE sig t = 30) := by show _ = _; unfold rowE; rw [HF.out, HD.out, firstT, codeD_none hbad]; rfl
          rcases hbad with hbad | hbad
          · go_wp2
            go_ret
            exact ⟨ret1i HR.out.symm, rfl⟩
          · by_cases hbad2 : (sig.length : Int) ≤ c
            · omega
            · go_wp2
              go_ret
              exact ⟨ret1i HR.out.symm, rfl⟩
        · have hb1 : ¬ (sig.length : Int) ≤ c := fun h => hbad (.inl h)
          have hb2 : ¬ c < -1048576 := fun h => hbad (.inr h)
          clear hbad
          by_cases hc0 : c < 0
          · have hcd : codeD sig c = some (-1) := codeD_var (by omega) hc0
            have hcn : ¬ 0 ≤ c := by omega
            have hwm : IntKind.i64.wrap (m - 1) = m - 1 := IntWalk.i64_in _ ⟨by omega, by omega⟩
            by_cases hz : m - 1 = 0
            · have hzb : (m - 1 == 0) = true := by rw [beq_iff_eq]; exact hz
              have HR : Hid (rowE sig t = if (k : Int) + 1 < (t.length : Int) then 32 else 0) := by
                have h9 : firstT sig 1 0 t = ((k : Int) + 1, 0) := by
                  rw [HF.out, HD.out, firstT, hcd]
                  simp only
                  rw [if_pos (by omega)]
                show _ = _
                unfold rowE
                rw [h9]
                simp
              clear hcd
              by_cases hmore : k + 1 < t.length
              · have HR2 : Hid (rowE sig t = 32) := by show _ = _; rw [HR.out, if_pos (by omega)]
                go_wp2
                go_ret
                exact ⟨ret1i HR2.out.symm, rfl⟩
              · have HR2 : Hid (rowE sig t = 0) := by show _ = _; rw [HR.out, if_neg (by omega)]
                go_wp2
                go_roundw
                case rel => exact ⟨k + 1, 0, by omega, rfl, by go_num, .inr ⟨rfl, HR2.out⟩, by omega, trivial⟩
                case measure => simp [intOf]; omega
            · have hzb : (m - 1 == 0) = false := by rw [beq_eq_false_iff_ne]; exact hz
              have HN : Hid (firstT sig 1 0 t = firstT sig (m - 1) (k + 1) (t.drop (k + 1))) := by show _ = _; rw [HF.out, HD.out, firstT, hcd]; simp only; rw [if_neg (by omega)]; rfl
              clear hcd
              go_wp2
              go_roundw
              case rel => exact ⟨k + 1, m - 1, by omega, rfl, by go_num, .inl ⟨by omega, HN.out⟩, by omega, trivial⟩
              case measure => simp [intOf]; omega
          · obtain ⟨cn, rfl⟩ : ∃ cn : Nat, c = cn := ⟨c.toNat, by omega⟩
            have hcn : (0 : Int) ≤ (cn : Int) := by omega
            obtain ⟨g2, off2, nm, ar, rfl, hs1, hs2, hs3, hs4, hs5, hs6⟩ := HS.out.at (k := cn) (by omega)
            have har := HA.out _ (List.mem_of_getElem? hs1)
            simp only at har
            have hcd : codeD sig (cn : Int) = some (ar - 1) := codeD_sym hs1
            have hwm1 : IntKind.i64.wrap (m - 1) = m - 1 := IntWalk.i64_in _ ⟨by omega, by omega⟩
            have hwm : IntKind.i64.wrap (m - 1 + ar) = m - 1 + ar := IntWalk.i64_in _ ⟨by omega, by omega⟩
            have hcl : cn < sig.length := by omega
            clear hs1
            by_cases hz : m - 1 + ar = 0
            · have hzb : (m - 1 + ar == 0) = true := by rw [beq_iff_eq]; exact hz
              have HR : Hid (rowE sig t = if (k : Int) + 1 < (t.length : Int) then 32 else 0) := by
                have h9 : firstT sig 1 0 t = ((k : Int) + 1, 0) := by
                  rw [HF.out, HD.out, firstT, hcd]
                  simp only
                  rw [if_pos (by omega)]
                show _ = _
                unfold rowE
                rw [h9]
                simp
              clear hcd
              by_cases hmore : k + 1 < t.length
              · have HR2 : Hid (rowE sig t = 32) := by show _ = _; rw [HR.out, if_pos (by omega)]
                go_wp2
                go_ret
                exact ⟨ret1i HR2.out.symm, rfl⟩
              · have HR2 : Hid (rowE sig t = 0) := by show _ = _; rw [HR.out, if_neg (by omega)]
                go_wp2
                go_roundw
                case rel => exact ⟨k + 1, 0, by omega, rfl, by go_num, .inr ⟨rfl, HR2.out⟩, by omega, trivial⟩
                case measure => simp [intOf]; omega
            · have hzb : (m - 1 + ar == 0) = false := by rw [beq_eq_false_iff_ne]; exact hz
              have HN : Hid (firstT sig 1 0 t = firstT sig (m - 1 + ar) (k + 1) (t.drop (k + 1))) := by
                show _ = _
                rw [HF.out, HD.out, firstT, hcd]
                simp only
                rw [if_neg (by omega), show m + (ar - 1) = m - 1 + ar by omega]
              clear hcd
              go_wp2
              go_roundw
              case rel => exact ⟨k + 1, m - 1 + ar, by omega, rfl, by go_num, .inl ⟨by omega, HN.out⟩, by omega, trivial⟩
              case measure => simp [intOf]; omega
      · have heq : ((k : Int) == (t.length : Int)) = true := by rw [beq_iff_eq]; omega
        have HR : Hid (rowE sig t = 31) := by show _ = _; unfold rowE; rw [HF.out, List.drop_of_length_le (by omega)]; rfl
        go_wp2
        go_ret
        exact ⟨ret1i HR.out.symm, rfl⟩
    · have HR := hid hft
      clear hft
      go_wp2
      go_ret
      exact ⟨ret1i HR.out.symm, rfl⟩

set_option maxRecDepth 100000 in
set_option maxHeartbeats 800000 in
theorem refCheck_any (sv v : Value) (sig : List Sy) (t : List Int) (w : World) (hs : Sg w sv sig) (h : Is w v t) (hb : t.length * 8 ≤ 140737488351232) :
    Calls Tryd.prog 16 #[sv, v] w fun e w' => e = .returned (.int .i64 (termE sig t)) ∧ Below w.heap.size w w' := by
  have HS := hid hs
  have HI := hid h
  clear hs h
  go_enter Tryd.func16, Tryd.ntmps16
  go_wp2_with fail
  refine (refCheckSig_any sv sig w HS.out).mono ?_
  rintro e w1 ⟨rfl, hb1⟩
  have HB := hid hb1
  have HS1 := hid (HS.out.kp (Kp.of_below hb1))
  have HI1 := hid (HI.out.kp (Kp.of_below hb1))
  clear hb1
  by_cases he : sigE sig = 0
  · have HA := hid (sigE_ok he)
    have HF : Hid (termE sig t = rowE sig t) := by show _ = _; unfold termE; rw [if_pos he]
    rw [he]
    clear he
    go_wp2_with fail
    refine (refTerm_any sv v sig t w1 HS1.out HI1.out HA.out hb).mono ?_
    rintro e w9 ⟨rfl, hw9⟩
    have hw8 := hw9.symm
    subst hw8
    clear hw9
    go_wp2
    go_ret
    exact ⟨ret1i HF.out.symm, HB.out⟩
  · have HF : Hid (termE sig t = sigE sig) := by show _ = _; unfold termE; rw [if_neg he]
    generalize sigE sig = E at he HF ⊢
    have heb : (E != 0) = true := by simpa using he
    go_wp2
    go_ret
    exact ⟨ret1i HF.out.symm, HB.out⟩

end Go.Proofs.YtcijfaijjpkdoaaDoor

/- What Shift, and the document's Shift, answer. -/
namespace Go.Proofs.YtcijfaijjpkdoaaDoor
open Go.RowKit Go.Maps

def okShift (d : Int) (t : List Int) : Bool := t.all fun c => !decide (c < 0) || isVarB (-1 - c + d)
def shiftE (d : Int) (t : List Int) : Int := if okShift d t = true then 0 else 40
def shiftL (d : Int) (t : List Int) : List Int := if okShift d t = true then t.map (fun c => if c < 0 then c - d else c) else []

theorem mem_metA : ∀ {t m : List Int} {c : Int}, c ∈ metA m t ↔ c ∈ m ∨ (c ∈ t ∧ c < 0)
  | [], m, c => by simp [metA]
  | a :: t, m, c => by
    unfold metA
    split
    · rename_i h
      rw [mem_metA]
      constructor
      · rintro (h1 | ⟨h1, h2⟩)
        · exact .inl h1
        · exact .inr ⟨List.mem_cons_of_mem _ h1, h2⟩
      · rintro (h1 | ⟨h1, h2⟩)
        · exact .inl h1
        · rcases List.mem_cons.1 h1 with rfl | h1
          · rcases h with h | h
            · omega
            · exact .inl h
          · exact .inr ⟨h1, h2⟩
    · rename_i h
      rw [mem_metA]
      constructor
      · rintro (h1 | ⟨h1, h2⟩)
        · rcases List.mem_append.1 h1 with h1 | h1
          · exact .inl h1
          · simp at h1
            subst h1
            exact .inr ⟨by simp, by have := fun hh => h (.inl hh); omega⟩
        · exact .inr ⟨List.mem_cons_of_mem _ h1, h2⟩
      · rintro (h1 | ⟨h1, h2⟩)
        · exact .inl (List.mem_append.2 (.inl h1))
        · rcases List.mem_cons.1 h1 with rfl | h1
          · exact .inl (by simp)
          · exact .inr ⟨h1, h2⟩

theorem mem_varsL {t : List Int} {x : Int} : x ∈ varsL t ↔ ∃ c ∈ t, c < 0 ∧ x = -1 - c := by
  unfold varsL
  rw [List.mem_map]
  constructor
  · rintro ⟨c, hc, rfl⟩
    rcases mem_metA.1 hc with h | ⟨h, h2⟩
    · cases h
    · exact ⟨c, h, h2, rfl⟩
  · rintro ⟨c, hc, h2, rfl⟩
    exact ⟨c, mem_metA.2 (.inr ⟨hc, h2⟩), rfl⟩

theorem okShift_vars {d : Int} {t : List Int} : okShift d t = true ↔ ∀ x ∈ varsL t, isVarB (x + d) = true := by
  unfold okShift
  rw [List.all_eq_true]
  constructor
  · intro h x hx
    obtain ⟨c, hc, h2, rfl⟩ := mem_varsL.1 hx
    have := h c hc
    rw [decide_eq_true h2] at this
    simpa using this
  · intro h c hc
    by_cases h2 : c < 0
    · rw [decide_eq_true h2, h _ (mem_varsL.2 ⟨c, hc, h2, rfl⟩)]
      rfl
    · rw [decide_eq_false h2]
      rfl

theorem isVarB_iff {n : Int} : isVarB n = true ↔ 0 ≤ n ∧ n < 1048576 := by
  unfold isVarB
  rw [Bool.and_eq_true, decide_eq_true_eq, decide_eq_true_eq]

theorem isVar_wrap {x d : Int} (h1 : 0 ≤ x) (h2 : x ≤ 9223372036854775807) (h3 : -9223372036854775808 ≤ d) (h4 : d ≤ 9223372036854775807) : isVarB (wrap64 (x + d)) = isVarB (x + d) := by
  by_cases h : x + d ≤ 9223372036854775807
  · rw [IntWalk.wrap64_in _ ⟨by omega, h⟩]
  · have e : wrap64 (x + d) = x + d - 18446744073709551616 := by unfold wrap64; omega
    rw [e]
    have a : isVarB (x + d - 18446744073709551616) = false := by rw [Bool.eq_false_iff]; intro hh; have := isVarB_iff.1 hh; omega
    have b : isVarB (x + d) = false := by rw [Bool.eq_false_iff]; intro hh; have := isVarB_iff.1 hh; omega
    rw [a, b]

theorem renG_shift (d : Int) : ∀ t : List Int, (renG (fun (_ : Unit) n => (n + d, ())) () t).1 = t.map fun c => if c < 0 then c - d else c
  | [] => rfl
  | c :: t => by
    unfold renG
    by_cases h : c < 0
    · rw [if_pos h, List.map_cons, if_pos h, renG_shift d t]
      show (-1 - (-1 - c + d)) :: _ = _
      rw [show -1 - (-1 - c + d) = c - d by omega]
    · rw [if_neg h, List.map_cons, if_neg h, renG_shift d t]

end Go.Proofs.YtcijfaijjpkdoaaDoor

/- What Canon answers. -/
namespace Go.Proofs.YtcijfaijjpkdoaaDoor
open Go.RowKit Go.Maps

theorem under_numbers : Tryd.prog.underlying 133 = some (.map 3 3) := by kernel_rfl
theorem zero_int (w : World) : (zeroValue 3).run Tryd.prog w = .ok (.int .i64 0) w := by kernel_rfl

/-- The numbers met, the last one first, with what they became. -/
abbrev Met := List (Int × Int)
def metV (m : Met) : List (Int × Value) := m.map fun p => (p.1, .int .i64 p.2)
def numN (m : Met) (n : Int) : Int × Met := match m.lookup n with | some i => (i, m) | none => ((m.length : Int), (n, (m.length : Int)) :: m)

theorem metV_lookup (n : Int) : ∀ m : Met, (metV m).lookup n = (m.lookup n).map (Value.int .i64)
  | [] => rfl
  | (k, i) :: m => by
    show List.lookup n ((k, _) :: metV m) = _
    rw [List.lookup_cons, List.lookup_cons]
    cases n == k with
    | true => rfl
    | false => exact metV_lookup n m

/-- The closure of numbersAsMet. -/
def NumSt (b bx : Nat) (w : World) (m : Met) : Prop := w.cell? ⟨bx, 0, none⟩ = some (.map (some b)) ∧ MapV w b (metV m) ∧ m.length ≤ 9223372036854775806

set_option maxRecDepth 100000 in
set_option maxHeartbeats 800000 in
theorem number_closure (n : Int) (b bx : Nat) (m : Met) (w : World) (hc : w.cell? ⟨bx, 0, none⟩ = some (.map (some b))) (hm : MapV w b (metV m)) (hl : m.length < 9223372036854775806) (h1 : -9223372036854775808 ≤ n) (h2 : n ≤ 9223372036854775807) :
    Calls Tryd.prog 89 #[.int .i64 n, .pointer (some ⟨bx, 0, none⟩)] w fun e w' => e = .returned (.int .i64 (numN m n).1) ∧ w'.cell? ⟨bx, 0, none⟩ = some (.map (some b)) ∧ MapV w' b (metV (numN m n).2) ∧ w.grownBy w' (some b) := by
  have hlk := hm.look under_numbers (zero_int w) h1 h2
  rw [metV_lookup] at hlk
  have HM := hid hm
  have HCx := hid hc
  clear hm
  cases hn : m.lookup n with
  | some i =>
    have HN : Hid (numN m n = (i, m)) := by show _ = _; unfold numN; rw [hn]
    rw [hn] at hlk
    have HL : Hid ((Instr.lookup 133 (.map (some b)) (.int .i64 n) true).run Tryd.prog w = .ok (.tuple #[.int .i64 i, .bool true]) w) := hlk
    clear hlk hn
    go_enter Tryd.func89, Tryd.ntmps89
    go_wp2_with (first
      | (at_lookup; refine wpList_lookup_run rfl _ _ _ _ rfl _ _ _ rfl rfl HL.out ?_))
    go_ret
    exact ⟨by rw [HN.out]; rfl, HCx.out, by rw [HN.out]; exact HM.out, World.grownBy.refl _ _⟩
  | none =>
    have HN : Hid (numN m n = ((m.length : Int), (n, (m.length : Int)) :: m)) := by show _ = _; unfold numN; rw [hn]
    have hnone : (metV m).lookup n = none := by rw [metV_lookup, hn]; rfl
    rw [hn] at hlk
    have HL : Hid ((Instr.lookup 133 (.map (some b)) (.int .i64 n) true).run Tryd.prog w = .ok (.tuple #[.int .i64 0, .bool false]) w) := hlk
    have hml : (metV m).length = m.length := by simp [metV]
    have hlen := HM.out.len under_numbers 3
    rw [hml] at hlen
    obtain ⟨w4, hr4, hm4, hg4⟩ := HM.out.store under_numbers h1 h2 hnone (by rw [hml]; unfold maxLen; omega) (.int .i64 (m.length : Int))
    obtain ⟨es, ck, hes⟩ := HM.out.isMap
    have HR4 := hid hr4
    have HM4 : Hid (MapV w4 b (metV ((n, (m.length : Int)) :: m))) := hm4
    have HC4 : Hid (w4.cell? ⟨bx, 0, none⟩ = some (.map (some b))) := (Kp.of_map hg4 hes).cell _ _ hc
    have HG4 := hid hg4
    clear hlk hn hnone hr4 hm4 hg4 hes
    go_enter Tryd.func89, Tryd.ntmps89
    go_wp2_with (first
      | (at_lookup; refine wpList_lookup_run rfl _ _ _ _ rfl _ _ _ rfl rfl HL.out ?_)
      | (at_mapUpdate; refine wpList_mapUpdate_run rfl _ _ _ _ rfl _ _ _ rfl rfl rfl HR4.out ?_))
    go_ret
    exact ⟨by rw [HN.out]; rfl, HC4.out, by rw [HN.out]; exact HM4.out, HG4.out⟩

end Go.Proofs.YtcijfaijjpkdoaaDoor

/- What Canon answers. -/
namespace Go.Proofs.YtcijfaijjpkdoaaDoor
open Go.RowKit Go.Maps

theorem numbersAsMet_any (w : World) : Calls Tryd.prog 64 #[] w fun e w' => ∃ b bx, e = .returned (.func (.func 89) #[] #[.pointer (some ⟨bx, 0, none⟩)]) ∧ w'.cell? ⟨bx, 0, none⟩ = some (.map (some b)) ∧ MapV w' b [] ∧ w.heap.size ≤ b ∧ w.heap.size ≤ bx ∧ b ≠ bx ∧ Below w.heap.size w w' := by
  have hmm := @run_makeMap Tryd.prog
  go_enter Tryd.func64, Tryd.ntmps64
  go_wp2
  go_ret
  refine ⟨w.heap.size, w.heap.size + 1, rfl, by simp, (MapV.made w).later (below_alloc _), Nat.le_refl _, by omega, by omega, below_step (below_alloc _) (below_alloc _)⟩

def ER (w : World) (g o : Nat) (x : List Int) : Prop := x.length * 8 ≤ 140737488351232 ∧ ∃ u, w.cell? ⟨g, o, none⟩ = some u ∧ Is w u x
theorem ER.kp {w w' : World} (hk : Kp w w') (g o : Nat) (x : List Int) (h : ER w g o x) : ER w' g o x := by
  obtain ⟨h0, u, h1, h2⟩ := h
  exact ⟨h0, u, hk.cell _ _ h1, h2.kp hk⟩

/-- A list of rows. -/
def Rs (w : World) (v : Value) (l : List (List Int)) : Prop := Row ER 1 w v l
theorem Rs.kp {w w' : World} {v : Value} {l : List (List Int)} (h : Rs w v l) (hk : Kp w w') : Rs w' v l := Row.imp h hk.size (ER.kp hk)

theorem Rs.at {w : World} {ao : Option Addr} {n cap : Nat} {l : List (List Int)} (h : Rs w (.slice ao n cap) l) {k : Nat} (hk : k < l.length) :
    ∃ g off a t c, ao = some ⟨g, off, none⟩ ∧ l[k]? = some t ∧ w.cell? ⟨g, off + k, none⟩ = some (.slice a t.length c) ∧ Is w (.slice a t.length c) t ∧ t.length * 8 ≤ 140737488351232 := by
  obtain ⟨ao', cap', hv, _, _, hx⟩ := Row.flat h
  simp only [Value.slice.injEq] at hv
  obtain ⟨rfl, rfl, rfl⟩ := hv
  obtain ⟨g, off, t, rfl, hm, h3, v, h5, h6⟩ := hx k hk
  obtain ⟨a, c, rfl, _⟩ := Row.flat h6
  rw [Nat.mul_one] at h5
  exact ⟨g, off, a, t, c, rfl, hm, h5, h6, h3⟩

def canG : Met → List (List Int) → List (List Int)
  | _, [] => []
  | m, t :: l => (renG numN m t).1 :: canG (renG numN m t).2 l

def canL (l : List (List Int)) : List (List Int) := canG [] l

/-- Rows of one's own, by their values. -/
def OwR (w : World) (base : Nat) (vs : List Value) (l : List (List Int)) : Prop := vs.length = l.length ∧ ∀ (j : Nat) (u : Value) (x : List Int), vs[j]? = some u → l[j]? = some x → OwI w base u x

def NumOk (b bx : Nat) (w : World) (m : Met) : Prop := w.cell? ⟨bx, 0, none⟩ = some (.map (some b)) ∧ MapV w b (metV m) ∧ ∀ p ∈ m, 0 ≤ p.2 ∧ p.2 < (m.length : Int)

theorem numN_len (m : Met) (n : Int) : (numN m n).2.length ≤ m.length + 1 := by
  unfold numN
  split <;> simp

theorem numN_in {m : Met} {n : Int} (h : ∀ p ∈ m, 0 ≤ p.2 ∧ p.2 < (m.length : Int)) : (0 ≤ (numN m n).1 ∧ (numN m n).1 ≤ (m.length : Int)) ∧ ∀ p ∈ (numN m n).2, 0 ≤ p.2 ∧ p.2 < ((numN m n).2.length : Int) := by
  unfold numN
  split
  · rename_i i hi
    have := h _ (lookup_mem hi)
    exact ⟨by simp only at this ⊢; omega, h⟩
  · refine ⟨by simp only; omega, fun p hp => ?_⟩
    simp only [List.length_cons]
    cases hp with
    | head => simp only; omega
    | tail _ hp => have := h p hp; omega

theorem renumber_canon (b bx : Nat) (v : Value) (t : List Int) (m : Met) (w : World) (hb : b < w.heap.size) (hbx : bx < w.heap.size) (_hne : b ≠ bx) (hst : NumOk b bx w m) (h : Is w v t) (hlen : t.length * 8 ≤ 140737488351232) (hm : m.length ≤ 4611686018427387904) :
    Calls Tryd.prog 65 #[v, .func (.func 89) #[] #[.pointer (some ⟨bx, 0, none⟩)]] w fun e w' => ∃ v', e = .returned v' ∧ OwI w' w.heap.size v' (renG numN m t).1 ∧ NumOk b bx w' (renG numN m t).2 ∧ w.grownBy w' (some b) := by
  refine renumber_any (σ := Met) (NumOk b bx) numN (fun n => 0 ≤ n ∧ n ≤ 9223372036854775807) b 89 (.pointer (some ⟨bx, 0, none⟩)) v t m w List.length numN_len hb hst hlen ?_ ?_ ?_ ?_ ?_ (enters_of Tryd.func89 (by kernel_rfl) rfl)
  · rintro w1 w2 s r ⟨h1, h2, h3⟩ hg hr hj _
    refine ⟨?_, h2.kept hg hr, h3⟩
    have hx : some bx ≠ r := fun e => by
      have := hj bx e.symm
      omega
    rw [World.cell?_of_block (hg.block bx (World.block_lt_of_cell? _ _ h1) hx)]
    exact h1
  · intro w' hg
    obtain ⟨es, ck, hes⟩ := hst.2.1.isMap
    exact h.kp (Kp.of_map hg hes)
  · rintro n s w1 ⟨hn1, hn2⟩ ⟨h1, h2, h3⟩ hs
    refine (number_closure n b bx s w1 h1 h2 (by omega) (by omega) hn2).mono ?_
    rintro e w2 ⟨rfl, k1, k2, k3⟩
    exact ⟨rfl, ⟨k1, k2, (numN_in h3).2⟩, k3⟩
  · rintro s n w1 _ ⟨h1, h2, h3⟩ hs
    have := (numN_in (n := n) h3).1
    omega
  · intro c hc h0
    have hz : -9223372036854775808 ≤ c := by
      obtain ⟨ao, cap, rfl, _, _, hx⟩ := Row.flat h
      obtain ⟨k, hk, rfl⟩ := List.getElem_of_mem hc
      obtain ⟨_, _, y, _, hy, h1, _⟩ := hx k hk
      rw [List.getElem?_eq_getElem hk] at hy
      cases hy
      exact h1
    omega

theorem info_ints : (Tryd.prog.info? 23).map (fun i => (i.zero, i.size, i.bytes)) = some (some (.slice none 0 0), 1, 24) := by kernel_rfl
theorem under_rows : Tryd.prog.underlying 60 = some (.slice 23) := by kernel_rfl

theorem made_nilS (n : Nat) : (madeCells (Value.slice none 0 0).cells (n * 1)).toList = List.replicate n (.slice none 0 0) := by
  have : (Value.slice none 0 0).cells = #[Value.slice none 0 0] := rfl
  rw [this, toList_madeCells_one, Nat.mul_one]

theorem own_lt {w : World} {base g n c m : Nat} {e : TypeId} {s : Nat} {xs : List Value} (h : w.ownsRow base e s (.slice (some ⟨g, 0, none⟩) n c) m xs) : g < w.heap.size := by
  rcases h.2 with ⟨hv, _⟩ | ⟨g', cap, cur, hv, _, hg, _⟩
  · cases hv
  · cases hv
    exact (Array.getElem?_eq_some_iff.1 hg).1

theorem sum_take : ∀ (l : List (List Int)) (k : Nat), ((l.take k).map List.length).sum ≤ (l.map List.length).sum
  | [], k => by simp
  | a :: l, 0 => by simp
  | a :: l, k + 1 => by
    have := sum_take l k
    simp only [List.take_succ_cons, List.map_cons, List.sum_cons]
    omega

theorem renG_len : ∀ (t : List Int) (m : Met), (renG numN m t).2.length ≤ m.length + t.length
  | [], m => by simp [renG]
  | c :: t, m => by
    unfold renG
    split
    · have h1 := renG_len t (numN m (-1 - c)).2
      have h2 := numN_len m (-1 - c)
      simp only [List.length_cons]
      omega
    · have h1 := renG_len t m
      simp only [List.length_cons]
      omega

set_option maxRecDepth 100000 in
set_option maxHeartbeats 1600000 in
theorem canon_any (v : Value) (l : List (List Int)) (w : World) (h : Rs w v l) (hn : l.length * 24 ≤ 140737488351232) (hsum : (l.map List.length).sum ≤ 4611686018427387904) :
    Calls Tryd.prog 35 #[v] w fun e w' => ∃ v' vs, e = .returned v' ∧ w'.ownsRow w.heap.size 23 1 v' l.length vs ∧ OwR w' w.heap.size vs (canL l) ∧ Below w.heap.size w w' := by
  obtain ⟨i1, hi1, hy0, hy1, hy2⟩ := info_parts info_ints
  obtain ⟨ao, cap, rfl, hao, hca, q0⟩ := Row.flat h
  unfold maxLen at hca
  have HR := hid h
  clear h q0
  go_enter Tryd.func35, Tryd.ntmps35
  go_wp2_with fail
  refine (numbersAsMet_any w).mono ?_
  rintro e w1 ⟨b, bx, rfl, hbx, hmv, hb1, hb2, hb3, hbl⟩
  have HBx := hid hbx
  have HMv := hid hmv
  have HB1 := hid hbl
  clear hbx hmv hbl
  go_wp2_with (first
    | (at_make; refine wpList_make_full _ rfl _ _ 60 rfl w.heap.size 23 i1 (.slice none 0 0) 1 under_rows hi1 hy0 hy1 .i64 .i64 _ _ l.length rfl rfl (by omega) (by omega) (by rw [hy2]; omega) (by unfold maxLen; omega) HB1.out.size ?_; intro w0 hown0 hgrow0))
  have hbR : b < w1.heap.size := HMv.out.lt
  have hbxR : bx < w1.heap.size := World.block_lt_of_cell? _ _ HBx.out
  have hRw : w.heap.size ≤ w1.heap.size := HB1.out.size
  have hb0 : Below w1.heap.size w1 w0 := (Below.refl _ _).grown hgrow0 (Nat.le_refl _) (by intro k hk; cases hk)
  rw [made_nilS] at hown0
  have HO0 := hid hown0
  have HB0 : Hid (Below w.heap.size w w0) := below_step HB1.out hb0
  have HN0 : Hid (NumOk b bx w0 []) := ⟨(Kp.of_below hb0).cell _ _ HBx.out, HMv.out.later hb0, fun p hp => (by cases hp)⟩
  clear hown0 hgrow0 hb0
  obtain ⟨R, hR⟩ : ∃ R, R = w1.heap.size := ⟨_, rfl⟩
  rw [← hR] at hbR hbxR hRw HO0 ⊢
  clear hR HBx HMv
  go_loopw [13] (fun i wr => ∃ (k : Nat) (vs : List Value) (dn : List (List Int)) (m : Met), k ≤ l.length ∧ i = .int .i64 k ∧ dn.length = k ∧ canL l = dn ++ canG m (l.drop k) ∧ wr.ownsRow w.heap.size 23 1 (.slice (some ⟨R, 0, none⟩) l.length l.length) l.length (vs ++ List.replicate (l.length - k) (.slice none 0 0)) ∧ OwR wr w.heap.size vs dn ∧ NumOk b bx wr m ∧ m.length ≤ ((l.take k).map List.length).sum ∧ Below w.heap.size w wr) (fun i _ => l.length - (intOf i).toNat)
  case atStart => exact ⟨0, [], [], [], Nat.zero_le _, rfl, rfl, rfl, by simpa using HO0.out, ⟨rfl, fun j u x hj => (by simp at hj)⟩, HN0.out, by simp, HB0.out⟩
  case round =>
    obtain ⟨k, vs, dn, m, hk, rfl, hdn, hcan, how, howr, hnum, hml, hbl⟩ := hrel
    have HDn := hid hdn
    have HCan := hid hcan
    have HOw := hid how
    have HOwr := hid howr
    have HNum := hid hnum
    have HMl := hid hml
    have HB := hid hbl
    clear hdn hcan how howr hnum hml HO0 HB0 HN0
    by_cases hlt : k < l.length
    · obtain ⟨g, off, ra, t, rc, rfl, hm, hc0, hit, ht8⟩ := (HR.out.kp (Kp.of_below hbl)).at hlt
      have HIt := hid hit
      have hvl : vs.length = k := HOwr.out.1.trans HDn.out
      have hRlt : R < wr.heap.size := own_lt HOw.out
      have HSum : Hid (m.length ≤ 4611686018427387904 ∧ (m.length + t.length ≤ ((l.take (k + 1)).map List.length).sum)) := by
        have h1 := HMl.out
        have h2 := sum_take l k
        rw [List.take_add_one, hm]
        simp only [Option.toList, List.map_append, List.map_cons, List.map_nil, List.sum_append, List.sum_cons, List.sum_nil]
        exact ⟨by omega, by omega⟩
      have HDr : Hid (l.drop k = t :: l.drop (k + 1)) := drop_get hm
      clear hm hit
      go_wp2_with fail
      refine (renumber_canon b bx _ t m wr (by omega) (by omega) hb3 HNum.out HIt.out ht8 HSum.out.1).mono ?_
      rintro e w2 ⟨v', rfl, ho2, hn2, hg2⟩
      obtain ⟨es, ck, hes⟩ := HNum.out.2.1.isMap
      have hR2 : R ≠ b := by omega
      have ho : w2.ownsRow w.heap.size 23 1 (.slice (some ⟨R, 0, none⟩) l.length l.length) l.length (vs ++ List.replicate (l.length - k) (.slice none 0 0)) := HOw.out.kept hg2 (.inr (by simp [Value.ownBlock]; omega))
      have hc3 : w2.cell? ⟨R, k, none⟩ = some (.slice none 0 0) := by
        have := World.ownsRow.cellAt ho k (by omega)
        rw [this, List.getElem?_append_right (by omega), hvl, Nat.sub_self, List.getElem?_replicate, if_pos (by omega)]
      have hf3 : w2.frozen? ⟨R, k, none⟩ = false := World.ownsRow.frozenAt ho k
      have hst := (World.ownsRow.stored ho k v').1
      have hset : (vs ++ List.replicate (l.length - k) (Value.slice none 0 0)).set k v' = (vs ++ [v']) ++ List.replicate (l.length - (k + 1)) (Value.slice none 0 0) := by
        rw [show l.length - k = (l.length - (k + 1)) + 1 by omega, List.replicate_succ, set_midI _ _ _ _ _ hvl]
        simp
      rw [hset] at hst
      have HSt := hid hst
      have HOwr2 : Hid (OwR (w2.setCell ⟨R, k, none⟩ v') w.heap.size (vs ++ [v']) (dn ++ [(renG numN m t).1])) := by
        refine ⟨by rw [List.length_append, List.length_append, HOwr.out.1]; rfl, fun j u x hj hx => ?_⟩
        have hstep : ∀ {u x}, OwI w2 w.heap.size u x → OwI (w2.setCell ⟨R, k, none⟩ v') w.heap.size u x := fun {u x} hu => hu.kept (set_grown w2 R k v') (ownsRow_apart hu.2 ho (by decide))
        by_cases hjl : j < vs.length
        · rw [List.getElem?_append_left hjl] at hj
          rw [List.getElem?_append_left (by rw [← HOwr.out.1]; exact hjl)] at hx
          have hu := HOwr.out.2 j u x hj hx
          exact hstep (hu.kept hg2 (own_notMap hu.2 hes))
        · rw [List.getElem?_append_right (by omega)] at hj
          rw [List.getElem?_append_right (by rw [← HOwr.out.1]; omega), ← HOwr.out.1] at hx
          have hj0 : j - vs.length = 0 := by
            have := (List.getElem?_eq_some_iff.1 hj).1
            simp at this
            omega
          rw [hj0] at hj hx
          simp at hj hx
          subst hj
          subst hx
          exact hstep (ho2.mono HB.out.size)
      have HNum2 : Hid (NumOk b bx (w2.setCell ⟨R, k, none⟩ v') (renG numN m t).2) := by
        refine ⟨?_, hn2.2.1.kept (set_grown w2 R k v') (by simpa using hR2), hn2.2.2⟩
        have hx : some bx ≠ some R := by simp; omega
        rw [World.cell?_of_block ((set_grown w2 R k v').block bx (World.block_lt_of_cell? _ _ hn2.1) hx)]
        exact hn2.1
      have HB2 : Hid (Below w.heap.size w (w2.setCell ⟨R, k, none⟩ v')) := (HB.out.grown hg2 HB.out.size (fun j hj => by cases hj; exact hb1)).setCell (p := ⟨R, k, none⟩) hRw _
      have HMl2 : Hid ((renG numN m t).2.length ≤ ((l.take (k + 1)).map List.length).sum) := by
        have h1 := renG_len t m
        have h2 := HSum.out.2
        show _ ≤ _
        omega
      have HCan2 : Hid (canL l = (dn ++ [(renG numN m t).1]) ++ canG (renG numN m t).2 (l.drop (k + 1))) := by
        show _ = _
        rw [HCan.out, HDr.out, canG]
        simp
      obtain ⟨va, vc, rfl, _, _⟩ := ho2.shape
      clear ho2 hn2 hg2 hst hset hes ho
      go_wp2
      go_roundw
      case rel => exact ⟨k + 1, vs ++ [_], dn ++ [(renG numN m t).1], (renG numN m t).2, by omega, by go_num, by rw [List.length_append, HDn.out]; rfl, HCan2.out, HSt.out, HOwr2.out, HNum2.out, HMl2.out, HB2.out⟩
      case measure => simp [intOf]; omega
    · have hke : k = l.length := by omega
      have HF : Hid (canL l = dn) := by
        show _ = _
        rw [HCan.out, List.drop_of_length_le (by omega)]
        simp [canG]
      have HO : Hid (wr.ownsRow w.heap.size 23 1 (.slice (some ⟨R, 0, none⟩) l.length l.length) l.length vs) := by
        have := HOw.out
        rw [show l.length - k = 0 by omega, List.replicate_zero, List.append_nil] at this
        exact this
      go_wp2
      go_ret
      exact ⟨_, vs, rfl, HO.out, by rw [HF.out]; exact HOwr.out, HB.out⟩

end Go.Proofs.YtcijfaijjpkdoaaDoor

/- Literal rows in memory. -/
namespace Go.Proofs.YtcijfaijjpkdoaaDoor
open Go.RowKit Go.Maps Go.BigFrame

theorem is_new (w : World) (xs : List Int) (t : TypeId) (hz : ∀ x ∈ xs, -9223372036854775808 ≤ x ∧ x ≤ 9223372036854775807) (hl : xs.length ≤ 1000) : Is (w.alloc (.cells (xs.map I64).toArray t)) (.slice (some ⟨w.heap.size, 0, none⟩) xs.length xs.length) xs := by
  refine ⟨some ⟨w.heap.size, 0, none⟩, xs.length, rfl, Nat.le_refl _, by unfold maxLen; omega, fun _ => ⟨w.heap.size, 0, rfl, by simp, fun k x hk => ?_⟩⟩
  refine ⟨(hz x (List.mem_of_getElem? hk)).1, (hz x (List.mem_of_getElem? hk)).2, ?_⟩
  rw [Nat.mul_one, Nat.zero_add, cell_of_row _ _ _ _ _ _ (heap_alloc_new _ _)]
  simp [hk, I64]

/-- Binds one behind the other. -/
def EBs (w : World) (g : Nat) : Nat → List Bd → Prop
  | _, [] => True
  | o, b :: r => EB w g o b ∧ EBs w g (o + 2) r

theorem EBs.get {w : World} {g : Nat} : ∀ {p : List Bd} {o k : Nat} {m : Bd}, EBs w g o p → p[k]? = some m → EB w g (o + k * 2) m
  | [], _, _, _, _, h => by simp at h
  | x :: r, o, 0, m, h, hk => by
    simp at hk
    subst hk
    exact h.1
  | x :: r, o, k + 1, m, h, hk => by
    have := EBs.get h.2 (k := k) (by simpa using hk)
    rw [show o + (k + 1) * 2 = o + 2 + k * 2 by omega]
    exact this

theorem bs_lit {w : World} {g : Nat} {p : List Bd} (hg : g < w.heap.size) (hl : p.length ≤ 9) (h : EBs w g 0 p) : Bs w (.slice (some ⟨g, 0, none⟩) p.length p.length) p := by
  refine ⟨_, p.length, rfl, Nat.le_refl _, by unfold maxLen; omega, fun _ => ⟨g, 0, rfl, hg, fun k m hk => ?_⟩⟩
  have := h.get hk
  rwa [Nat.zero_add] at this ⊢

def ESs (w : World) (g : Nat) : Nat → List Sy → Prop
  | _, [] => True
  | o, b :: r => ES w g o b ∧ ESs w g (o + 2) r

theorem ESs.get {w : World} {g : Nat} : ∀ {p : List Sy} {o k : Nat} {m : Sy}, ESs w g o p → p[k]? = some m → ES w g (o + k * 2) m
  | [], _, _, _, _, h => by simp at h
  | x :: r, o, 0, m, h, hk => by
    simp at hk
    subst hk
    exact h.1
  | x :: r, o, k + 1, m, h, hk => by
    have := ESs.get h.2 (k := k) (by simpa using hk)
    rw [show o + (k + 1) * 2 = o + 2 + k * 2 by omega]
    exact this

theorem sg_lit {w : World} {g : Nat} {p : List Sy} (hg : g < w.heap.size) (hl : p.length ≤ 9) (h : ESs w g 0 p) : Sg w (.slice (some ⟨g, 0, none⟩) p.length p.length) p := by
  refine ⟨_, p.length, rfl, Nat.le_refl _, by unfold maxLen; omega, fun _ => ⟨g, 0, rfl, hg, fun k m hk => ?_⟩⟩
  have := h.get hk
  rwa [Nat.zero_add] at this ⊢

def ERs (w : World) (g : Nat) : Nat → List (List Int) → Prop
  | _, [] => True
  | o, b :: r => ER w g o b ∧ ERs w g (o + 1) r

theorem ERs.get {w : World} {g : Nat} : ∀ {p : List (List Int)} {o k : Nat} {m : List Int}, ERs w g o p → p[k]? = some m → ER w g (o + k * 1) m
  | [], _, _, _, _, h => by simp at h
  | x :: r, o, 0, m, h, hk => by
    simp at hk
    subst hk
    exact h.1
  | x :: r, o, k + 1, m, h, hk => by
    have := ERs.get h.2 (k := k) (by simpa using hk)
    rw [show o + (k + 1) * 1 = o + 1 + k * 1 by omega]
    exact this

theorem rs_lit {w : World} {g : Nat} {p : List (List Int)} (hg : g < w.heap.size) (hl : p.length ≤ 9) (h : ERs w g 0 p) : Rs w (.slice (some ⟨g, 0, none⟩) p.length p.length) p := by
  refine ⟨_, p.length, rfl, Nat.le_refl _, by unfold maxLen; omega, fun _ => ⟨g, 0, rfl, hg, fun k m hk => ?_⟩⟩
  have := h.get hk
  rwa [Nat.zero_add] at this ⊢

theorem cell_new {w : World} {t : TypeId} {vs : Array Value} {k : Nat} {v : Value} (hv : vs[k]? = some v) : (w.alloc (.cells vs t)).cell? ⟨w.heap.size, k, none⟩ = some v := by
  rw [cell_of_row _ _ _ _ _ _ (heap_alloc_new _ _)]
  simpa using hv

theorem cell_old {w : World} {o : Obj} {g k : Nat} {v : Value} (h : w.cell? ⟨g, k, none⟩ = some v) : (w.alloc o).cell? ⟨g, k, none⟩ = some v := (Kp.of_below (below_alloc o)).cell _ _ h

def sumS : List Sy := [(⟨#[122, 101, 114, 111]⟩, 0), (⟨#[115]⟩, 1), (⟨#[112, 108, 117, 115]⟩, 2)]

theorem applyE_1 : applyE sumS [(0, [1, -2]), (1, [0])] [2, -1, -2] = 0 := by kernel_rfl
theorem applyL_1 : applyL sumS [(0, [1, -2]), (1, [0])] [2, -1, -2] = [2, 1, -2, 0] := by kernel_rfl
theorem bindE_1 : bindE sumS [(2, [0]), (2, [0])] = 41 := by kernel_rfl
theorem bindE_2 : bindE sumS [(0, [1])] = 31 := by kernel_rfl
theorem shift_1 : shiftE 3 [2, -1, -2] = 0 := by kernel_rfl
theorem shift_2 : shiftL 3 [2, -1, -2] = [2, -4, -5] := by kernel_rfl
theorem shift_3 : shiftE (-3) [-3] = 40 := by kernel_rfl
theorem canon_1 : canL [[2, -7, -3], [-3, -9]] = [[2, -1, -2], [-2, -3]] := by kernel_rfl

end Go.Proofs.YtcijfaijjpkdoaaDoor

/- The calls of the examples. -/
namespace Go.Proofs.YtcijfaijjpkdoaaDoor
open Go.RowKit Go.Maps Go.BigFrame

theorem b0 {w : World} : Below w.heap.size w w := Below.refl _ _
theorem b1 {w w' : World} {o : Obj} (h : Below w.heap.size w w') : Below w.heap.size w (w'.alloc o) := below_step h (below_alloc o)

def EIs (w : World) (g : Nat) : Nat → List Int → Prop
  | _, [] => True
  | o, x :: r => EI w g o x ∧ EIs w g (o + 1) r

theorem EIs.get {w : World} {g : Nat} : ∀ {p : List Int} {o k : Nat} {m : Int}, EIs w g o p → p[k]? = some m → EI w g (o + k * 1) m
  | [], _, _, _, _, h => by simp at h
  | x :: r, o, 0, m, h, hk => by
    simp at hk
    subst hk
    exact h.1
  | x :: r, o, k + 1, m, h, hk => by
    have := EIs.get h.2 (k := k) (by simpa using hk)
    rw [show o + (k + 1) * 1 = o + 1 + k * 1 by omega]
    exact this

theorem is_lit {w : World} {g : Nat} {p : List Int} (hg : g < w.heap.size) (hl : p.length ≤ 9) (h : EIs w g 0 p) : Is w (.slice (some ⟨g, 0, none⟩) p.length p.length) p := by
  refine ⟨_, p.length, rfl, Nat.le_refl _, by unfold maxLen; omega, fun _ => ⟨g, 0, rfl, hg, fun k m hk => ?_⟩⟩
  have := h.get hk
  rwa [Nat.zero_add] at this ⊢

theorem cell_newg {w : World} {t : TypeId} {vs : Array Value} {g k : Nat} {v : Value} (hg : g = w.heap.size) (hv : vs[k]? = some v) : (w.alloc (.cells vs t)).cell? ⟨g, k, none⟩ = some v := by
  subst hg
  exact cell_new hv

theorem ei {w : World} {g o : Nat} {x : Int} (h1 : -9223372036854775808 ≤ x) (h2 : x ≤ 9223372036854775807) (h : w.cell? ⟨g, o, none⟩ = some (.int .i64 x)) : EI w g o x := ⟨h1, h2, h⟩

theorem w_apply (w : World) : ∀ W, W = ((((w.alloc (Obj.cells #[Value.int IntKind.i64 1, Value.int IntKind.i64 (-2)] 3)).alloc (Obj.cells #[Value.int IntKind.i64 0] 3)).alloc (Obj.cells #[Value.int IntKind.i64 0, Value.slice (some ⟨w.heap.size, 0, none⟩) 2 2, Value.int IntKind.i64 1, Value.slice (some ⟨w.heap.size + 1, 0, none⟩) 1 1] 30)).alloc (Obj.cells #[Value.int IntKind.i64 2, Value.int IntKind.i64 (-1), Value.int IntKind.i64 (-2)] 3)) →
    Is W (.slice (some ⟨w.heap.size + 1 + 1 + 1, 0, none⟩) 3 3) [2, -1, -2] ∧ Bs W (.slice (some ⟨w.heap.size + 1 + 1, 0, none⟩) 2 2) [(0, [1, -2]), (1, [0])] ∧ Below w.heap.size w W := by
  intro W hW
  have hsz : W.heap.size = w.heap.size + 4 := by rw [hW]; simp
  have i1 : Is W (.slice (some ⟨w.heap.size, 0, none⟩) 2 2) [1, -2] := by
    refine is_lit (p := [1, -2]) (by omega) (by decide) ⟨ei (by omega) (by omega) ?_, ei (by omega) (by omega) ?_, trivial⟩ <;> (rw [hW]; repeat (first | (refine cell_newg ?_ rfl; simp; done) | refine cell_old ?_))
  have i2 : Is W (.slice (some ⟨w.heap.size + 1, 0, none⟩) 1 1) [0] := by
    refine is_lit (p := [0]) (by omega) (by decide) ⟨ei (by omega) (by omega) ?_, trivial⟩ <;> (rw [hW]; repeat (first | (refine cell_newg ?_ rfl; simp; done) | refine cell_old ?_))
  refine ⟨?_, ?_, by rw [hW]; exact b1 (b1 (b1 (b1 b0)))⟩
  · refine is_lit (p := [2, -1, -2]) (by omega) (by decide) ⟨ei (by omega) (by omega) ?_, ei (by omega) (by omega) ?_, ei (by omega) (by omega) ?_, trivial⟩ <;> (rw [hW]; repeat (first | (refine cell_newg ?_ rfl; simp; done) | refine cell_old ?_))
  · refine bs_lit (p := [(0, [1, -2]), (1, [0])]) (by omega) (by decide) ⟨⟨by decide, by decide, by decide, ?_, _, ?_, i1⟩, ⟨by decide, by decide, by decide, ?_, _, ?_, i2⟩, trivial⟩ <;> (rw [hW]; repeat (first | (refine cell_newg ?_ rfl; simp; done) | refine cell_old ?_))

end Go.Proofs.YtcijfaijjpkdoaaDoor

/- What the document's Check of binds, bound, Laid and Apply answer. -/
namespace Go.Proofs.YtcijfaijjpkdoaaDoor
open Go.RowKit Go.Maps Go.BigFrame

set_option maxRecDepth 100000 in
set_option maxHeartbeats 1600000 in
theorem refBinds_any (sv bv : Value) (sig : List Sy) (s : List Bd) (w : World) (hs : Sg w sv sig) (h : Bs w bv s) :
    Calls Tryd.prog 17 #[sv, bv] w fun e w' => e = .returned (.int .i64 (bindE sig s)) ∧ Below w.heap.size w w' := by
  obtain ⟨so, sc, rfl, hso, hsc, _⟩ := Row.flat h
  unfold maxLen at hsc
  have HS := hid hs
  have HI := hid h
  clear hs h
  go_enter Tryd.func17, Tryd.ntmps17
  go_wp2_with fail
  refine (refCheckSig_any sv sig w HS.out).mono ?_
  rintro e w1 ⟨rfl, hb1⟩
  have HB := hid hb1
  clear hb1
  by_cases he : sigE sig = 0
  · have HF : Hid (bindE sig s = bindGo sig none s) := by show _ = _; unfold bindE; rw [if_pos he]
    rw [he]
    clear he
    go_wp2
    go_loopw [5, 6] (fun x i wr => ∃ k : Nat, k ≤ s.length ∧ x = .int .i64 0 ∧ i = .int .i64 k ∧ bindGo sig none s = bindGo sig (ahead s k) (s.drop k) ∧ Below w.heap.size w wr) (fun _ i _ => s.length - (intOf i).toNat)
    case atStart => exact ⟨0, Nat.zero_le _, rfl, rfl, rfl, HB.out⟩
    case round =>
      obtain ⟨k, hk, rfl, rfl, hgo, hbl⟩ := hrel
      have HG : Hid (bindE sig s = bindGo sig (ahead s k) (s.drop k)) := HF.out.trans hgo
      have HBl := hid hbl
      clear hgo
      by_cases hlt : k < s.length
      · have HSr := hid (HS.out.kp (Kp.of_below hbl))
        have HIr := hid (HI.out.kp (Kp.of_below hbl))
        obtain ⟨g, off, x, ba, t, bc, rfl, hm, hc0, hc1, hit, hx1, hx2, hx3⟩ := HIr.out.at hlt
        have HIt := hid hit
        have HD : Hid (bindE sig s = if isVarB x then (if (ahead s k).any (fun y => decide (x ≤ y)) then 41 else if termE sig t = 0 then bindGo sig (some x) (s.drop (k + 1)) else termE sig t) else 40) := by
          show _ = _
          rw [HG.out, drop_get hm]
          rfl
        have HN : Hid (ahead s (k + 1) = some x) := by show (s[k]?).map (·.1) = _; rw [hm]; rfl
        clear hm hit HG hbl
        cases hv : isVarB x
        · have HE : Hid (bindE sig s = 40) := by show _ = _; rw [HD.out, hv]; rfl
          by_cases hx0 : x < 0
          · go_wp2
            go_ret
            exact ⟨ret1i HE.out.symm, HBl.out⟩
          · have hx9 : 1048576 ≤ x := by
              by_cases h9 : 1048576 ≤ x
              · exact h9
              · rw [isVarB_iff.2 ⟨by omega, by omega⟩] at hv
                cases hv
            go_wp2
            go_ret
            exact ⟨ret1i HE.out.symm, HBl.out⟩
        have HD2 : Hid (bindE sig s = if (ahead s k).any (fun y => decide (x ≤ y)) then 41 else if termE sig t = 0 then bindGo sig (some x) (s.drop (k + 1)) else termE sig t) := by
          show _ = _; rw [HD.out, hv, if_pos rfl]
        have hxv := isVarB_iff.1 hv
        have hx0 : ¬ x < 0 := by omega
        have hx9 : ¬ 1048576 ≤ x := by omega
        clear HD hv hxv
        by_cases hk0 : k = 0
        · subst hk0
          rw [Nat.zero_mul, Nat.add_zero] at hc0
          rw [Nat.zero_mul, Nat.add_zero] at hc1
          have HD3 : Hid (bindE sig s = if termE sig t = 0 then bindGo sig (some x) (s.drop 1) else termE sig t) := by show _ = _; rw [HD2.out]; rfl
          clear HD2
          go_wp2
          go_quiet (fail)
          have HBq := hid (below_drewN (Below.refl wr.heap.size wr) nq)
          go_wp2_with fail
          refine (refCheck_any sv _ sig t _ (HSr.out.kp (Kp.of_below HBq.out)) (HIt.out.kp (Kp.of_below HBq.out)) hx3).mono ?_
          rintro e w2 ⟨rfl, hb2⟩
          have HB2 := hid (below_step HBl.out (below_step HBq.out hb2))
          clear hb2
          by_cases hte : termE sig t = 0
          · have HE : Hid (bindGo sig none s = bindGo sig (ahead s (0 + 1)) (s.drop (0 + 1))) := by show _ = _; rw [← HF.out, HD3.out, if_pos hte, HN.out]
            rw [hte]
            clear hte
            go_wp2
            go_roundw
            case rel => exact ⟨0 + 1, by omega, rfl, by go_num, HE.out, HB2.out⟩
            case measure => simp [intOf]; omega
          · have HE : Hid (bindE sig s = termE sig t) := by show _ = _; rw [HD3.out, if_neg hte]
            generalize termE sig t = E at hte HE ⊢
            have heb : (E != 0) = true := by simpa using hte
            go_wp2
            go_ret
            exact ⟨ret1i HE.out.symm, HB2.out⟩
        · obtain ⟨j, rfl⟩ : ∃ j, k = j + 1 := ⟨k - 1, by omega⟩
          clear hk0
          obtain ⟨g', off', y, ya, u, yc, hq, hm2, he0, he1, _, hy1, hy2, _⟩ := HIr.out.at (k := j) (by omega)
          obtain ⟨rfl, rfl⟩ : g = g' ∧ off = off' := by simpa using hq
          have HA : Hid (ahead s (j + 1) = some y) := by show (s[j]?).map (·.1) = _; rw [hm2]; rfl
          have hg0 : (0 : Int) < (j : Int) + 1 := by omega
          have hjl : j < s.length := by omega
          have hjw : IntKind.i64.wrap (j : Int) = (j : Int) := IntWalk.i64_in _ ⟨by omega, by omega⟩
          clear hm2 hq he1
          by_cases hxy : x ≤ y
          · have HE : Hid (bindE sig s = 41) := by show _ = _; rw [HD2.out, HA.out]; simp [hxy]
            go_wp2
            go_quiet (fail)
            go_wp2
            go_ret
            exact ⟨ret1i HE.out.symm, below_drewN HBl.out _⟩
          have HD3 : Hid (bindE sig s = if termE sig t = 0 then bindGo sig (some x) (s.drop (j + 1 + 1)) else termE sig t) := by show _ = _; rw [HD2.out, HA.out]; simp [hxy]
          clear HD2
          go_wp2
          go_quiet (fail)
          have HBq := hid (below_drewN (Below.refl wr.heap.size wr) nq)
          go_wp2_with fail
          refine (refCheck_any sv _ sig t _ (HSr.out.kp (Kp.of_below HBq.out)) (HIt.out.kp (Kp.of_below HBq.out)) hx3).mono ?_
          rintro e w2 ⟨rfl, hb2⟩
          have HB2 := hid (below_step HBl.out (below_step HBq.out hb2))
          clear hb2
          by_cases hte : termE sig t = 0
          · have HE : Hid (bindGo sig none s = bindGo sig (ahead s (j + 1 + 1)) (s.drop (j + 1 + 1))) := by show _ = _; rw [← HF.out, HD3.out, if_pos hte, HN.out]
            rw [hte]
            clear hte
            go_wp2
            go_roundw
            case rel => exact ⟨j + 1 + 1, by omega, rfl, by go_num, HE.out, HB2.out⟩
            case measure => simp [intOf]; omega
          · have HE : Hid (bindE sig s = termE sig t) := by show _ = _; rw [HD3.out, if_neg hte]
            generalize termE sig t = E at hte HE ⊢
            have heb : (E != 0) = true := by simpa using hte
            go_wp2
            go_ret
            exact ⟨ret1i HE.out.symm, HB2.out⟩
      · have hke : k = s.length := by omega
        subst hke
        have HE : Hid (bindE sig s = 0) := by show _ = _; rw [HG.out, List.drop_length]; rfl
        go_wp2
        go_ret
        exact ⟨ret1i HE.out.symm, hbl⟩
  · have HF : Hid (bindE sig s = sigE sig) := by show _ = _; unfold bindE; rw [if_neg he]
    generalize sigE sig = E at he HF ⊢
    have heb : (E != 0) = true := by simpa using he
    go_wp2
    go_ret
    exact ⟨ret1i HF.out.symm, HB.out⟩

set_option maxRecDepth 100000 in
set_option maxHeartbeats 800000 in
theorem refBound_any (bv : Value) (s : List Bd) (n : Int) (w : World) (h : Bs w bv s) :
    Calls Tryd.prog 68 #[bv, .int .i64 n] w fun e w' => ∃ u, e = .returned (.tuple #[u, .bool (s.lookup n).isSome]) ∧ (∀ x, s.lookup n = some x → Is w u x ∧ x.length * 8 ≤ 140737488351232) ∧ w' = w := by
  obtain ⟨so, sc, rfl, hso, hsc, _⟩ := Row.flat h
  unfold maxLen at hsc
  have HI := hid h
  clear h
  go_enter Tryd.func68, Tryd.ntmps68
  go_wp2
  go_loopw [6] (fun i wr => ∃ k : Nat, k ≤ s.length ∧ i = .int .i64 k ∧ s.lookup n = (s.drop k).lookup n ∧ wr = w) (fun i _ => s.length - (intOf i).toNat)
  case atStart => exact ⟨0, Nat.zero_le _, rfl, rfl, rfl⟩
  case round =>
    obtain ⟨k, hk, rfl, hlk, hw⟩ := hrel
    have hw8 := hw.symm
    subst hw8
    have HL := hid hlk
    clear hlk hw
    by_cases hlt : k < s.length
    · obtain ⟨g, off, x, ba, t, bc, rfl, hm, hc0, hc1, hit, hx1, hx2, hx3⟩ := HI.out.at hlt
      have HIt := hid hit
      have HL2 : Hid (s.lookup n = List.lookup n ((x, t) :: s.drop (k + 1))) := by show _ = _; rw [HL.out, drop_get hm]
      clear hm hit HL
      by_cases hxn : x = n
      · have hb : (x == n) = true := by rw [beq_iff_eq]; exact hxn
        have HE : Hid (s.lookup n = some t) := by show _ = _; rw [HL2.out, List.lookup_cons, show (n == x) = true by rw [beq_iff_eq]; exact hxn.symm]
        go_wp2
        go_ret2
        exact ⟨_, by rw [HE.out]; rfl, fun u hu => (by rw [HE.out] at hu; cases hu; exact ⟨HIt.out, hx3⟩), rfl⟩
      · have hb : (x == n) = false := by rw [beq_eq_false_iff_ne]; exact hxn
        have HE : Hid (s.lookup n = (s.drop (k + 1)).lookup n) := by show _ = _; rw [HL2.out, List.lookup_cons, show (n == x) = false by rw [beq_eq_false_iff_ne]; exact fun e => hxn e.symm]
        go_wp2
        go_roundw
        case rel => exact ⟨k + 1, by omega, by go_num, HE.out, trivial⟩
        case measure => simp [intOf]; omega
    · have HE : Hid (s.lookup n = none) := by show _ = _; rw [HL.out, List.drop_of_length_le (by omega)]; rfl
      go_wp2
      go_ret2
      exact ⟨_, by rw [HE.out]; rfl, fun u hu => (by rw [HE.out] at hu; cases hu), rfl⟩

end Go.Proofs.YtcijfaijjpkdoaaDoor
